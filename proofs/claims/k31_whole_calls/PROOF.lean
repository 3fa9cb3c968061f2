import PyProof.Rows.All
import Wide.All
import OpenK.AllK
import Wide.FinOn
import PyProof.EqAt
import PyProof.EqKinds
import PyProof.TupleCall
import Open.Tree
import Wide.Once
import KE.KLam
import KE.KNestM
import KE.KSortTup
import PyProof.Rows.SetFrom
import PySem.Syntax
import PySem.Builtin.Str.Common
import PyProof.SliceList
import PyProof.NeData
import PyProof.ZipIter
import KE.KRevIter
import KE.KItemsList
import PyProof.ListRange
import PyProof.CompFree
import PyProof.PlainList
import Lean
import PySem.Challenge.RW_backtape_k31_whole_calls
set_option autoImplicit false
set_option Elab.async false
set_option linter.all false
set_option maxRecDepth 100000
set_option maxHeartbeats 8000000
set_option genSizeOf false
noncomputable section
open PySem.W renaming Frag->Ow,nsIn->Pj,tabIn->Pw,findIn->Px,emptyDict->PV,keepIn->PZ,fnOf->Qk,instObj->Qs,mg_of->Qx,tabObj->QU,kia_one->Q0,callWith_K->Q2,methodCall_KW->Rf,plainGet->Rk,envX->RI,kitOne->RJ,hasDictIn->RK,codeHdIn->RZ,kla_obj->Sg,lookIn->Sq,codeIn->Ss,plainGet_of->Sx,callWith_K0->Sy,plainOver->SW,methodObj->SX,isFn->S7,takerIn->Tn,makesIn->To,absHeap->T8,SharedT->T9,recOk->Ua,cellsFrom_some->Ui,xlAt->Uo,codeHd_of_K->UF,openSeen->UY,ksm_same->UZ,handedIn->U0
open PySem renaming Expr->Ox,Value->Oz,Shared->OB,Program->OO,mainGlobals->OV,Scope->OW,model->OY,starEach->O4,World->O6,sliceBounds->Pa,wpAny_newObj_type->Pf,compareOp->Pr,Stmt->PB,Around->PL,wpAny_holding->PU,wpAny_truthy_bool->P5,mem_of_lookup->Qd,binaryOp->Qi,FuncData->Qq,wpAny_Call_Name_kw->Qu,wpAny_setState_of->QD,backTo->QE,wpAny_callSpecial?_slot->QF,rawInt->QH,Arguments->QI,builtinsNs->QJ,wpAny_passesOwn->QW,NameKind->QY,wpAny_setField->Q5,wpAny_isInstance->Q6,wpAny_call_entry->Q7,wpAny_typeOf->Rc,sysModules->Re,wpAny_loadPart'->Rj,keywordEach->Rq,fits_of_scanBound->Rr,call_meets->Rt,Expr->Ru,Operator->Ry,scanBound->RB,builtinLookup_eq_fast->RC,wpAny_updateSeq->RM,swapsWith->RN,pickOrder->RO,codeAmong->RP,bootBuiltins->Sb,wpAny_call->Sn,attributeBase->Sw,wpAny_ite_split->SM,wpAny_execs_nil->SN,typeLookup_type->SO,spliced->SQ,letOwnedTupleGo->SR,importedModules->SS,sliceRange->SY,backToKw->SZ,assignEach->S6,wpAny_pyIter_revIter->Tc,wpAny_setEntries_of->Tj,Keyword->Tt,storeSet->TF,pyNext->TH,getMethod->TJ,behindInMarks->TL,DictEntry->TU,wpAny_rule->T5,typeLookup->T6,getItem->T7,Stmt->Uh,IsPart->Ul,noFill_tuple_add->Um,bindArgs->Us,wpAny_specialOf->Uy,sizeLine_eq->Uz,assign->UB,Result->UD,Within->UE,Fin->UG,wpAny_seqItems->UP,wpAny_binaryOp_repeat_ref->UQ,setAddHashedIn->UR,isSubtype_type->US,evalArgs_none->UT,wpAny_getItem_list_slice->UX,wpAny_standAt->U8,wpAny_Call_method0_late->U9,seq_tuple_add->Vb,evalPart_none->Vc,compEnvC->Vd,callerA->Ve,call->Vh,Builtin->Vl
open PySem.Heap renaming get?_push_of_some->OA,lt_size->OG,get?_push_size->OI,get?_update_self->Pb,SameBut->PJ,size_push->PM,get?_update_other->Qj,ExtBut->TX
open Bool renaming and_eq_true->OC,false_ne_true->Pe,or_eq_true->QN,not_eq_true'->Rh,or_false->S9,not_true->Uv
open List renaming size_toArray->OD,getElem?_eq_getElem->OF,getElem?_append_left->OH,getElem?_eq_none->OJ,mem_cons_of_mem->OL,mem_of_getElem?->OM,mem_cons_self->ON,length_map->OQ,length_append->OS,getElem?_append_right->OU,replicate->OX,length_cons->OZ,map_cons->O0,getElem?_map->O2,mem_append_right->O7,range->O8,filterMap_cons->O9,getElem?_set_ne->Pd,append_nil->Pk,getElem?_of_mem->Po,length_singleton->Pv,append_assoc->PF,length_nil->PN,length_dropLast->PP,lookup_cons->PR,getElem?_set_self->PY,all_eq_true->P7,mem_append_left->Qa,map_map->Qc,replicate_succ->Qg,map_congr_left->Qh,not_mem_nil->Qo,singleton_append->Qp,getElem?_range->QB,map_nil->QK,map_append->QL,mem_cons->QS,flatten_cons->QT,getD_eq_getElem?_getD->QV,getLast?_eq_getElem?->QX,lookup->QZ,getElem?_take_of_lt->Q3,nil_append->Q8,getElem?_replicate->Q9,getElem?_dropLast->Rg,set_append_right->Rm,length_replicate->Rn,any_cons->Rz,reverse_cons->R0,length_range->R6,length->Sd,head_eq_of_cons_eq->Se,getElem_mem->Sh,reverse_singleton->Sj,range_succ_eq_map->Sk,of_mem_zip->Su,nodup_nil->SG,drop_zero->SH,ext_getElem?->Tg,length_take->Tw,eq_nil_of_length_eq_zero->Tz,dropLast_concat_getLast->TQ,length_eraseIdx_of_lt->Ue,getElem?_eq_none_iff->Uj,drop_eq_getElem_cons->Uk,foldl->Uq,sum_cons->Ut,all_cons->Uu,find?_cons_of_neg->UH,set_set->UM,getElem?_reverse->UN,reverse_append->U3,range'->U4,mem_map_of_mem->U5,length_reverse->U6,drop_succ_cons->U7,zip_cons_cons->Vk
open Nat renaming le_refl->OE,lt_or_ge->OR,lt_of_lt_of_le->O1,ne_of_lt->O3,le_trans->Ph,lt_irrefl->Pi,zero_le->Pq,le_of_lt->PK,lt_succ_self->P8,le_succ->P9,lt_trichotomy->Qf,ne_of_gt->QA,mul_comm->Q4,not_lt_zero->SA,div_add_mod->SB,mod_lt->SC,div_le_div_right->SE,mul_div_cancel->Te,lt_of_le_of_lt->Tf,lt_succ_of_lt->Tq,lt_trans->Tv,zero_add->UU
open Option.some renaming inj->OP,injEq->RG
open PySem.Str renaming ofString->OT,ofString_eq_toList->UL
open PyProof.Rows renaming callWith_type1->O5,slot_tuple_getitem->Qm,firstMet->Qv,IntsAre->RX,callWith_builtin1->Sz,AllBare->Ug,envOfC->UA,subscriptTail->Va
open Array renaming getElem?_eq_getElem->Pc,getElem?_eq_none->PX,length_toList->P1,eq_empty_of_size_eq_zero->Ti,getElem?_append_left->TZ,getElem?_extract->Uw,toList->UI,getElem?_toList->UJ,getElem?_push->UW
open False renaming elim->Pn
open PySem.Heap.SameBut renaming update->Pp,refl->Sv
open PySem.Value renaming ref->Pu,none->Rx,int->RE,type->RT,isStrOf->SV,isInt->TM,str->UC,isInt_shape->Vf,bool->Vg
open PySem.NameKind renaming free->Py,cell->SD
open PySem.Builtin.List renaming listExtendWith->Pz,listTooLong->P0,listLengthHint->QC,listSameRef->QO,listItems->Tu
open Ne renaming symm->PD
open PySem.Obj renaming mapFields->P4,mapSeq->Qe
open PySem.Calls renaming spliced_cons->P6,spliced_nil->Qw,callWith_builtin->Si,Name_function_global->TY
open Option renaming bind_some->Ql,getD_some->Vi,getD_none->Vj
open PySem.F renaming plain_extend_loop->Qn,args_tuple_add_2->RL,plainAttrs_list->RU,entry_tuple_add->RV,slot_tuple_add->R8,entry_extend_loop->TN,slot_dict_items->Ub,plain_list_iadd->Uc,slot_set_iter->Up
open PySem.Around renaming under_plainId->Qt,under->Ux,frames_deeper->UK
open Int renaming toNat_natCast->Qz
open PySem.Builtin.Slice renaming slicePlaces->QG,sliceAdjust->Rp,sliceApplied->SL
open PySem.Builtin.Tuple renaming tupleExact->QM,tupleTooMany->SI,tupleItemsOf->SK
open Prod renaming fst->Rl
open List.cons renaming injEq->Ro
open PySem.pickOrder renaming go->Rv
open True renaming intro->RY
open ForInStep renaming yield->Sa
open List.Pairwise renaming map->So
open PySem.PassesOwn renaming never->Td
open PySem.Heap.IsSliceOf renaming new->TR
open Classical renaming axiomOfChoice->TV
open Prod.mk renaming injEq->Ud
open Char renaming toNat->Ur
open PySem.Code renaming isFrame->UO
open PySem.AutoSeq1 renaming idx_int->UV
open PyProof.Rows.IntsAre renaming length->U1
section
namespace L2
open PySem PySem.Spec PyProof.Rows
def cH (s:Uh):QI:=match s with
 | .FunctionDef _ a _ _ _ _ _ _ _ _=>a
 | _=>{ posonlyargs:=[],args:=[],vararg:=none,kwonlyargs:=[],kw_defaults:=[],kwarg:=none,defaults:=[] }
def aL (s:Uh):List Uh:=match s with
 | .FunctionDef _ _ b _ _ _ _ _ _ _=>b
 | _=>[]
def ao (s:Uh):OW:=match s with
 | .FunctionDef _ _ _ _ _ _ sc _ _ _=>sc
 | _=>{ kind:=.function,names:=[],isGenerator:=false,isCoroutine:=false }
end L2
end
section
namespace BR
open PySem PySem.W PyProof.Rows
noncomputable def oW:List Obj->BT->Nat->Option (BT×Nat)
 | [],T,n=>some (T,n)
 | o :: r,T,n=>match ((T.ins n o).get n).isSome with
  | true=>oW r (T.ins n o) (n+1)
  | false=>none
theorem mJ (life:Life):∀ {l:List Obj}{T T':BT}{n n':Nat},oW l T n=some (T',n')->(T8 T' n' life).objs.toList=(T8 T n life).objs.toList++l
 | [],T,T',n,n',h=>by cases h;simp
 | o :: r,T,T',n,n',h=>by
  unfold oW at h
  cases g:((T.ins n o).get n).isSome with
  | false=>rw[g] at h;cases h
  | true =>
   rw[g] at h
   rw[mJ life h,absHeap_ins g]
   show ((T8 T n life).objs.push o).toList++r=_
   simp
noncomputable def toT (s:OB):Option T9:=match oW s.heap.objs.toList .nil 0 with
 | some (T,n)=>some ⟨T,n,s.heap.life,s.gens,s.drawn,s.toks,s.os⟩
 | none=>none
theorem AB {s:OB}{t:T9} (h:toT s=some t):t.abs=s:=by
 unfold toT at h
 cases e:oW s.heap.objs.toList .nil 0 with
 | none=>rw[e] at h;cases h
 | some r =>
  obtain ⟨T,n⟩:=r
  rw[e] at h
  cases h
  have:=mJ s.heap.life e
  obtain ⟨⟨objs,life⟩,g,d,k,o⟩:=s
  show Shared.mk (T8 T n life) g d k o=Shared.mk ⟨objs,life⟩ g d k o
  have e2:(T8 T n life).objs.toList=objs.toList:=by
   rw[this];simp[T8,BT.list]
  have e3:(T8 T n life).objs=objs:=Array.toList_inj.mp e2
  have e4:T8 T n life=⟨objs,life⟩:=by
   show Heap.mk _ _=Heap.mk _ _
   exact congrArg (Heap.mk · life) e3
  rw[e4]
noncomputable def kh (tb:String->Option Vl) (p:OO) (w:O6) (n₀:Nat) (ann:Option Oz):Nat->T9->Thread->Option T9
 | 0,_,_=>none
 | n+1,s,t=>match through t with
  | true=>some s
  | false=>match stepOk n₀ ann t with
   | false=>none
   | true=>match stepT (denote tb) p w s t with
    | some (s',t')=>kh tb p w n₀ ann n s' t'
    | none=>none
section
variable {tb:String->Option Vl}{p:OO}{w:O6}{n₀:Nat}{ann:Option Oz}
theorem mK:∀ {n:Nat}{s s':T9}{t:Thread},kh tb p w n₀ ann n s t=some s'->topRun tb p w n₀ ann n s.abs t=some s'.abs
 | 0,_,_,_,h=>by cases h
 | n+1,s,s',t,h=>by
  unfold kh at h
  unfold topRun
  cases he:through t with
  | true=>rw[he] at h;cases h;rfl
  | false =>
   rw[he] at h
   cases hk:stepOk n₀ ann t with
   | false=>rw[hk] at h;cases h
   | true =>
    rw[hk] at h
    cases hs:stepT (denote tb) p w s t with
    | none=>rw[hs] at h;cases h
    | some r=>obtain ⟨s₂,t₂⟩:=r;rw[hs] at h;dsimp only;rw[stepT_spec hs];exact mK h
end
noncomputable def kE (tb:String->Option Vl) (p:OO) (w:O6) (N:Nat) (s₀:OB):Option T9 :=
 match s₀.heap.isNs OV&&s₀.gens.size==0 with
 | true=>(toT s₀).bind fun t₀=>(kh tb p w s₀.heap.objs.size (s₀.heap.nsMap OV "__annotations__") N t₀ (topStub p)).bind fun t₁ =>
  match staticsOk (SS p.main.body) s₀.heap t₁.abs.heap&&namesBound p t₁.abs.heap&&gensDone t₁.abs&&laidKept s₀.heap t₁.abs.heap with
   | true=>some t₁
   | false=>none
 | false=>none
theorem qH {tb:String->Option Vl}{p:OO}{w:O6}{N:Nat}{s₀:OB}{t:T9} (h:kE tb p w N s₀=some t):topFrom tb p w N s₀=some t.abs:=by
 unfold kE at h
 unfold topFrom
 cases e:(s₀.heap.isNs OV&&s₀.gens.size==0) with
 | false=>rw[e] at h;cases h
 | true =>
  rw[e] at h
  obtain ⟨t₀,h0,h⟩:=Option.bind_eq_some_iff.mp h
  obtain ⟨t₁,h1,h⟩:=Option.bind_eq_some_iff.mp h
  have h2:=mK h1
  rw[AB h0] at h2
  dsimp only
  rw[h2]
  show (match _ with | true=>some t₁.abs | false=>none)=_
  cases e2:(staticsOk (SS p.main.body) s₀.heap t₁.abs.heap&&namesBound p t₁.abs.heap&&gensDone t₁.abs&&laidKept s₀.heap t₁.abs.heap) with
  | false=>rw[e2] at h;cases h
  | true=>rw[e2] at h;cases h;rfl
noncomputable def mL (tb:String->Option Vl) (p:OO) (w:O6) (N:Nat):Option T9:=(fencedOpening tb p w N).bind (kE tb p w N)
theorem AC {tb:String->Option Vl}{p:OO}{w:O6}{N:Nat}{α:Type}{f:OB->α}{x:α} (h:(mL tb p w N).map (fun t=>f t.abs)=some x):(openEnds tb p w N).map f=some x:=by
 obtain ⟨t,ht,e⟩:=Option.map_eq_some_iff.mp h
 obtain ⟨s₀,h0,h1⟩:=Option.bind_eq_some_iff.mp ht
 unfold openEnds
 rw[h0]
 show (topFrom tb p w N s₀).map f=some x
 rw[qH h1]
 exact congrArg some e
end BR
end
section
namespace BG
open PySem PySem.Spec PySem.Calls PyProof.Rows L2
structure FS where
 name:Str
 qual:Str
 params:QI
 body:FuncBody
 scope:OW
 globals:Addr
 closure:List (Str×Addr)
 defaults:Oz
 builtins:Addr
 code:Bool
noncomputable def AD (K:Ow) (f:Addr):Option FS:=match K.lookup f with
 | some ⟨_,_,.func fd,_⟩=>some ⟨fd.name,fd.qualname,fd.params,fd.body,fd.scope,fd.globals,fd.closure,fd.defaults,fd.builtins,Ss K fd.code fd.qualname⟩
 | _=>none
noncomputable def rY (x qual:Str) (st:Uh):FS:=⟨x,qual,cH st,.stmts (aL st),ao st,OV,[],.none,QJ,true⟩
noncomputable def strOf:Oz->Option Str
 | .str x _=>some x
 | _=>none
noncomputable def intOf:Oz->Option Int
 | .int i _=>some i
 | _=>none
noncomputable def refOf:Option (Option Oz)->Option Addr
 | some (some (.ref a))=>some a
 | _=>none
inductive Qy where
 | fn (x:Str) (f:Addr) (st:Uh) | int (x:Str) (n:Int) | tup (x:Str) (f:Addr) (xs:List Str) | dct (x:Str) (f:Addr) (kvs:List (Str×Int)) | no (x:Str) | cls (c:Str) (C:Addr) | me (C:Addr) (m x qual:Str) (f:Addr) (st:Uh) | mk (C:Addr)
 | tab (x:Str) (c P:Addr) | bm (b:Addr) | fv (x:Str) (f:Addr)
inductive Ov where
 | fn (a:Option Addr) (o:Option FS) | int (n:Option Int) | seq (a:Option Addr) (c:Option (Oz×Option Addr×Nat)) (xs:Option (List (Option Str))) | dct (a:Option Addr) (c:Option (Oz×Option Addr×Nat)) (xs:Option (List (Int×Option Str×Option Int))) | b (x:Bool)
noncomputable def shp (o:Obj):Oz×Option Addr×Nat:=(o.cls,o.dict,o.slots.size)
noncomputable def DB (o:Obj):Option (List (Option Str)):=match o.data with
 | .seq its _=>some (its.toList.map strOf)
 | _=>none
noncomputable def DC (o:Obj):Option (List (Int×Option Str×Option Int)):=match o.data with
 | .dict es _=>some (es.toList.map fun e=>(e.hash,strOf e.key,intOf e.val))
 | _=>none
noncomputable def attrs:List Str:=["program","asked","gap","most","kept","farthest","front","now","origins","branches","tape","named"]
noncomputable def HK (K:Ow) (c:Str) (C:Addr):Bool:=decide (Pj K OV c=some (some (.ref C)))&&Rk K C Str.empty&&RK K C&&SW K C&&decide (Px K (.ref C) "__setattr__"=some (some (.builtin "object.__setattr__"))) &&
 attrs.all fun f=>decide (Px K (.ref C) f=some none)
noncomputable def meB (K:Ow) (C:Addr) (m:Str) (f:Addr):Bool:=decide (Px K (.ref C) m=some (some (.ref f)))&&S7 K (.ref f)
noncomputable def mkB (K:Ow) (C:Addr):Bool:=To K C&&PZ K (.ref C)
noncomputable def bmB (K:Ow) (b:Addr):Bool:=decide (Pj K OV "__builtins__"=some (some (.ref b)))&&decide (b≠QJ)&&(match K.lookup b with
 | some ⟨.type "module",some d,.plain,_⟩=>d==QJ
 | _=>false)
noncomputable def bS (K:Ow):Qy->Ov
 | .fn x f _=>.fn (refOf (Pj K OV x)) (AD K f)
 | .int x _=>.int (match Pj K OV x with | some (some v)=>intOf v | _=>none)
 | .tup x f _=>.seq (refOf (Pj K OV x)) ((K.lookup f).map shp) ((K.lookup f).bind DB)
 | .dct x f _=>.dct (refOf (Pj K OV x)) ((K.lookup f).map shp) ((K.lookup f).bind DC)
 | .no x=>.b (decide (Pj K OV x=some none))
 | .cls c C=>.b (HK K c C)
 | .me C m _ _ f _=>.fn (if meB K C m f then some f else none) (AD K f)
 | .mk C=>.b (mkB K C)
 | .tab x c P=>.b (decide (Pw K x=some (c,P))&&RZ K c P)
 | .bm b=>.b (bmB K b)
 | .fv x f=>.b (decide (Pj K OV x=some (some (.ref f)))&&PZ K (.ref f))
noncomputable def bT (w:O6):Qy->Ov
 | .fn x f st=>.fn (some f) (some (rY x x st))
 | .int _ n=>.int (some n)
 | .tup _ f xs=>.seq (some f) (some (.type "tuple",none,0)) (some (xs.map some))
 | .dct _ f kvs=>.dct (some f) (some (.type "dict",none,0)) (some (kvs.map fun q=>(PyData.keyHash w.params q.1,some q.1,some q.2)))
 | .no _=>.b true
 | .cls _ _=>.b true
 | .me _ _ x qual f st=>.fn (some f) (some (rY x qual st))
 | .mk _=>.b true
 | .tab _ _ _=>.b true
 | .bm _=>.b true
 | .fv _ _=>.b true
noncomputable def KOf (as:List Addr) (h:Heap):Ow:=as.map fun a=>(a,(h.get? a).getD default)
noncomputable def sees (as:List Addr) (qs:List Qy) (ts:List Addr):PySem.W.Hook where
 α:=Bool×List Ov×List (Option Obj)
 obs:=fun s=>(as.all fun a=>(s.heap.get? a).isSome,qs.map (bS (KOf as s.heap)),ts.map s.heap.get?)
 val:=fun w=>(true,qs.map (bT w),ts.map fun _=>some (QU #[]))
 says:=fun w h=>∃ K:Ow,K.map (·.1)=as/\(∀ p∈K,h.get? p.1=some p.2)/\(∀ q∈qs,bS K q=bT w q)/\∀ P∈ts,h.get? P=some (QU #[])
 of:=fun w s e=>by
  have e1:=congrArg Rl e
  have e2:=congrArg (fun p=>p.2.1) e
  have e3:=congrArg (fun p=>p.2.2) e
  refine ⟨KOf as s.heap,by simp[KOf,Function.comp_def],fun p hp=>?_,fun q hq=>List.map_inj_left.mp e2 q hq,fun P hP=>List.map_inj_left.mp e3 P hP⟩
  obtain ⟨a,ha,rfl⟩:=List.mem_map.mp hp
  have h1:=List.all_eq_true.mp e1 a ha
  obtain ⟨o,ho⟩:=Option.isSome_iff_exists.mp h1
  show s.heap.get? a=some ((s.heap.get? a).getD default)
  rw[ho];rfl
 keeps:=fun w h h' ⟨K,m,n,k,t⟩ hk=>⟨K,m,fun p hp=>hk _ _ (n p hp),k,fun P hP=>hk _ _ (t P hP)⟩
end BG
end
section
namespace BL
open PySem PySem.Spec PyProof.Rows L2 BG
noncomputable abbrev pg:OO:=PySem.Challenge.pw_backtape_k31_whole_calls
noncomputable def qg:OO:=PySem.W.view pg [0,2,3,4,6,7,8,9,10,11,12,13,15,16,17,18,19,20,21,22,23,24,25,26,27,28,29,30,31,32,33,34,35,37,38,39,40,41,42,43,44,45,46,48,49,51,52,53,54,55,56,57,58]
noncomputable abbrev loo:List Str:=["INNER_COUNTS"]
noncomputable def top (i:Nat):Uh:=pg.main.body.getD i (.Pass ⟨0,0,0,0⟩)
noncomputable def HL:Uh->List Uh
 | .ClassDef _ _ _ b _ _ _ _ _ _ _=>b
 | _=>[]
noncomputable def bD (i j:Nat):Uh:=(HL (top i)).getD j (.Pass ⟨0,0,0,0⟩)
noncomputable def LU:Uh->Pos
 | .FunctionDef _ _ _ _ _ _ _ _ _ p=>p
 | _=>⟨0,0,0,0⟩
noncomputable abbrev adr:List Addr:=[3,4,59,60,66,67,73,74,87,88,94,95,108,109,115,116,122,123,129,130,136,137,143,144,150,151,157,158,164,165,171,172,178,179,185,186,192,193,199,200,206,207,213,214,220,221,227,228,234,235,241,242,248,249,255,256,269,270,276,277,283,284,337,338,344,345,351,352,358,359,365,366,372,373,379,380,393,394,400,401,407,408,410,411,421,422,428,429,435,436,442,443,447,448,452,453,459,460,464,465]
noncomputable def qys:List Qy:=[.fn "is_whole" 67 (top 10),
 .fn "is_name" 74 (top 11),
 .fn "inner_sums" 88 (top 13),
 .fn "begun" 95 (top 22),
 .fn "worth_in" 109 (top 24),
 .fn "laid_out" 116 (top 25),
 .fn "of_two" 123 (top 26),
 .fn "worth_of" 130 (top 27),
 .fn "reckoned" 137 (top 28),
 .fn "cell_by" 144 (top 29),
 .fn "is_over" 151 (top 30),
 .fn "place_behind" 158 (top 31),
 .fn "with_worth" 165 (top 32),
 .fn "with_name" 172 (top 33),
 .fn "brought" 179 (top 34),
 .fn "stepped" 186 (top 35),
 .fn "open_in" 193 (top 37),
 .fn "depth" 200 (top 38),
 .fn "next_within" 207 (top 39),
 .fn "last_within" 214 (top 40),
 .fn "over" 221 (top 41),
 .fn "out" 228 (top 42),
 .fn "back_over" 235 (top 43),
 .fn "back_out" 242 (top 44),
 .fn "calls" 249 (top 45),
 .fn "open_calls" 256 (top 46),
 .fn "_law_cell" 422 (top 51),
 .fn "_law_drawn" 429 (top 52),
 .fn "_law_sum" 436 (top 53),
 .fn "_law_row" 443 (top 54),
 .fn "_law_program" 448 (top 55),
 .fn "_law_asked" 453 (top 56),
 .fn "_law_calling" 460 (top 57),
 .fn "law" 465 (top 58),
 .int "CELL_COUNT" 4,
 .int "WORTH_COUNT" 10007,
 .int "ROW" 0,
 .int "NAMES" 1,
 .int "CELLS" 2,
 .int "CALLS" 3,
 .int "ASKED" 4,
 .int "SAID" 5,
 .int "MOST_CALLS" 6,
 .int "MOST_MARKS" 8,
 .tup "LETTERS" 59 ["a","b","c","d","e","f"],
 .dct "INNER_COUNTS" 60 [("num",0),("name",0),("cell",1),("add",2),("sub",2),("mul",2),("less",2)],
 .no "len",
 .no "abs",
 .no "int",
 .no "list",
 .no "tuple",
 .no "isinstance",
 .no "str",
 .no "bool",
 .no "range",
 .no "reversed",
 .no "enumerate",
 .no "zip",
 .no "min",
 .no "max",
 .no "sorted",
 .no "sum",
 .no "all",
 .no "any",
 .no "set",
 .no "worths_of",
 .no "last_change",
 .no "next_change",
 .no "moments_so",
 .no "last_so",
 .no "next_so",
 .no "visits",
 .no "last_visit",
 .no "when_said",
 .tab "next_within" 206 202,
 .tab "last_within" 213 209,
 .no "first_other",
 .no "writer_of",
 .no "judged",
 .no "remade",
 .bm 4,
 .fv "open_in" 193,
 .cls "Tape" 411,
 .mk 411,
 .me 411 "__init__" "__init__" "Tape.__init__" 270 (bD 49 0),
 .me 411 "at" "at" "Tape.at" 277 (bD 49 1),
 .me 411 "end" "end" "Tape.end" 284 (bD 49 2),
 .me 411 "behind" "behind" "Tape.behind" 338 (bD 49 10),
 .me 411 "is_last" "is_last" "Tape.is_last" 345 (bD 49 11),
 .me 411 "keep" "keep" "Tape.keep" 352 (bD 49 12),
 .me 411 "reach" "reach" "Tape.reach" 359 (bD 49 13),
 .me 411 "has" "has" "Tape.has" 366 (bD 49 14),
 .me 411 "check" "check" "Tape.check" 373 (bD 49 15),
 .me 411 "readings" "readings" "Tape.readings" 380 (bD 49 16),
 .me 411 "first_from" "first_from" "Tape.first_from" 394 (bD 49 18),
 .me 411 "last_to" "last_to" "Tape.last_to" 401 (bD 49 19),
 .me 411 "last_between" "last_between" "Tape.last_between" 408 (bD 49 20)]
noncomputable abbrev tl:List (Str×Addr×Addr):=[("next_within",206,202),("last_within",213,209)]
noncomputable abbrev tas:List Addr:=[202,209]
noncomputable def Lf (w:O6):Prop:=(BR.mL treeTable pg w 5930).map (fun t=>(UY qg loo (SS pg.main.body) (fun s=>Uo qg [] s&&Ua [] s) true t.abs,(sees adr qys tas).obs t.abs))=some (PySem.W.openGood qg loo,(sees adr qys tas).val w)
theorem lf0 (w:O6):Lf (w.withFollow "special-get-raises" false):=by unfold Lf;kernel_rfl
theorem lf1 (w:O6):Lf (w.withFollow "special-get-raises" true):=by unfold Lf;kernel_rfl
theorem left:PySem.W.LeftO pg qg loo (fun s=>Uo qg [] s&&Ua [] s) (sees adr qys tas).obs (sees adr qys tas).val 5930:=fun w=>BR.AC (f:=fun s=>(UY qg loo (SS pg.main.body) (fun s=>Uo qg [] s&&Ua [] s) true s,(sees adr qys tas).obs s)) (PySem.W.byRow2 (P:=Lf) "special-get-raises" lf0 lf1 w)
end BL
end
section
namespace L2
open PySem PySem.Spec PyProof.Rows
noncomputable abbrev Key:=Sum Int Str
noncomputable def kF:Key->Oz->Bool
 | .inl k,v=>TM k v
 | .inr x,v=>SV x v
noncomputable def LV (w:O6):Key->Int
 | .inl k=>hashInt k
 | .inr x=>hashStr w x
theorem aN:∀ {k:Key}{v:Oz},kF k v=true->(∃ i t,k=Sum.inl i/\v=RE i t)\/(∃ x t,k=Sum.inr x/\v=UC x t)
 | .inl i,v,h=>by
  obtain ⟨t,e⟩:=Vf (k:=i) (v:=v) h
  exact .inl ⟨i,t,rfl,e⟩
 | .inr x,v,h=>by
  obtain ⟨t,e⟩:=Value.isStrOf_shape (x:=x) (v:=v) h
  exact .inr ⟨x,t,rfl,e⟩
theorem uO (i:Int) (t:Tok):kF (.inl i) (.int i t)=true:=by simp[kF,TM]
theorem uP (x:Str) (t:Tok):kF (.inr x) (.str x t)=true:=by simp[kF,SV]
theorem Eb (a b:Int):decide ((Sum.inl a:Key)=Sum.inl b)=(a==b):=by
 by_cases e:a=b
 ·subst e;simp
 ·have h:¬ (Sum.inl a:Key)=Sum.inl b:=fun q=>e (Sum.inl.inj q)
  rw[decide_eq_false h]
  exact (beq_eq_false_iff_ne.mpr e).symm
theorem Ec (a b:Str):decide ((Sum.inr a:Key)=Sum.inr b)=decide (a=b):=by
 by_cases e:a=b
 ·subst e;simp
 ·have h:¬ (Sum.inr a:Key)=Sum.inr b:=fun q=>e (Sum.inr.inj q)
  rw[decide_eq_false h,decide_eq_false e]
theorem Ed (a:Int) (b:Str):decide ((Sum.inl a:Key)=Sum.inr b)=false:=decide_eq_false (fun q=>nomatch q)
theorem Ef (a:Str) (b:Int):decide ((Sum.inr a:Key)=Sum.inl b)=false:=decide_eq_false (fun q=>nomatch q)
noncomputable def aM (prog:OO) (w:O6):PySem.KeyKind prog w Key where
 is:=kF
 hash:=LV w
 inj:=fun v a b ha hb=>by
  rcases aN ha with ⟨i,t,rfl,rfl⟩ | ⟨x,t,rfl,rfl⟩
  ·rcases aN hb with ⟨j,u,rfl,e⟩ | ⟨y,u,rfl,e⟩
   ·injection e with e1 _;rw[e1]
   ·exact nomatch e
  ·rcases aN hb with ⟨j,u,rfl,e⟩ | ⟨y,u,rfl,e⟩
   ·exact nomatch e
   ·injection e with e1 _;rw[e1]
 byValue:=fun k v h=>by
  rcases aN h with ⟨i,t,rfl,rfl⟩ | ⟨x,t,rfl,rfl⟩<;>rfl
 pyHash:=fun hv h=>by
  rcases aN hv with ⟨i,t,rfl,rfl⟩ | ⟨x,t,rfl,rfl⟩
  ·exact wpAny_pyHash_int h
  ·exact wpAny_pyHash_str h
 eqBool:=fun hu hv h=>by
  rcases aN hu with ⟨i,t,rfl,rfl⟩ | ⟨x,t,rfl,rfl⟩
  ·rcases aN hv with ⟨j,u,rfl,rfl⟩ | ⟨y,u,rfl,rfl⟩
   ·rw[Eb] at h;exact wpAny_eqBool_int h
   ·rw[Ed] at h;exact SeqAt.EqAt.int_str i t y u _ _ _ _ h
  ·rcases aN hv with ⟨j,u,rfl,rfl⟩ | ⟨y,u,rfl,rfl⟩
   ·rw[Ef] at h;exact SeqAt.EqAt.str_int x t j u _ _ _ _ h
   ·rw[Ec] at h;exact wpAny_eqBool_str h
 «strs»:=fun k x t v h=>by
  rcases aN h with ⟨i,u,rfl,e⟩ | ⟨y,u,rfl,e⟩
  ·exact nomatch e
  ·injection e with e1 _
   subst e1
   cases v<;>rfl
theorem oX (prog:OO) (w:O6) (i:Int) (t:Tok):(aM prog w).is (.inl i) (.int i t)=true:=uO i t
theorem e9 (prog:OO) (w:O6) (x:Str) (t:Tok):(aM prog w).is (.inr x) (.str x t)=true:=uP x t
end L2
namespace L2
open PySem PySem.Spec PyProof.Rows
inductive V where
 | non | bl (b:Bool) | int (i:Int) | str (x:Str) | byt (b:Array UInt8) | flt (b:UInt64) | ref (a:Addr) | ty (n:String)
 deriving DecidableEq
noncomputable def RelV:V->Oz->Prop
 | .non,u=>u=Rx
 | .bl b,u=>u=Vg b
 | .int i,u=>∃ t,u=RE i t
 | .str x,u=>∃ t,u=UC x t
 | .byt b,u=>∃ t,u=Value.bytes b t
 | .flt b,u=>∃ t,u=Value.float b t
 | .ref a,u=>u=Pu a
 | .ty n,u=>u=RT n
noncomputable abbrev aq:List V->List Oz->Prop:=Paired RelV
theorem aq.length {xs:List V}{us:List Oz} (r:aq xs us):xs.length=us.length:=Paired.length r
theorem aq.get:∀ {xs:List V}{us:List Oz}{i:Nat}{x:V},aq xs us->xs[i]?=some x->∃ u,us[i]?=some u/\RelV x u
 | _,_,_,_,.nil,e=>by simp at e
 | _,_,0,_,.cons r _,e=>by simp at e;subst e;exact ⟨_,rfl,r⟩
 | _,_,i+1,x,.cons _ t,e=>by
  obtain ⟨u,h1,h2⟩:=aq.get (i:=i) (x:=x) t (by simpa using e)
  exact ⟨u,by simpa using h1,h2⟩
theorem aq.set {x:V}{u:Oz} (r:RelV x u):∀ {xs:List V}{us:List Oz} (i:Nat),aq xs us->aq (xs.set i x) (us.set i u)
 | _,_,_,.nil=>.nil
 | _,_,0,.cons _ t=>.cons r t
 | _,_,i+1,.cons q t=>.cons q (aq.set r i t)
theorem aq.append:∀ {xs ys:List V}{us ws:List Oz},aq xs us->aq ys ws->aq (xs++ys) (us++ws)
 | _,_,_,_,.nil,s=>s
 | _,_,_,_,.cons r t,s=>.cons r (aq.append t s)
theorem aq.take:∀ {xs:List V}{us:List Oz} (n:Nat),aq xs us->aq (xs.take n) (us.take n)
 | _,_,0,_=>.nil
 | _,_,_+1,.nil=>.nil
 | _,_,n+1,.cons r t=>.cons r (aq.take n t)
theorem aq.drop:∀ {xs:List V}{us:List Oz} (n:Nat),aq xs us->aq (xs.drop n) (us.drop n)
 | _,_,0,r=>r
 | _,_,_+1,.nil=>.nil
 | _,_,n+1,.cons _ t=>aq.drop n t
noncomputable def lP:Option V->Option Oz->Prop
 | some v,some u=>RelV v u
 | none,none=>True
 | _,_=>False
noncomputable def KV {κ:Type}:List (κ×V)->List (κ×Oz)->Prop:=Paired fun (p:κ×V) (q:κ×Oz)=>p.1=q.1/\RelV p.2 q.2
noncomputable def kV:Key->V
 | .inl i=>.int i
 | .inr x=>.str x
inductive HO where
 | lst (xs:List V)
 | tup (xs:List V)
 | dK (kvs:List (Key×V)) | dT (kvs:List (List Key×V))
 | set (S:Int->Bool) (n:Nat)
 | ins (C dx:Addr) (fs:List (Str×V))
 | own (x:Addr)
 | xd (fs:List (Str×V))
 | met (f x:Addr)
 | rng (lo hi:Int)
 | frz (o:Obj) (u:HO)
 | tbl (ps:Array Oz)
 | ext (φ:Heap->Prop)
noncomputable abbrev Hp:=Addr->Option HO
noncomputable def upd (H:Hp) (a:Addr) (o:HO):Hp:=fun b=>if b=a then some o else H b
theorem aB {H:Hp}{a:Addr}{o:HO}:upd H a o a=some o:=by unfold upd;rw[if_pos rfl]
theorem au {H:Hp}{a b:Addr}{o:HO} (h:b≠a):upd H a o b=H b:=by unfold upd;rw[if_neg h]
theorem az {H:Hp}{a b:Addr}{o:HO} (h:H a=some o) (h':H b=none):a≠b:=by
 intro e;subst e;rw[h] at h';cases h'
section
variable (P:OO) (w:O6)
noncomputable def cC (H:Hp) (h:Heap) (a:Addr):HO->Prop
 | .lst xs=>xs.length<=sizeLine/\∃ (its:List Oz) (n:Nat),aq xs its/\h.get? a=some { cls:=.type "list",data:=.seq its.toArray n }
 | .tup xs=>xs.length<=sizeLine/\∃ its:List Oz,aq xs its/\IsTup h a its.toArray
 | .dK kvs=>kvs.length<=sizeLine/\(a==Re)=false/\∃ vs,KV kvs vs/\h.DictOf (aM P w) a vs
 | .dT kvs=>kvs.length<=sizeLine/\(a==Re)=false/\∃ xs:List (List Key×Addr×Oz),
  Paired (fun (p:List Key×V) (q:List Key×Addr×Oz)=>p.1=q.1/\H q.2.1=some (.tup (p.1.map kV))/\RelV p.2 q.2.2) kvs xs ∧
  ∃ o es ep,h.get? a=some o/\o.ExactDict/\o.data=.dict es ep/\es.toList=xs.map (entryOfKey (tupleKind (aM P w)))/\(xs.map (·.1)).Nodup
 | .set S n=>h.SetOf (intKind P w) a S n
 | .ins C dx fs=>H dx=some (.own a)/\fs.length<=1000/\dx≠a/\h.get? a=some (Qs C dx) ∧
  ∃ mA,h.Ns1 dx mA/\(∀ f,lP (fs.lookup f) (mA f))/\UE mA (fs.map (·.1))
 | .own _=>∃ o,h.get? a=some o
 | .xd fs=>∃ mA,h.Ns1 a mA/\∀ f,lP (fs.lookup f) (mA f)
 | .rng lo hi=>∃ t u v,h.get? a=some { cls:=.type "range",data:=.fields #[.int lo t,.int hi u,.int 1 v] }
 | .frz o u=>h.get? a=some o/\cC H h a u
 | .tbl ps=>h.get? a=some { cls:=.none,data:=.fields ps }
 | .met f x=>h.get? a=some (SX (.ref f) (.ref x))
 | .ext φ=>φ h/\(∃ o,h.get? a=some o)/\∀ h1 h2:Heap,φ h1->(∀ o,h1.get? a=some o->h2.get? a=some o)->φ h2
noncomputable def HOk (H:Hp) (h:Heap):Prop:=∀ a o,H a=some o->cC P w H h a o
end
section
variable {P:OO}{w:O6}{H H':Hp}{h h':Heap}{a:Addr}{o:HO}
theorem cC.lt (x:cC P w H h a o):a < h.objs.size:=by
 cases o with
 | lst xs=>obtain ⟨_,_,_,_,e⟩:=x;exact OG e
 | tup xs=>obtain ⟨_,_,_,p⟩:=x;exact p.lt
 | dK kvs=>obtain ⟨_,_,_,_,o,_,_,e,_⟩:=x;exact OG e
 | dT kvs=>obtain ⟨_,_,_,_,o,_,_,e,_⟩:=x;exact OG e
 | set S n=>obtain ⟨o,_,_,_,e,_⟩:=x;exact OG e
 | ins C dx fs=>obtain ⟨_,_,_,e,_⟩:=x;exact OG e
 | own y=>obtain ⟨_,e⟩:=x;exact OG e
 | xd fs=>obtain ⟨_,⟨_,_,_,e,_⟩,_⟩:=x;exact OG e
 | rng lo hi=>obtain ⟨_,_,_,e⟩:=x;exact OG e
 | frz ob u=>obtain ⟨e,_⟩:=x;exact OG e
 | tbl ps=>exact OG (show h.get? a=some _ from x)
 | met f y=>exact OG (show h.get? a=some _ from x)
 | ext φ=>obtain ⟨_,⟨_,e⟩,_⟩:=x;exact OG e
theorem Paired.HM {α β:Type}{F G:α->β->Prop}:∀ {l₁:List α}{l₂:List β},Paired F l₁ l₂->(∀ a b,F a b->G a b)->Paired G l₁ l₂
 | _,_,.nil,_=>.nil
 | _,_,.cons r t,f=>.cons (f _ _ r) (Paired.HM t f)
theorem cC.stay (x:cC P w H h a o) (k:∀ b u,(b=a\/H b=some (.own a))->h.get? b=some u->h'.get? b=some u)
 (ho:∀ b,H b=some (.own a)->H' b=some (.own a)) (ht:∀ b xs,H b=some (.tup xs)->H' b=some (.tup xs)):cC P w H' h' a o:=by
 induction o with
 | lst xs=>obtain ⟨z,its,n,r,e⟩:=x;exact ⟨z,its,n,r,k _ _ (.inl rfl) e⟩
 | tup xs=>obtain ⟨z,its,r,ob,e,c⟩:=x;exact ⟨z,its,r,ob,k _ _ (.inl rfl) e,c⟩
 | dK kvs=>obtain ⟨z,y,vs,r,ob,es,ep,e,c⟩:=x;exact ⟨z,y,vs,r,ob,es,ep,k _ _ (.inl rfl) e,c⟩
 | dT kvs =>
  obtain ⟨z,y,xs,r,ob,es,ep,e,c⟩:=x
  exact ⟨z,y,xs,Paired.HM r fun p q z=>⟨z.1,ht _ _ z.2.1,z.2.2⟩,ob,es,ep,k _ _ (.inl rfl) e,c⟩
 | set S n=>obtain ⟨ob,es,ep,t,e,c⟩:=x;exact ⟨ob,es,ep,t,k _ _ (.inl rfl) e,c⟩
 | ins C dx fs =>
  obtain ⟨d,z,ne,e,mA,⟨od,es,ep,e2,c⟩,r⟩:=x
  exact ⟨ho _ d,z,ne,k _ _ (.inl rfl) e,mA,⟨od,es,ep,k _ _ (.inr d) e2,c⟩,r⟩
 | own y=>obtain ⟨ob,e⟩:=x;exact ⟨ob,k _ _ (.inl rfl) e⟩
 | xd fs=>obtain ⟨mA,⟨od,es,ep,e,c⟩,r⟩:=x;exact ⟨mA,⟨od,es,ep,k _ _ (.inl rfl) e,c⟩,r⟩
 | rng lo hi=>obtain ⟨t,u,v,e⟩:=x;exact ⟨t,u,v,k _ _ (.inl rfl) e⟩
 | frz ob u ih=>obtain ⟨e,q⟩:=x;exact ⟨k _ _ (.inl rfl) e,ih q⟩
 | tbl ps =>
  have e:h.get? a=some { cls:=.none,data:=.fields ps }:=x
  show h'.get? a=some { cls:=.none,data:=.fields ps }
  exact k a _ (.inl rfl) e
 | met f y =>
  have e:h.get? a=some (SX (.ref f) (.ref y)):=x
  show h'.get? a=some (SX (.ref f) (.ref y))
  exact k a _ (.inl rfl) e
 | ext φ=>obtain ⟨p,⟨o,e⟩,st⟩:=x;exact ⟨st _ _ p fun o q=>k _ _ (.inl rfl) q,⟨o,k _ _ (.inl rfl) e⟩,st⟩
theorem HOk.lt (x:HOk P w H h) (e:H a=some o):a < h.objs.size:=(x a o e).lt
theorem HOk.fresh (x:HOk P w H h) (e:h.objs.size<=a):H a=none:=by
 cases q:H a with
 | none=>rfl
 | some u=>exact absurd (O1 (x.lt q) e) (Pi _)
theorem HOk.kept (x:HOk P w H h) (k:∀ b u,h.get? b=some u->h'.get? b=some u):HOk P w H h':=fun a o e =>
 (x a o e).stay (fun b u _ q=>k b u q) (fun _ q=>q) fun _ _ q=>q
theorem HOk.laid (x:HOk P w H h) (k:∀ b u,h.get? b=some u->h'.get? b=some u) (hp:h.objs.size<=a) (new:cC P w (upd H a o) h' a o):HOk P w (upd H a o) h':=fun b u e=>by
 have hn:=x.fresh hp
 by_cases hb:b=a
 ·subst hb;rw[aB] at e;cases e;exact new
 ·rw[au hb] at e
  exact (x b u e).stay (fun c v _ q=>k c v q) (fun c q=>by rw[au (az q hn)];exact q) fun c xs q=>by rw[au (az q hn)];exact q
end
noncomputable def Rd (H:Hp) (a:Addr) (u:HO):Prop:=H a=some u\/∃ o,H a=some (.frz o u)
theorem Rd.ok {P:OO}{w:O6}{H:Hp}{h:Heap}{a:Addr}{u:HO} (r:Rd H a u) (x:HOk P w H h):cC P w H h a u:=by
 rcases r with r | ⟨o,r⟩
 ·exact x a u r
 ·obtain ⟨_,q⟩:=x a _ r
  exact q
noncomputable def Mut:Option HO->Prop
 | some (.lst _)=>True
 | some (.dK _)=>True
 | some (.dT _)=>True
 | some (.set _ _)=>True
 | some (.ins _ _ _)=>True
 | some (.ext _)=>True
 | _=>False
section
variable {P:OO}{w:O6}{H:Hp}{h h':Heap}{x e:Addr}{o':HO}
theorem HOk.write (ok:HOk P w H h) (mu:Mut (H x)) (he:e=x\/H e=some (.own x)) (k:∀ b u,b≠e->h.get? b=some u->h'.get? b=some u) (heo:∃ u,h'.get? e=some u)
 (new:cC P w (upd H x o') h' x o'):HOk P w (upd H x o') h':=fun b u q=>by
 have nown:∀ c y,H c=some (.own y)->c≠x:=fun c y r z=>by subst z;rw[r] at mu;exact mu
 have ntup:∀ c xs,H c=some (.tup xs)->c≠x:=fun c xs r z=>by subst z;rw[r] at mu;exact mu
 by_cases hb:b=x
 ·subst hb;rw[aB] at q;cases q;exact new
 ·rw[au hb] at q
  by_cases hbe:b=e
  ·have q':H b=some (.own x):=by
    rcases he with z | z
    ·exact absurd (hbe.trans z) hb
    ·rw[hbe];exact z
   rw[q] at q';cases q'
   obtain ⟨v,hv⟩:=heo
   exact ⟨v,by rw[hbe];exact hv⟩
  ·refine (ok b u q).stay (fun c v hc r=>k c v ?_ r) (fun c r=>by rw[au (nown c b r)];exact r) fun c xs r=>by rw[au (ntup c xs r)];exact r
   rcases hc with rfl | hc
   ·exact hbe
   ·rintro rfl
    rcases he with z | z
    ·exact nown c b hc z
    ·rw[hc] at z;cases z;exact hb rfl
end
structure Un (fs ex:List Addr) (H H':Hp) (h h':Heap):Prop where
 keep:∀ b o,h.get? b=some o->H b=none->b∉fs->b∉ex->h'.get? b=some o
 slot:∀ b o,h.get? b=some o->H b=none->b∈fs->b∉ex->∃ sl,h'.get? b=some { o with slots:=sl }
 free:∀ b o,h.get? b=some o->H b=none->b∉ex->H' b=none
 there:∀ b o,h.get? b=some o->b∉ex->∃ o',h'.get? b=some o'
 tups:∀ b xs,H b=some (.tup xs)->H' b=some (.tup xs)
 frzs:∀ b o u,H b=some (.frz o u)->H' b=some (.frz o u)
 tbls:∀ b ps,H b=some (.tbl ps)->∃ more,H' b=some (.tbl (ps++more))
section
variable {fs fs' ex ex':List Addr}{H H1 H2:Hp}{h h1 h2 h':Heap}{a x e:Addr}{o:HO}
theorem Un.any (u:Un fs ex H H1 h h1) {b:Addr}{ob:Obj} (q:h.get? b=some ob) (n:H b=none) (hx:b∉ex):∃ sl,h1.get? b=some { ob with slots:=sl }:=by
 by_cases hb:b∈fs
 ·exact u.slot b ob q n hb hx
 ·exact ⟨ob.slots,u.keep b ob q n hb hx⟩
theorem Un.kept (k:∀ b u,h.get? b=some u->h'.get? b=some u):Un fs ex H H h h' :=
 ⟨fun b ob q _ _ _=>k b ob q,fun b ob q _ _ _=>⟨ob.slots,k b ob q⟩,fun _ _ _ n _=>n,fun b ob q _=>⟨ob,k b ob q⟩,fun _ _ q=>q,fun _ _ _ q=>q,fun _ ps q=>⟨#[],by rw[q];simp⟩⟩
theorem Un.refl:Un fs ex H H h h:=Un.kept fun _ _ q=>q
theorem Un.laid (k:∀ b u,h.get? b=some u->h'.get? b=some u) (hp:h.objs.size<=a) (hn:H a=none):Un fs ex H (upd H a o) h h' where
 keep:=fun b u q _ _ _=>k b u q
 slot:=fun b u q _ _ _=>⟨u.slots,k b u q⟩
 free:=fun b u q n _=>by rw[au (O3 (O1 (OG q) hp))];exact n
 there:=fun b u q _=>⟨u,k b u q⟩
 tups:=fun b xs q=>by rw[au (az q hn)];exact q
 frzs:=fun b u xs q=>by rw[au (az q hn)];exact q
 tbls:=fun b ps q=>⟨#[],by rw[au (az q hn),q];simp⟩
theorem Un.write (mu:Mut (H x)) (he:e=x\/H e=some (.own x)) (k:∀ b u,b≠e->h.get? b=some u->h'.get? b=some u) (heo:∃ u,h'.get? e=some u):Un fs ex H (upd H x o) h h':=by
 have hx:∀ b,H b=none->b≠x:=fun b n z=>by subst z;rw[n] at mu;exact mu
 have hb:∀ b,H b=none->b≠e:=fun b n z=>by
  subst z
  rcases he with r | r
  ·exact hx b n r
  ·rw[n] at r;cases r
 have hm:∀ b u,H b=some u->¬ Mut (some u)->b≠x:=fun b u q nm z=>by subst z;rw[q] at mu;exact nm mu
 refine ⟨fun b u q n _ _=>k b u (hb b n) q,fun b u q n _ _=>⟨u.slots,k b u (hb b n) q⟩,fun b u q n _=>by rw[au (hx b n)];exact n,fun b u q _=>?_,
  fun b xs q=>by rw[au (hm b _ q fun z=>z)];exact q,fun b u xs q=>by rw[au (hm b _ q fun z=>z)];exact q,fun b ps q=>⟨#[],by rw[au (hm b _ q fun z=>z),q];simp⟩⟩
 by_cases hbe:b=e
 ·subst hbe;exact heo
 ·exact ⟨u,k b u hbe q⟩
end
noncomputable def trk (h:Heap) (H:Hp):List Addr:=(O8 h.objs.size).filter fun a=>(H a).isSome
noncomputable def oY (h:Heap) (H:Hp):Heap:=PySem.W.hideAll h (trk h H)
theorem uQ (h:Heap) (H:Hp):(oY h H).objs.size=h.objs.size:=PySem.W.hideAll_size _ _
theorem oZ {h:Heap}{H:Hp}{b:Addr}{o:Obj} (e:h.get? b=some o) (n:H b=none):(oY h H).get? b=some o :=
 PySem.W.hideAll_get _ e fun hm=>by
  have q:(H b).isSome=true:=(List.mem_filter.mp hm).2
  rw[n] at q;simp at q
theorem AE {h:Heap}{H:Hp}{b:Addr}{o:Obj} (e:(oY h H).get? b=some o):h.get? b=some o/\H b=none:=by
 have e':h.get? b=some o:=PySem.W.of_hideAll (trk h H) e
 refine ⟨e',?_⟩
 cases q:H b with
 | none=>rfl
 | some x =>
  have hm:b∈trk h H:=List.mem_filter.mpr ⟨List.mem_range.mpr (OG e'),by simp[q]⟩
  have z:(oY h H).get? b=none:=PySem.W.hideAll_none (trk h H) hm
  rw[z] at e;cases e
noncomputable def AF (g h:Heap) (L:Addr):List (Addr×Obj):=(O8 h.objs.size).filterMap fun a=>if a=L\/(g.get? a).isSome=true then none else (h.get? a).map fun o=>(a,o)
noncomputable def rest (g h:Heap) (L d:Addr):List (Addr×Obj):=(AF g h L).filter fun p=>decide (p.1≠d)
end L2
namespace L2
open PySem PySem.Spec PyProof.Rows
structure Mod (K:Ow) (mg:Str->Option Oz) (base:Heap):Prop where
 kin:K.In base
 glob:base.Ns OV mg
 blt:∃ mb,base.Ns QJ mb/\∀ x:Str,x≠"__name__"->mb x=Sb x
 nolimit:base.NoLimit
structure Cx where
 prog:OO
 w:O6
 K:Ow
 mg:Str->Option Oz
 base:Heap
 A:PL
 N:List Str
 s₀:OB
 H₀:Hp
 env:Env
 outer:List Env
 stack:List Env
 ex:List Addr
 fn:Str->Bool
 calm:Bool
 pn:List (Addr×Obj)
 xe:Oz->OB->Prop
noncomputable def frs (l:List Env):List Addr:=l.filterMap (·.frame)
noncomputable abbrev Cx.fs (X:Cx):List Addr:=frs X.outer
noncomputable def Vis (sc:OW) (x:Str):Prop:=sc.names.lookup x=some .local\/sc.names.lookup x=some .cell\/sc.names.lookup x=some .free
noncomputable def Loc (sc:OW) (x:Str):Prop:=sc.names.lookup x=some .local\/sc.names.lookup x=some .cell
noncomputable def Look (env:Env) (h:Heap) (m:Str->Option Oz) (x:Str) (u:Oz):Prop :=
 (env.kindOf x=some .local/\m x=some u)\/((env.kindOf x=some .cell\/env.kindOf x=some .free)/\∃ c,env.cells.lookup x=some c/\h.IsCell c (some u))
structure Cx.Ok (X:Cx):Prop where
 mod:Mod X.K X.mg X.base
 kind:X.env.scope.kind=.function
 glob:X.env.globals=OV
 blt:X.env.builtins=QJ
 above:X.s₀.heap.objs.size<=X.env.locals
 inj:∀ x y c,X.env.cells.lookup x=some c->X.env.cells.lookup y=some c->x=y
 has:∀ x,(X.env.kindOf x=some .cell\/X.env.kindOf x=some .free)->∃ c,X.env.cells.lookup x=some c
 cab:∀ x c,X.fn x=true->X.env.cells.lookup x=some c->X.s₀.heap.objs.size<=c
 hd:X.calm=true->X.A.handled=none
 frames:X.A.frames=some X.stack
 stk:X.stack=X.outer\/(X.stack=X.env :: X.outer/\X.env.frame=some X.env.locals)
 exf:∀ b∈X.ex,b≠X.env.locals/\∀ x c,X.env.cells.lookup x=some c->c≠b
 bs:∀ b o,X.base.get? b=some o->X.s₀.heap.get? b=some o/\X.H₀ b=none
 bsz:X.base.objs.size<=X.s₀.heap.objs.size
 noex:∀ b o,X.base.get? b=some o->b∉X.ex
 exfs:∀ b∈X.ex,b∉X.fs
 iC:X.s₀.heap.FunFrames X.base X.outer
 frf:∀ b∈X.fs,X.H₀ b=none
structure Inv (X:Cx) (pins:List (Addr×Obj)) (σ:List (Option V)) (H:Hp) (s:OB):Prop where
 ok:X.Ok
 os:s.os=X.s₀.os
 bare:Ug s.gens
 base:Un X.fs X.ex X.H₀ H X.s₀.heap s.heap
 loc:∃ m,s.heap.Ns X.env.locals m/\∀ (i:Nat) (x:Str) (v:V),X.N[i]?=some x->σ[i]?=some (some v)->Vis X.env.scope x->∃ u,RelV v u/\Look X.env s.heap m x u
 cell:∀ x c,X.env.cells.lookup x=some c->∃ v,s.heap.IsCell c v
 free:H X.env.locals=none
 freeC:∀ x c,X.env.cells.lookup x=some c->H c=none
 pin:∀ p∈X.pn++pins,s.heap.get? p.1=some p.2/\H p.1=none/\p.1≠X.env.locals/\p.1∉X.fs/\∀ v,p.2.data≠.cell v
 hok:HOk X.prog X.w H s.heap
 len:σ.length=X.N.length
section
variable {X:Cx}{pins:List (Addr×Obj)}{σ:List (Option V)}{H H':Hp}{s:OB}{h':Heap}
theorem Cx.Ok.LW (ok:X.Ok) {b:Addr}{o:Obj} (e:X.base.get? b=some o):b∉X.fs:=fun hb=>by
 have:=(ok.iC.mem hb).1
 rw[e] at this;cases this
theorem Inv.bs (I:Inv X pins σ H s):∀ b o,X.base.get? b=some o->s.heap.get? b=some o/\H b=none:=fun b o e =>
 ⟨I.base.keep b o (I.ok.bs b o e).1 (I.ok.bs b o e).2 (I.ok.LW e) (I.ok.noex b o e),I.base.free b o (I.ok.bs b o e).1 (I.ok.bs b o e).2 (I.ok.noex b o e)⟩
theorem Inv.bk (I:Inv X pins σ H s):∀ b o,X.base.get? b=some o->s.heap.get? b=some o:=fun b o e=>(I.bs b o e).1
theorem Inv.mod (I:Inv X pins σ H s):Mod X.K X.mg X.base:=I.ok.mod
theorem Inv.kIn (I:Inv X pins σ H s):X.K.In s.heap:=I.ok.mod.kin.keeps I.bk
theorem Inv.lt (I:Inv X pins σ H s):X.env.locals < s.heap.objs.size:=let ⟨_,hn,_⟩:=I.loc;hn.lt
theorem Inv.sz (I:Inv X pins σ H s):X.s₀.heap.objs.size<=s.heap.objs.size:=Ph I.ok.above (PK I.lt)
theorem Inv.LY (I:Inv X pins σ H s) {a:Addr} (h:s.heap.objs.size<=a):a∉X.fs:=fun hb=>by
 obtain ⟨_,o,ho,_⟩:=I.ok.iC.mem hb
 exact absurd (O1 (OG ho) (Ph I.sz h)) (Pi _)
theorem Inv.cne (I:Inv X pins σ H s):∀ x c,X.env.cells.lookup x=some c->c≠X.env.locals:=fun x c e z=>by
 obtain ⟨v,o,ho,hd⟩:=I.cell x c e
 obtain ⟨m,⟨o',es,ep,ho',hd',_⟩,_⟩:=I.loc
 rw[z,ho'] at ho;cases ho;rw[hd'] at hd;cases hd
theorem Inv.iC (I:Inv X pins σ H s):s.heap.FunFrames X.base X.outer:=by
 have all:∀ (l:List Env),(∀ b∈frs l,b∈X.fs)->X.s₀.heap.FunFrames X.base l->s.heap.FunFrames X.base l:=by
  intro l
  induction l with
  | nil=>intro _ _;trivial
  | cons env r ih =>
   intro hs hl
   obtain ⟨hk,⟨L,o,hf,hn,ho,hd⟩,hr⟩:=hl
   have hL:L∈X.fs:=hs L (by unfold frs;rw[O9,hf];exact ON)
   obtain ⟨sl,e⟩:=I.base.slot L o ho (I.ok.frf L hL) hL fun z=>I.ok.exfs L z hL
   exact ⟨hk,⟨L,_,hf,hn,e,hd⟩,ih (fun b hb=>hs b (by unfold frs;rw[O9,hf];exact OL _ hb)) hr⟩
 exact all X.outer (fun _ hb=>hb) I.ok.iC
theorem Inv.stack (I:Inv X pins σ H s):s.heap.FunFrames X.base X.stack:=by
 rcases I.ok.stk with e | ⟨e,hf⟩
 ·rw[e];exact I.iC
 ·rw[e]
  obtain ⟨m,hn,_⟩:=I.loc
  refine .cons (by rw[I.ok.kind];decide) hf hn ?_ I.iC
  exact Heap.get?_none_of_le (Ph I.ok.bsz I.ok.above)
theorem Inv.kG (I:Inv X pins σ H s):∀ b∈frs X.stack,b∈X.env.locals :: X.fs:=fun b hb=>by
 rcases I.ok.stk with e | ⟨e,hf⟩
 ·rw[e] at hb;exact OL _ hb
 ·rw[e] at hb
  unfold frs at hb
  rw[O9,hf] at hb
  exact hb
theorem Inv.nu (I:Inv X pins σ H s):∀ b∈frs X.stack,H b=none:=fun b hb=>by
 rcases List.mem_cons.mp (I.kG b hb) with e | hb
 ·rw[e];exact I.free
 ·obtain ⟨_,o,ho,_⟩:=I.ok.iC.mem hb
  exact I.base.free b o ho (I.ok.frf b hb) fun z=>I.ok.exfs b z hb
theorem Inv.step {g':Array GenState}{t':Nat}{d':Drawn}{ch:List Addr} (I:Inv X pins σ H s)
 (hch:∀ b∈ch,(b∈X.ex\/X.s₀.heap.objs.size<=b)/\b≠X.env.locals/\(∀ x c,X.env.cells.lookup x=some c->c≠b)/\∀ p∈X.pn++pins,p.1≠b)
 (keep:∀ b o,b≠X.env.locals->b∉X.fs->b∉ch->s.heap.get? b=some o->H b=none->h'.get? b=some o)
 (slot:∀ b o,b≠X.env.locals->b∈X.fs->b∉ch->s.heap.get? b=some o->H b=none->∃ sl,h'.get? b=some { o with slots:=sl }) (free:∀ b o,b∉ch->s.heap.get? b=some o->H b=none->H' b=none)
 (there:∀ b o,b∉ch->s.heap.get? b=some o->∃ o',h'.get? b=some o')
 (tups:∀ b xs,H b=some (.tup xs)->H' b=some (.tup xs)) (frzs:∀ b o u,H b=some (.frz o u)->H' b=some (.frz o u)) (tbls:∀ b ps,H b=some (.tbl ps)->∃ more,H' b=some (.tbl (ps++more)))
 (ns:∀ m,s.heap.Ns X.env.locals m->h'.Ns X.env.locals m) (hok:HOk X.prog X.w H' h') (hg:Ug g') :
 Inv X pins σ H' { s with heap:=h',gens:=g',drawn:=d',toks:=t' }:=by
 have neL:∀ b o,X.s₀.heap.get? b=some o->b≠X.env.locals:=fun b o e=>O3 (O1 (OG e) I.ok.above)
 have neC:∀ b o,X.s₀.heap.get? b=some o->b∉X.ex->b∉ch:=fun b o e hx hb=>by
  rcases (hch b hb).1 with z | z
  ·exact hx z
  ·exact absurd (O1 (OG e) z) (Pi _)
 have cellK:∀ x c,X.env.cells.lookup x=some c->∀ v,s.heap.IsCell c v->h'.IsCell c v:=fun x c e v ⟨o,ho,hd⟩=>by
  have nch:c∉ch:=fun z=>(hch c z).2.2.1 x c e rfl
  by_cases hc:c∈X.fs
  ·obtain ⟨sl,q⟩:=slot c o (I.cne x c e) hc nch ho (I.freeC x c e)
   exact ⟨_,q,hd⟩
  ·exact ⟨o,keep c o (I.cne x c e) hc nch ho (I.freeC x c e),hd⟩
 refine ⟨I.ok,I.os,hg,⟨fun b o e n hb hx=>?_,fun b o e n hb hx=>?_,fun b o e n hx=>?_,fun b o e hx=>?_,fun b xs e=>tups b xs (I.base.tups b xs e),fun b o xs e=>frzs b o xs (I.base.frzs b o xs e),fun b ps e=>?_⟩,?_,fun x c e=>?_,?_,fun x c e=>?_,fun p hp=>?_,hok,I.len⟩
 ·exact keep b o (neL b o e) hb (neC b o e hx) (I.base.keep b o e n hb hx) (I.base.free b o e n hx)
 ·obtain ⟨sl,e1⟩:=I.base.slot b o e n hb hx
  obtain ⟨sl',e2⟩:=slot b _ (neL b o e) hb (neC b o e hx) e1 (I.base.free b o e n hx)
  exact ⟨sl',e2⟩
 ·obtain ⟨o',e1⟩:=I.base.there b o e hx
  exact free b o' (neC b o e hx) e1 (I.base.free b o e n hx)
 ·obtain ⟨o',e1⟩:=I.base.there b o e hx
  exact there b o' (neC b o e hx) e1
 ·obtain ⟨m1,e1⟩:=I.base.tbls b ps e
  obtain ⟨m2,e2⟩:=tbls b _ e1
  exact ⟨m1++m2,by rw[e2,Array.append_assoc]⟩
 ·obtain ⟨m,hn,hl⟩:=I.loc
  refine ⟨m,ns m hn,fun i x v e1 e2 e3=>?_⟩
  obtain ⟨u,r,l⟩:=hl i x v e1 e2 e3
  refine ⟨u,r,?_⟩
  rcases l with l | ⟨k,c,e,z⟩
  ·exact .inl l
  ·exact .inr ⟨k,c,e,cellK x c e _ z⟩
 ·obtain ⟨v,z⟩:=I.cell x c e
  exact ⟨v,cellK x c e v z⟩
 ·obtain ⟨m,⟨o,_,_,ho,_⟩,_⟩:=I.loc
  exact free _ o (fun z=>(hch _ z).2.1 rfl) ho I.free
 ·obtain ⟨v,o,ho,hd⟩:=I.cell x c e
  exact free c o (fun z=>(hch c z).2.2.1 x c e rfl) ho (I.freeC x c e)
 ·obtain ⟨e,n,ne,nf,d⟩:=I.pin p hp
  have nch:p.1∉ch:=fun z=>(hch p.1 z).2.2.2 p hp rfl
  exact ⟨keep p.1 p.2 ne nf nch e n,free p.1 p.2 nch e n,ne,nf,d⟩
theorem Inv.un {t':Nat} (I:Inv X pins σ H s) (u:Un X.fs [] H H' s.heap h') (hok:HOk X.prog X.w H' h'):Inv X pins σ H' { s with heap:=h',toks:=t' }:=by
 obtain ⟨m,⟨o,es,ep,ho,r⟩,_⟩:=id I.loc
 obtain ⟨sl,hL⟩:=u.any ho I.free (by simp)
 exact I.step (g':=s.gens) (d':=s.drawn) (ch:=[]) (fun _ z=>nomatch z) (fun b o _ hb _ e n=>u.keep b o e n hb (by simp)) (fun b o _ hb _ e n=>u.slot b o e n hb (by simp)) (fun b o _ e n=>u.free b o e n (by simp)) (fun b o _ e=>u.there b o e (by simp)) u.tups u.frzs u.tbls (fun m' hm=>by
  obtain ⟨o',es',ep',ho',r'⟩:=hm
  rw[ho] at ho';cases ho'
  exact ⟨_,es',ep',hL,r'⟩) hok I.bare
theorem Inv.call {g':Array GenState}{t':Nat}{d':Drawn}{ch:List Addr} (I:Inv X pins σ H s) (u:Un (frs X.stack) ch H H' s.heap h') (hok:HOk X.prog X.w H' h') (hg:Ug g')
 (hch:∀ b∈ch,(b∈X.ex\/X.s₀.heap.objs.size<=b)/\b≠X.env.locals/\(∀ x c,X.env.cells.lookup x=some c->c≠b)/\∀ p∈X.pn++pins,p.1≠b) :
 Inv X pins σ H' { s with heap:=h',gens:=g',drawn:=d',toks:=t' }:=by
 obtain ⟨m,⟨o,es,ep,ho,r⟩,_⟩:=id I.loc
 obtain ⟨sl,hL⟩:=u.any ho I.free fun z=>(hch _ z).2.1 rfl
 exact I.step (ch:=ch) hch (fun b o hL hb hc e n=>u.keep b o e n (fun z=>(List.mem_cons.mp (I.kG b z)).elim hL hb) hc) (fun b o _ _ hc e n=>u.any e n hc) (fun b o hc e n=>u.free b o e n hc) (fun b o hc e=>u.there b o e hc) u.tups u.frzs u.tbls (fun m' hm=>by
  obtain ⟨o',es',ep',ho',r'⟩:=hm
  rw[ho] at ho';cases ho'
  exact ⟨_,es',ep',hL,r'⟩) hok hg
theorem Inv.turned {t':Nat}{it:Addr} (I:Inv X pins σ H s) (k:∀ b o,b≠it->s.heap.get? b=some o->h'.get? b=some o) (hn:H it=none) (hL:it≠X.env.locals)
 (h1:it∈X.ex\/X.s₀.heap.objs.size<=it) (h2:∀ x c,X.env.cells.lookup x=some c->c≠it) (h3:∀ p∈X.pn++pins,p.1≠it):Inv X pins σ H { s with heap:=h',toks:=t' }:=by
 have nit:∀ b u,H b=some u->b≠it:=fun b u e z=>by rw[z,hn] at e;cases e
 refine I.step (g':=s.gens) (d':=s.drawn) (ch:=[it]) (fun b hb=>?_) (fun b o _ _ hc e _=>k b o (fun z=>hc (by simp[z])) e) (fun b o _ _ hc e _=>⟨o.slots,k b o (fun z=>hc (by simp[z])) e⟩) (fun _ _ _ _ n=>n)
  (fun b o hc e=>⟨o,k b o (fun z=>hc (by simp[z])) e⟩) (fun _ _ e=>e) (fun _ _ _ e=>e) (fun b ps e=>⟨#[],by rw[e];simp⟩) (fun m hm=>?_) (fun b u e=>?_) I.bare
 ·have e:b=it:=by simpa using hb
  subst e
  exact ⟨h1,hL,h2,h3⟩
 ·obtain ⟨o,es,ep,ho,r⟩:=hm
  exact ⟨o,es,ep,k _ o (PD hL) ho,r⟩
 ·refine (I.hok b u e).stay (fun c v hc q=>k c v ?_ q) (fun _ q=>q) fun _ _ q=>q
  rcases hc with z | z
  ·rw[z];exact nit b u e
  ·exact nit c _ z
theorem Inv.tok (I:Inv X pins σ H s) (t:Nat):Inv X pins σ H { s with toks:=t }:=I.un (h':=s.heap) (t':=t) Un.refl I.hok
theorem Inv.kept {t':Nat} (I:Inv X pins σ H s) (k:∀ b u,s.heap.get? b=some u->h'.get? b=some u):Inv X pins σ H { s with heap:=h',toks:=t' }:=I.un (Un.kept k) (I.hok.kept k)
theorem Inv.laid {a:Addr}{o:HO}{t':Nat} (I:Inv X pins σ H s) (k:∀ b u,s.heap.get? b=some u->h'.get? b=some u) (hp:s.heap.objs.size<=a) (new:cC X.prog X.w (upd H a o) h' a o) :
 Inv X pins σ (upd H a o) { s with heap:=h',toks:=t' }:=I.un (Un.laid k hp (I.hok.fresh hp)) (I.hok.laid k hp new)
theorem Inv.write {x e:Addr}{o:HO}{t':Nat} (I:Inv X pins σ H s) (mu:Mut (H x)) (he:e=x\/H e=some (.own x)) (k:∀ b u,b≠e->s.heap.get? b=some u->h'.get? b=some u) (heo:∃ u,h'.get? e=some u)
 (new:cC X.prog X.w (upd H x o) h' x o):Inv X pins σ (upd H x o) { s with heap:=h',toks:=t' }:=I.un (Un.write mu he k heo) (I.hok.write mu he k heo new)
theorem Inv.kj {pins':List (Addr×Obj)} (I:Inv X pins σ H s) (h:∀ p∈pins',s.heap.get? p.1=some p.2/\H p.1=none/\p.1≠X.env.locals/\p.1∉X.fs/\∀ v,p.2.data≠.cell v):Inv X pins' σ H s :=
 ⟨I.ok,I.os,I.bare,I.base,I.loc,I.cell,I.free,I.freeC,fun p hp=>(List.mem_append.mp hp).elim (fun z=>I.pin p (Qa _ z)) (h p),I.hok,I.len⟩
theorem o5 {N:List Str} (hN:N.Nodup) {i j:Nat}{x:Str} (a:N[i]?=some x) (b:N[j]?=some x):i=j:=by
 obtain ⟨h1,e1⟩:=List.getElem?_eq_some_iff.mp a
 obtain ⟨h2,e2⟩:=List.getElem?_eq_some_iff.mp b
 exact (List.getElem_inj hN).mp (e1.trans e2.symm)
theorem mO {M:Model}{A:PL}{E:Oz->OB->Prop}{i:Nat}{x:Str}{v:V}{u:Oz}{Q:Unit->OB->Prop} (I:Inv X pins σ H s) (hN:X.N.Nodup) (hi:X.N[i]?=some x) (hx:Loc X.env.scope x) (r:RelV v u)
 (h:∀ s',Inv X pins (σ.set i (some v)) H s'->(∃ a,PJ a s.heap s'.heap/\(a=X.env.locals\/X.env.cells.lookup x=some a))->Q () s') (hf:X.fn x=true\/X.env.scope.names.lookup x=some .local:=by first | exact .inl rfl | exact .inr rfl | assumption):wpAny M A (storeName X.env x u) Q E s:=by
 obtain ⟨m,hn,hl⟩:=id I.loc
 have hcls:(X.env.scope.kind==.class||(X.env.scope.kind==.module&&X.env.locals != X.env.globals))=false:=by rw[I.ok.kind];rfl
 have hiσ:i < σ.length:=by rw[I.len];exact (List.getElem?_eq_some_iff.mp hi).1
 have cne:=I.cne
 have tracked:∀ {a:Addr}{h':Heap},(∃ o,s.heap.get? a=some o/\H a=none)->PJ a s.heap h'->HOk X.prog X.w H h':=fun {a h'} ha hs b ob e=>by
  obtain ⟨_,_,hfree⟩:=ha
  refine (I.hok b ob e).stay (fun c w' hc q=>(hs.2 c ?_).trans q) (fun _ q=>q) fun _ _ q=>q
  rintro rfl
  rcases hc with rfl | hc
  ·rw[hfree] at e;cases e
  ·rw[hfree] at hc;cases hc
 rcases hx with hk | hk
 ·refine wpAny_storeName_local hk hn (fun h' hn' hs=>?_) hcls
  obtain ⟨oL,_,_,hoL,_⟩:=id hn
  refine h _ ⟨I.ok,I.os,I.bare,⟨fun b o e n hb hx=>?_,fun b o e n hb hx=>?_,I.base.free,fun b o e hx=>?_,I.base.tups,I.base.frzs,I.base.tbls⟩,⟨_,hn',fun j y v' e1 e2 e3=>?_⟩,fun y c e=>?_,I.free,I.freeC,fun p hp=>?_,tracked ⟨oL,hoL,I.free⟩ hs,by simpa using I.len⟩ ⟨_,hs,.inl rfl⟩
  ·exact (hs.2 b (O3 (O1 (OG e) I.ok.above))).trans (I.base.keep b o e n hb hx)
  ·obtain ⟨sl,e1⟩:=I.base.slot b o e n hb hx
   exact ⟨sl,(hs.2 b (O3 (O1 (OG e) I.ok.above))).trans e1⟩
  ·obtain ⟨o',e1⟩:=I.base.there b o e hx
   exact ⟨o',(hs.2 b (O3 (O1 (OG e) I.ok.above))).trans e1⟩
  ·by_cases hj:j=i
   ·subst hj
    rw[hi] at e1;cases e1
    rw[PY hiσ] at e2
    cases e2
    exact ⟨u,r,.inl ⟨hk,by simp⟩⟩
   ·rw[Pd (PD hj)] at e2
    obtain ⟨u',r',q⟩:=hl j y v' e1 e2 e3
    refine ⟨u',r',?_⟩
    rcases q with ⟨k,e⟩ | ⟨k,c,e,z⟩
    ·refine .inl ⟨k,?_⟩
     have:y≠x:=fun e=>hj (o5 hN e1 (e ▸ hi))
     simp[this,e]
    ·exact .inr ⟨k,c,e,z.sameBut hs (cne y c e)⟩
  ·obtain ⟨w',z⟩:=I.cell y c e
   exact ⟨w',z.sameBut hs (cne y c e)⟩
  ·obtain ⟨e,n,ne,nf,d⟩:=I.pin p hp
   exact ⟨(hs.2 p.1 ne).trans e,n,ne,nf,d⟩
 ·have hfn:X.fn x=true:=by
   rcases hf with z | z
   ·exact z
   ·rw[z] at hk;cases hk
  obtain ⟨c,hc⟩:=I.ok.has x (.inl hk)
  obtain ⟨w',z⟩:=I.cell x c hc
  refine wpAny_storeName_cell I.ok.kind hk hc z (fun h' hc' hs=>?_)
  obtain ⟨oc,hoc,hocd⟩:=id z
  refine h { s with heap:=h' } ⟨I.ok,I.os,I.bare,⟨fun b o e n hb hx=>?_,fun b o e n hb hx=>?_,I.base.free,fun b o e hx=>?_,I.base.tups,I.base.frzs,I.base.tbls⟩,⟨m,hn.sameBut hs (PD (cne x c hc)),fun j y v' e1 e2 e3=>?_⟩,fun y c' e=>?_,I.free,I.freeC,fun p hp=>?_,tracked ⟨oc,hoc,I.freeC x c hc⟩ hs,by simpa using I.len⟩ ⟨c,hs,.inr hc⟩
  ·exact (hs.2 b (O3 (O1 (OG e) (I.ok.cab x c hfn hc)))).trans (I.base.keep b o e n hb hx)
  ·obtain ⟨sl,e1⟩:=I.base.slot b o e n hb hx
   exact ⟨sl,(hs.2 b (O3 (O1 (OG e) (I.ok.cab x c hfn hc)))).trans e1⟩
  ·obtain ⟨o',e1⟩:=I.base.there b o e hx
   exact ⟨o',(hs.2 b (O3 (O1 (OG e) (I.ok.cab x c hfn hc)))).trans e1⟩
  ·by_cases hj:j=i
   ·subst hj
    rw[hi] at e1;cases e1
    rw[PY hiσ] at e2
    cases e2
    exact ⟨u,r,.inr ⟨.inl hk,c,hc,hc'⟩⟩
   ·rw[Pd (PD hj)] at e2
    obtain ⟨u',r',q⟩:=hl j y v' e1 e2 e3
    refine ⟨u',r',?_⟩
    rcases q with q | ⟨k,c',e,z'⟩
    ·exact .inl q
    ·refine .inr ⟨k,c',e,z'.sameBut hs ?_⟩
     rintro rfl
     exact hj (o5 hN e1 (I.ok.inj _ _ _ e hc ▸ hi))
  ·by_cases hcc:c'=c
   ·subst hcc;exact ⟨_,hc'⟩
   ·obtain ⟨w2,z2⟩:=I.cell y c' e
    exact ⟨w2,z2.sameBut hs hcc⟩
  ·obtain ⟨e,n,ne,nf,d⟩:=I.pin p hp
   refine ⟨(hs.2 p.1 ?_).trans e,n,ne,nf,d⟩
   intro q
   rw[q,hoc] at e
   have q':oc=p.2:=OP e
   exact d w' (by rw[← q'];exact hocd)
theorem kH {M:Model}{A:PL}{E:Oz->OB->Prop}{i:Nat}{x:Str}{v:V}{u:Oz}{Q:Unit->OB->Prop} (I:Inv X pins σ H s) (hN:X.N.Nodup) (hi:X.N[i]?=some x) (hx:Loc X.env.scope x) (r:RelV v u)
 (h:∀ s',Inv X pins (σ.set i (some v)) H s'->Q () s') (hf:X.fn x=true\/X.env.scope.names.lookup x=some .local:=by first | exact .inl rfl | exact .inr rfl | assumption):wpAny M A (storeName X.env x u) Q E s :=
 mO I hN hi hx r (fun s' I' _=>h s' I') hf
theorem Inv.HN {s':OB}{ch:List Addr} (I:Inv X pins σ H s) (ho:s'.os=s.os) (u:Un (frs X.stack) ch H H' s.heap s'.heap) (hok:HOk X.prog X.w H' s'.heap) (hg:Ug s'.gens)
 (hch:∀ b∈ch,(b∈X.ex\/X.s₀.heap.objs.size<=b)/\b≠X.env.locals/\(∀ x c,X.env.cells.lookup x=some c->c≠b)/\∀ p∈X.pn++pins,p.1≠b):Inv X pins σ H' s':=by
 obtain ⟨h',g',d',t',o'⟩:=s'
 have e:o'=s.os:=ho
 subst e
 exact I.call (g':=g') (t':=t') (d':=d') u hok hg hch
end
noncomputable abbrev XK:=Oz->Option Addr->Hp->Prop
noncomputable abbrev St:=List (Option V)
noncomputable abbrev VK:=V->Hp->Prop
noncomputable abbrev TE:=St->Hp->VK->Prop
noncomputable abbrev TT:=St->Hp->(Bool->Hp->Prop)->Prop
noncomputable abbrev TA:=St->Hp->(List V->Hp->Prop)->Prop
structure Ends where
 nx:St->Hp->Prop
 rt:VK
 bk:St->Hp->Prop:=fun _ _=>False
 ct:St->Hp->Prop:=fun _ _=>False
noncomputable abbrev TS:=Ends->St->Hp->Prop
noncomputable def EP (X:Cx) (pins:List (Addr×Obj)) (σ:St) (Q:VK) (u:Oz) (s':OB):Prop:=∃ v H',Inv X pins σ H' s'/\RelV v u/\Q v H'
noncomputable def TP (X:Cx) (pins:List (Addr×Obj)) (σ:St) (Q:Bool->Hp->Prop) (b:Bool) (s':OB):Prop:=∃ H',Inv X pins σ H' s'/\Q b H'
noncomputable def AP (X:Cx) (pins:List (Addr×Obj)) (σ:St) (Q:List V->Hp->Prop) (us:List Oz) (s':OB):Prop:=∃ vs H',Inv X pins σ H' s'/\aq vs us/\Q vs H'
noncomputable def SP (X:Cx) (pins:List (Addr×Obj)) (D:Ends) (f:Flow) (s':OB):Prop :=
 match f with
 | .next=>∃ σ' H',Inv X pins σ' H' s'/\D.nx σ' H'
 | .brk=>∃ σ' H',Inv X pins σ' H' s'/\D.bk σ' H'
 | .cont=>∃ σ' H',Inv X pins σ' H' s'/\D.ct σ' H'
 | .ret u=>∃ v σ' H',Inv X pins σ' H' s'/\RelV v u/\D.rt v H'
noncomputable def PE (X:Cx) (e:Ru) (t:TE):Prop :=
 ∀ (pins:List (Addr×Obj)) (s:OB) (σ:St) (H:Hp) (Q:VK),Inv X pins σ H s->t σ H Q->wpAny (OY X.prog X.w) X.A (eval e X.env) (EP X pins σ Q) X.xe s
noncomputable def PT (X:Cx) (e:Ru) (t:TT):Prop :=
 ∀ (pins:List (Addr×Obj)) (s:OB) (σ:St) (H:Hp) (Q:Bool->Hp->Prop),Inv X pins σ H s->t σ H Q->wpAny (OY X.prog X.w) X.A (isTrue e X.env (eval e X.env)) (TP X pins σ Q) X.xe s
noncomputable def PW (X:Cx) (e:Ru) (t:TT):Prop :=
 ∀ (whole:Sem Oz) (pins:List (Addr×Obj)) (s:OB) (σ:St) (H:Hp) (Q:Bool->Hp->Prop),Inv X pins σ H s->t σ H Q->wpAny (OY X.prog X.w) X.A (isTrue e X.env whole) (TP X pins σ Q) X.xe s
theorem PW.pt {X:Cx}{e:Ru}{t:TT} (h:PW X e t):PT X e t:=h _
noncomputable def PA (X:Cx) (es:List Ru) (t:TA):Prop :=
 ∀ (pos:Pos) (pins:List (Addr×Obj)) (s:OB) (σ:St) (H:Hp) (Q:List V->Hp->Prop),Inv X pins σ H s->t σ H Q->wpAny (OY X.prog X.w) X.A (SQ (QE pos (O4 es X.env))) (AP X pins σ Q) X.xe s
noncomputable def PS (X:Cx) (st:Uh) (t:TS):Prop :=
 ∀ (pins:List (Addr×Obj)) (s:OB) (σ:St) (H:Hp) (D:Ends),Inv X pins σ H s->t D σ H->wpAny (OY X.prog X.w) X.A (exec st X.env) (SP X pins D) X.xe s
noncomputable def PSs (X:Cx) (st:List Uh) (t:TS):Prop :=
 ∀ (pins:List (Addr×Obj)) (s:OB) (σ:St) (H:Hp) (D:Ends),Inv X pins σ H s->t D σ H->wpAny (OY X.prog X.w) X.A (execs st X.env) (SP X pins D) X.xe s
theorem thn {α:Type}{t:Sem α}{Q Q':α->OB->Prop}{M:Model}{A:PL}{E:Oz->OB->Prop}{s:OB} (h:wpAny M A t Q E s) (hQ:∀ a s,Q a s->Q' a s):wpAny M A t Q' E s:=wpAny_mono h hQ fun _ _ x=>x
end L2
namespace L2
open PySem PySem.Spec PyProof.Rows
section
variable {X:Cx}
theorem bin {a b:Ru}{ta tb:TE} (ha:PE X a ta) (hb:PE X b tb) {pins:List (Addr×Obj)}{s:OB}{σ:St}{H:Hp}{R:V->V->Hp->Prop} (I:Inv X pins σ H s) (h:ta σ H fun x H1=>tb σ H1 fun y H2=>R x y H2)
 {α:Type}{Q:α->OB->Prop}{f:Oz->Oz->Sem α}
 (hf:∀ v u s2 x y H2,Inv X pins σ H2 s2->RelV x v->RelV y u->R x y H2->wpAny (OY X.prog X.w) X.A (f v u) Q X.xe s2) :
 wpAny (OY X.prog X.w) X.A (eval a X.env) (fun v s₁=>wpAny (OY X.prog X.w) X.A (eval b X.env) (fun u s₂=>wpAny (OY X.prog X.w) X.A (f v u) Q X.xe s₂) X.xe s₁) X.xe s:=by
 refine thn (ha pins s σ H _ I h) fun v s1 zq=>?_
 obtain ⟨x,H1,I1,r1,q1⟩:=zq
 refine thn (hb pins s1 σ H1 _ I1 q1) fun u s2 zq=>?_
 obtain ⟨y,H2,I2,r2,q2⟩:=zq
 exact hf v u s2 x y H2 I2 r1 r2 q2
noncomputable def LZ (i:Nat):TE:=fun σ H Q=>∃ v,σ[i]?=some (some v)/\Q v H
noncomputable def tC (v:V):TE:=fun _ H Q=>Q v H
theorem wA {i:Nat}{x:Str}{pos:Pos} (hN:X.N[i]?=some x) (hv:Vis X.env.scope x) (hd:(x==("__debug__":Str))=false:=by decide) (hcd:(x==("__classdict__":Str))=false:=by decide):PE X (.Name x pos) (LZ i):=by
 intro pins s σ H Q I h
 obtain ⟨v,e,h⟩:=h
 obtain ⟨m,hn,hl⟩:=I.loc
 obtain ⟨u,r,l⟩:=hl i x v hN e hv
 have fin:EP X pins σ Q u s:=⟨v,H,I,r,h⟩
 rcases l with ⟨hk,hm⟩ | ⟨hk,c,hc,hcell⟩
 ·exact wpAny_Name (wpAny_loadName_local I.ok.kind hk hn hm fin) hd
 ·rcases hk with hk | hk
  ·exact wpAny_Name (wpAny_loadName_cell I.ok.kind hk hc hcell fin) hd
  ·exact wpAny_Name (wpAny_loadName_free I.ok.kind hk hc hcell fin hcd) hd
theorem qI {i j pos}:PE X (.Constant (.int i) j pos) (tC (.int i)):=fun _ _ _ H _ I h=>wpAny_Constant_int ⟨.int i,H,I.tok _,⟨_,rfl⟩,h⟩
theorem HP {b j pos}:PE X (.Constant (.bool b) j pos) (tC (.bl b)):=fun _ _ _ H _ I h=>Constant_bool ⟨.bl b,H,I,rfl,h⟩
theorem Eg {j pos}:PE X (.Constant .none j pos) (tC .non):=fun _ _ _ H _ I h=>Constant_none ⟨.non,H,I,rfl,h⟩
theorem Eh {x j pos}:PE X (.Constant (.str x) j pos) (tC (.str x)):=fun _ _ _ H _ I h=>Calls.Constant_str ⟨.str x,H,I.tok _,⟨_,rfl⟩,h⟩
noncomputable def Gl (X:Cx) (x:Str):Prop:=X.env.kindOf x=some .globalImplicit
theorem iT {E:Oz->OB->Prop}{pins:List (Addr×Obj)}{s:OB}{σ:St}{H:Hp}{x:Str}{u:Oz}{pos:Pos}{Q:Oz->OB->Prop} (I:Inv X pins σ H s) (hg:Gl X x) (hm:X.mg x=some u) (h:Q u s)
 (hd:(x==("__debug__":Str))=false:=by decide):wpAny (OY X.prog X.w) X.A (eval (.Name x pos) X.env) Q E s :=
 TY I.ok.kind hg (Calls.loadGlobal_global (by rw[I.ok.glob];exact I.mod.glob.keeps I.bk) hm h) hd
theorem cV {E:Oz->OB->Prop}{pins:List (Addr×Obj)}{s:OB}{σ:St}{H:Hp}{x:Str}{u:Oz}{pos:Pos}{Q:Oz->OB->Prop} (I:Inv X pins σ H s) (hg:Gl X x) (hm:X.mg x=none) (hv:Sb x=some u) (h:Q u s)
 (hn:x≠"__name__":=by decide) (hd:(x==("__debug__":Str))=false:=by decide):wpAny (OY X.prog X.w) X.A (eval (.Name x pos) X.env) Q E s:=by
 obtain ⟨mb,h1,h2⟩:=I.mod.blt
 exact TY I.ok.kind hg (Calls.loadGlobal_builtin (by rw[I.ok.glob];exact I.mod.glob.keeps I.bk) hm (by rw[I.ok.blt];exact h1.keeps I.bk) ((h2 x hn).trans hv) h) hd
theorem rZ {x:Str}{v:V}{u:Oz}{pos:Pos} (hg:Gl X x) (hm:X.mg x=some u) (r:RelV v u) (hd:(x==("__debug__":Str))=false:=by decide):PE X (.Name x pos) (tC v) :=
 fun _ _ _ H _ I h=>iT I hg hm ⟨v,H,I,r,h⟩ hd
theorem iU {x:Str}{v:V}{u:Oz}{pos:Pos} (hg:Gl X x) (hm:X.mg x=none) (hv:Sb x=some u) (r:RelV v u) (hn:x≠"__name__":=by decide) (hd:(x==("__debug__":Str))=false:=by decide):PE X (.Name x pos) (tC v) :=
 fun _ _ _ H _ I h=>cV I hg hm hv ⟨v,H,I,r,h⟩ hn hd
variable {a b:Ru}{ta tb:TE}{pos:Pos}
noncomputable def PC (X:Cx) (op:CmpOp) (a b:Ru) (t:TE):Prop :=
 ∀ (pins:List (Addr×Obj)) (s:OB) (σ:St) (H:Hp) (Q:VK),Inv X pins σ H s->t σ H Q →
  wpAny (OY X.prog X.w) X.A (eval a X.env) (fun v s₁=>wpAny (OY X.prog X.w) X.A (eval b X.env) (fun u s₂=>wpAny (OY X.prog X.w) X.A (Pr op v u) (EP X pins σ Q) X.xe s₂) X.xe s₁) X.xe s
noncomputable def tB (t:TE):TT:=fun σ H Q=>t σ H fun x H1=>∃ c,x=.bl c/\Q c H1
theorem L0 {op:CmpOp}{t:TE} (h:PC X op a b t) (h1:TL op b=false:=by first | exact nobehind _ (by decide) (by decide) | rfl):PT X (.Compare a [op] [b] pos) (tB t):=by
 intro pins s σ H Q I hw
 refine wpAny_isTrue_Compare1 (thn (h pins s σ H _ I hw) fun v s1 h1=>thn h1 fun u s2 h2=>thn h2 fun c s3 ⟨x,H1,I1,r1,q1⟩=>?_) h1
 obtain ⟨d,rfl,q⟩:=q1
 cases r1
 exact P5 ⟨H1,I1,q⟩
theorem Ei {e:Ru}{t:TE} (h:PE X e t) (he:∀ whole,isTrue e X.env whole=(do let v ← whole;standAt e.pos;holding [v] (truthy v)):=by intro _;rfl):PT X e (tB t):=by
 intro pins s σ H Q I hw
 refine isTrue_plain (thn (h pins s σ H _ I hw) fun v s1 ⟨x,H1,I1,r1,q1⟩=>?_) (he _)
 obtain ⟨d,rfl,q⟩:=q1
 cases r1
 exact P5 ⟨H1,I1,q⟩
variable {tA tB':TT}{rest:List Ru}
noncomputable def HQ (t u:TT):TT:=fun σ H Q=>t σ H fun c H1=>if c=true then u σ H1 Q else Q false H1
noncomputable def tOr (t u:TT):TT:=fun σ H Q=>t σ H fun c H1=>if c=true then Q true H1 else u σ H1 Q
noncomputable def HR (t:TT):TT:=fun σ H Q=>t σ H fun c H1=>Q (!c) H1
theorem AG (ha:PT X a tA):PW X (.BoolOp .And [a] pos) tA:=by
 intro wh pins s σ H Q I h
 refine isTrue_and (thn (ha pins s σ H Q I h) fun c s1 e=>?_)
 cases c with
 | true=>exact isTrue_and_nil e
 | false=>exact e
theorem Ej (ha:PT X a tA):PW X (.BoolOp .Or [a] pos) tA:=by
 intro wh pins s σ H Q I h
 refine isTrue_or (thn (ha pins s σ H Q I h) fun c s1 e=>?_)
 cases c with
 | false=>exact isTrue_or_nil e
 | true=>exact e
theorem wB (ha:PT X a tA) (hb:PW X (.BoolOp .And (b :: rest) pos) tB'):PW X (.BoolOp .And (a :: b :: rest) pos) (HQ tA tB'):=by
 intro wh pins s σ H Q I h
 refine isTrue_and (thn (ha pins s σ H _ I h) fun c s1 zq=>?_)
 obtain ⟨H1,I1,q1⟩:=zq
 cases c with
 | true=>exact hb wh pins s1 σ H1 Q I1 q1
 | false=>exact ⟨H1,I1,q1⟩
theorem DE (ha:PT X a tA) (hb:PW X (.BoolOp .Or (b :: rest) pos) tB'):PW X (.BoolOp .Or (a :: b :: rest) pos) (tOr tA tB'):=by
 intro wh pins s σ H Q I h
 refine isTrue_or (thn (ha pins s σ H _ I h) fun c s1 zq=>?_)
 obtain ⟨H1,I1,q1⟩:=zq
 cases c with
 | true=>exact ⟨H1,I1,q1⟩
 | false=>exact hb wh pins s1 σ H1 Q I1 q1
theorem Ek (ha:PT X a tA):PT X (.UnaryOp .Not a pos) (HR tA):=by
 intro pins s σ H Q I h
 exact isTrue_not (ha pins s σ H (fun c H1=>Q (!c) H1) I h)
noncomputable def DF (ta tb:TE):TE:=fun σ H Q=>ta σ H fun x H1=>∃ c,x=.bl c/\if c=true then tb σ H1 Q else Q (.bl false) H1
noncomputable def HS (ta tb:TE):TE:=fun σ H Q=>ta σ H fun x H1=>∃ c,x=.bl c/\if c=true then Q (.bl true) H1 else tb σ H1 Q
noncomputable def DG (ta:TE):TE:=fun σ H Q=>ta σ H fun x H1=>∃ c,x=.bl c/\Q (.bl (!c)) H1
theorem wC {op}{t:TE} (h:PE X a t):PE X (.BoolOp op [a] pos) t:=fun pins s σ H Q I hw=>BoolOp_one (h pins s σ H Q I hw)
theorem wD (ha:PE X a ta) (hb:PE X (.BoolOp .And (b :: rest) pos) tb):PE X (.BoolOp .And (a :: b :: rest) pos) (DF ta tb):=by
 intro pins s σ H Q I h
 refine BoolOp_and (thn (ha pins s σ H _ I h) fun v s1 zq=>?_)
 obtain ⟨x,H1,I1,r1,q1⟩:=zq
 obtain ⟨c,rfl,q1⟩:=q1
 cases r1
 refine P5 ?_
 cases c with
 | true=>exact hb pins s1 σ H1 Q I1 q1
 | false=>exact ⟨.bl false,H1,I1,rfl,q1⟩
theorem DH (ha:PE X a ta) (hb:PE X (.BoolOp .Or (b :: rest) pos) tb):PE X (.BoolOp .Or (a :: b :: rest) pos) (HS ta tb):=by
 intro pins s σ H Q I h
 refine BoolOp_or (thn (ha pins s σ H _ I h) fun v s1 zq=>?_)
 obtain ⟨x,H1,I1,r1,q1⟩:=zq
 obtain ⟨c,rfl,q1⟩:=q1
 cases r1
 refine P5 ?_
 cases c with
 | false=>exact hb pins s1 σ H1 Q I1 q1
 | true=>exact ⟨.bl true,H1,I1,rfl,q1⟩
theorem El (ha:PE X a ta):PE X (.UnaryOp .Not a pos) (DG ta):=by
 intro pins s σ H Q I h
 refine UnaryOp_ (thn (ha pins s σ H _ I h) fun v s1 zq=>?_)
 obtain ⟨x,H1,I1,r1,q1⟩:=zq
 obtain ⟨c,rfl,q1⟩:=q1
 cases r1
 exact not_of (P5 ⟨.bl (!c),H1,I1,rfl,q1⟩)
noncomputable def tIf (t:TT) (ta tb:TE):TE:=fun σ H Q=>t σ H fun c H1=>if c=true then ta σ H1 Q else tb σ H1 Q
theorem wF {c:Ru} (hc:PT X c tA) (ha:PE X a ta) (hb:PE X b tb):PE X (.IfExp c a b pos) (tIf tA ta tb):=by
 intro pins s σ H Q I h
 refine wpAny_IfExp (thn (hc pins s σ H _ I h) fun d s1 zq=>?_)
 obtain ⟨H1,I1,q1⟩:=zq
 cases d with
 | true=>exact ha pins s1 σ H1 Q I1 q1
 | false=>exact hb pins s1 σ H1 Q I1 q1
end
end L2
namespace L2
open PySem PySem.Spec PyProof.Rows
noncomputable def SqL (K:Ow) (H:Hp) (a:Addr) (xs:List V):Prop :=
 Rd H a (.lst xs) ∨
  ∃ (o:Obj) (its:Array Oz) (n:Nat),K.lookup a=some o/\o.cls=.type "list"/\o.dict=none/\o.data=.seq its n/\its.size<=sizeLine/\aq xs its.toList
noncomputable def SqT (K:Ow) (H:Hp) (a:Addr) (xs:List V):Prop :=
 Rd H a (.tup xs) ∨
  ∃ (o:Obj) (its:Array Oz) (n:Nat),K.lookup a=some o/\o.cls=.type "tuple"/\o.data=.seq its n/\its.size<=sizeLine/\aq xs its.toList
noncomputable def L1:Oz->Option V
 | .none=>some .non
 | .bool b=>some (.bl b)
 | .int i _=>some (.int i)
 | .str x _=>some (.str x)
 | .bytes b _=>some (.byt b)
 | .float b _=>some (.flt b)
 | .ref a=>some (.ref a)
 | .type n=>some (.ty n)
 | _=>none
theorem RelV.abs {x:V}{u:Oz} (r:RelV x u):L1 u=some x:=by
 cases x with
 | non=>cases r;rfl
 | bl _=>cases r;rfl
 | int _=>obtain ⟨t,rfl⟩:=r;rfl
 | str _=>obtain ⟨t,rfl⟩:=r;rfl
 | byt _=>obtain ⟨t,rfl⟩:=r;rfl
 | flt _=>obtain ⟨t,rfl⟩:=r;rfl
 | ref _=>cases r;rfl
 | ty _=>cases r;rfl
theorem RelV.inj {x y:V}{u:Oz} (r:RelV x u) (q:RelV y u):x=y:=OP (r.abs.symm.trans q.abs)
theorem aq.inj:∀ {xs ys:List V}{us:List Oz},aq xs us->aq ys us->xs=ys
 | _,_,_,.nil,.nil=>rfl
 | _,_,_,.cons r t,.cons r' t'=>by rw[r.inj r',aq.inj t t']
section
variable {X:Cx}{pins:List (Addr×Obj)}{σ:St}{H:Hp}{s:OB}{a:Addr}{xs ys:List V}
theorem Inv.list (I:Inv X pins σ H s) (h:SqL X.K H a xs):∃ its:List Oz,aq xs its/\PlainL s.heap a its.toArray/\xs.length<=sizeLine:=by
 rcases h with h | ⟨o,its,n,hk,hc,hd,hs,hz,r⟩
 ·obtain ⟨z,its,n,r,e⟩:=h.ok I.hok
  exact ⟨its,r,⟨_,n,e,rfl,rfl,rfl⟩,z⟩
 ·refine ⟨its.toList,r,⟨o,n,I.kIn a o hk,hc,hd,by simpa using hs⟩,?_⟩
  have e:=r.length
  simp only[P1] at e
  omega
theorem Inv.tuple (I:Inv X pins σ H s) (h:SqT X.K H a xs):∃ its:List Oz,aq xs its/\IsTup s.heap a its.toArray/\xs.length<=sizeLine:=by
 rcases h with h | ⟨o,its,n,hk,hc,hs,hz,r⟩
 ·obtain ⟨z,its,r,p⟩:=h.ok I.hok
  exact ⟨its,r,p,z⟩
 ·refine ⟨its.toList,r,⟨o,I.kIn a o hk,hc,n,by simpa using hs⟩,?_⟩
  have e:=r.length
  simp only[P1] at e
  omega
theorem Inv.o6 (I:Inv X pins σ H s) (h:SqL X.K H a xs) (h':SqL X.K H a ys):xs=ys:=by
 obtain ⟨its,r,⟨o,n,e,_,_,d⟩,_⟩:=I.list h
 obtain ⟨its',r',⟨o',n',e',_,_,d'⟩,_⟩:=I.list h'
 rw[e] at e';cases e'
 rw[d] at d'
 injection d' with d1 _
 have:its=its':=by simpa using congrArg UI d1
 subst this
 exact r.inj r'
theorem Inv.uR (I:Inv X pins σ H s) (h:SqT X.K H a xs) (h':SqT X.K H a ys):xs=ys:=by
 obtain ⟨its,r,⟨o,e,_,n,d⟩,_⟩:=I.tuple h
 obtain ⟨its',r',⟨o',e',_,n',d'⟩,_⟩:=I.tuple h'
 rw[e] at e';cases e'
 rw[d] at d'
 injection d' with d1 _
 have:its=its':=by simpa using congrArg UI d1
 subst this
 exact r.inj r'
end
noncomputable abbrev Cx.lQ (X:Cx) (E:Oz->OB->Prop):Cx:={ X with xe:=E }
noncomputable abbrev Cx.nox (X:Cx):Cx:=X.lQ fun _ _=>False
theorem Cx.Ok.lQ {X:Cx} (ok:X.Ok) (E:Oz->OB->Prop):(X.lQ E).Ok :=
 ⟨ok.mod,ok.kind,ok.glob,ok.blt,ok.above,ok.inj,ok.has,ok.cab,ok.hd,ok.frames,ok.stk,ok.exf,ok.bs,ok.bsz,ok.noex,ok.exfs,ok.iC,ok.frf⟩
theorem Cx.Ok.f9 {X:Cx}{E:Oz->OB->Prop} (ok:(X.lQ E).Ok):X.Ok :=
 ⟨ok.mod,ok.kind,ok.glob,ok.blt,ok.above,ok.inj,ok.has,ok.cab,ok.hd,ok.frames,ok.stk,ok.exf,ok.bs,ok.bsz,ok.noex,ok.exfs,ok.iC,ok.frf⟩
section
variable {X:Cx}{pins:List (Addr×Obj)}{σ:St}{H:Hp}{s:OB}{E:Oz->OB->Prop}
theorem Inv.lQ (I:Inv X pins σ H s) (E:Oz->OB->Prop):Inv (X.lQ E) pins σ H s:=⟨I.ok.lQ E,I.os,I.bare,I.base,I.loc,I.cell,I.free,I.freeC,I.pin,I.hok,I.len⟩
theorem Inv.f9 (I:Inv (X.lQ E) pins σ H s):Inv X pins σ H s:=⟨I.ok.f9,I.os,I.bare,I.base,I.loc,I.cell,I.free,I.freeC,I.pin,I.hok,I.len⟩
theorem SP.f9 {D:Ends}{f:Flow}{s':OB} (h:SP (X.lQ E) pins D f s'):SP X pins D f s':=by
 cases f with
 | next=>obtain ⟨σ',H',I,q⟩:=h;exact ⟨σ',H',I.f9,q⟩
 | brk=>obtain ⟨σ',H',I,q⟩:=h;exact ⟨σ',H',I.f9,q⟩
 | cont=>obtain ⟨σ',H',I,q⟩:=h;exact ⟨σ',H',I.f9,q⟩
 | ret u=>obtain ⟨v,σ',H',I,r,q⟩:=h;exact ⟨v,σ',H',I.f9,r,q⟩
theorem PSs.nox {st:List Uh}{t:TS} (h:PSs X.nox st t):PSs X st t:=fun pins s σ H D I hw =>
 wpAny_mono (h pins s σ H D (I.lQ _) hw) (fun _ _ q=>q.f9) fun _ _ z=>Pn z
end
section
variable {X:Cx}{st:Uh}{rest:List Uh}{t u:TS}{e:Ru}{te:TE}{pos:Pos}
noncomputable def HU:TS:=fun D σ H=>D.nx σ H
noncomputable def HV (t u:TS):TS:=fun D σ H=>t { D with nx:=u D } σ H
theorem AH:PSs X [] HU:=fun _ _ σ H _ I h=>SN ⟨σ,H,I,h⟩
theorem wG (h1:PS X st t) (h2:PSs X rest u):PSs X (st :: rest) (HV t u):=by
 intro pins s σ H D I h
 refine wpAny_execs_cons (thn (h1 pins s σ H { D with nx:=u D } I h) fun f s1 q=>?_)
 cases f with
 | next =>
  obtain ⟨σ',H',I',q⟩:=q
  exact h2 pins s1 σ' H' D I' q
 | ret v=>exact q
 | brk=>exact q
 | cont=>exact q
theorem AI (h1:PS X st t):PSs X [st] t:=by
 intro pins s σ H D I h
 refine wpAny_execs_cons (thn (h1 pins s σ H D I h) fun f s1 q=>?_)
 cases f with
 | next=>exact SN q
 | ret v=>exact q
 | brk=>exact q
 | cont=>exact q
noncomputable def Em:TS:=fun D σ H=>D.bk σ H
noncomputable def HW:TS:=fun D σ H=>D.ct σ H
theorem wH:PS X (.Break pos) Em:=fun _ _ σ H _ I h=>wpAny_Break ⟨σ,H,I,h⟩
theorem o7:PS X (.Continue pos) HW:=fun _ _ σ H _ I h=>wpAny_Continue ⟨σ,H,I,h⟩
theorem Inv.quiet {pins:List (Addr×Obj)}{σ:St}{H:Hp}{s:OB} (I:Inv X pins σ H s):interactive X.env=false:=by simp[interactive,I.ok.kind]
noncomputable def HX (te:TE):TS:=fun D σ H=>te σ H fun _ H1=>D.nx σ H1
theorem AJ (he:PE X e te) (hs:RN e none pos.line X.env=pure false:=by rfl):PS X (.Expr e pos) (HX te):=by
 intro pins s σ H D I h
 exact wpAny_Expr_any (thn (he pins s σ H _ I h) fun v s1 ⟨x,H1,I1,r1,q1⟩=>⟨σ,H1,I1,q1⟩) I.quiet hs
noncomputable def L3 (te:TE):TS:=fun D σ H=>te σ H D.rt
theorem wI (he:PE X e te):PS X (.Return (some e) pos) (L3 te):=by
 intro pins s σ H D I h
 exact wpAny_Return_some (thn (he pins s σ H _ I h) fun v s1 ⟨x,H1,I1,r1,q1⟩=>⟨x,σ,H1,I1,r1,q1⟩)
noncomputable def L4 (c:TT) (t u:TS):TS:=fun D σ H=>c σ H fun b H1=>if b=true then t D σ H1 else u D σ H1
theorem HY {c:Ru}{a b:List Uh}{tc:TT} (hc:PT X c tc) (ha:PSs X a t) (hb:PSs X b u):PS X (.If c a b pos) (L4 tc t u):=by
 intro pins s σ H D I h
 refine wpAny_If (thn (hc pins s σ H _ I h) fun d s1 zq=>?_)
 obtain ⟨H1,I1,q1⟩:=zq
 cases d with
 | true=>exact ha pins s1 σ H1 D I1 q1
 | false=>exact hb pins s1 σ H1 D I1 q1
end
noncomputable abbrev TG:=V->St->Hp->(St->Hp->Prop)->Prop
noncomputable abbrev TGs:=List V->St->Hp->(St->Hp->Prop)->Prop
noncomputable def PG (X:Cx) (target:Ru) (t:TG):Prop :=
 ∀ (pins:List (Addr×Obj)) (s:OB) (σ:St) (H:Hp) (v:V) (u:Oz) (Q:St->Hp->Prop),Inv X pins σ H s->RelV v u->t v σ H Q →
  wpAny (OY X.prog X.w) X.A (UB target X.env u) (fun _ s'=>∃ σ' H',Inv X pins σ' H' s'/\Q σ' H') X.xe s
noncomputable def PGs (X:Cx) (ts:List Ru) (t:TGs):Prop :=
 ∀ (pins:List (Addr×Obj)) (s:OB) (σ:St) (H:Hp) (vs:List V) (us:List Oz) (Q:St->Hp->Prop),Inv X pins σ H s->aq vs us->t vs σ H Q →
  wpAny (OY X.prog X.w) X.A (assignInOrder ((S6 ts X.env).map (·.2)) us) (fun _ s'=>∃ σ' H',Inv X pins σ' H' s'/\Q σ' H') X.xe s
noncomputable abbrev En:=V->V->V->Hp->(Hp->Prop)->Prop
noncomputable def Eo (X:Cx) (t:En):Prop :=
 ∀ (pins:List (Addr×Obj)) (s:OB) (σ:St) (H:Hp) (o i v:V) (ov iv u:Oz) (Q:Hp->Prop),Inv X pins σ H s->RelV o ov->RelV i iv->RelV v u->t o i v H Q →
  wpAny (OY X.prog X.w) X.A (setItem ov iv u) (fun _ s'=>∃ H',Inv X pins σ H' s'/\Q H') X.xe s
noncomputable abbrev TIp:=V->V->Hp->VK->Prop
noncomputable def PIp (X:Cx) (op:Ry) (t:TIp):Prop :=
 ∀ (pins:List (Addr×Obj)) (s:OB) (σ:St) (H:Hp) (x y:V) (v u:Oz) (Q:VK),Inv X pins σ H s->RelV x v->RelV y u->t x y H Q →
  wpAny (OY X.prog X.w) X.A (inplaceOp op v u) (EP X pins σ Q) X.xe s
section
variable {X:Cx}{pos:Pos}
noncomputable def o8 (i:Nat):TG:=fun v σ H Q=>Q (σ.set i (some v)) H
theorem nv {i:Nat}{x:Str} (hN:X.N.Nodup) (hi:X.N[i]?=some x) (hx:Loc X.env.scope x) (hf:X.fn x=true\/X.env.scope.names.lookup x=some .local:=by first | exact .inl rfl | exact .inr rfl | assumption):PG X (.Name x pos) (o8 i):=by
 intro pins s σ H v u Q I r h
 exact wpAny_assign_Name (kH I hN hi hx r (fun s' I'=>⟨_,H,I',h⟩) hf)
noncomputable def Ep:TGs:=fun vs σ H Q=>vs=[]/\Q σ H
noncomputable def DI (t:TG) (u:TGs):TGs:=fun vs σ H Q=>∃ v r,vs=v :: r/\t v σ H fun σ' H'=>u r σ' H' Q
theorem AK:PGs X [] Ep:=by
 intro pins s σ H vs us Q I r h
 obtain ⟨e,h⟩:=h
 subst e
 cases r
 exact assignInOrder_nil ⟨σ,H,I,h⟩
theorem o9 {e:Ru}{es:List Ru}{t:TG}{u:TGs} (h1:PG X e t) (h2:PGs X es u)
 (hs:(S6 (e :: es) X.env).map (·.2)=UB e X.env :: (S6 es X.env).map (·.2):=by rfl):PGs X (e :: es) (DI t u):=by
 intro pins s σ H vs us Q I r h
 obtain ⟨v,vr,e1,h⟩:=h
 subst e1
 cases r with
 | cons r rr =>
  rw[hs]
  refine assignInOrder_cons (thn (h1 pins s σ H _ _ _ I r h) fun _ s1 zq=>?_)
  obtain ⟨σ1,H1,I1,q1⟩:=zq
  exact h2 pins s1 σ1 H1 _ _ Q I1 rr q1
noncomputable def L5 (K:Ow) (n:Nat) (t:TGs):TG:=fun v σ H Q=>∃ a xs,v=.ref a/\SqT K H a xs/\xs.length=n/\t xs σ H Q
theorem Er {es:List Ru}{k:Nat}{t:TGs}{n:Nat} (hc:X.calm=true) (h:PGs X es t)
 (hn:(S6 es X.env).length=n:=by rfl) (hst:(S6 es X.env).findIdx? (·.1)=none:=by rfl):PG X (.Tuple es k pos) (L5 X.K n t):=by
 intro pins s σ H v u Q I r hw
 obtain ⟨a,xs,e1,hq,hl,hw⟩:=hw
 subst e1
 cases r
 obtain ⟨its,rv,ht,hz⟩:=I.tuple hq
 refine assign_Tuple_tuple (I.ok.hd hc) ht (by simp[hn,← hl,rv.length]) hst fun h' hx=>?_
 have I1:Inv X pins σ H { s with heap:=h' }:=I.kept (t':=s.toks) fun b o e=>hx b o (O3 (OG e)) e
 exact h pins _ σ H xs _ Q I1 (by simpa using rv) hw
noncomputable def Et (to ti:TE) (t:En):TG:=fun v σ H Q=>to σ H fun o H1=>ti σ H1 fun i H2=>t o i v H2 fun H3=>Q σ H3
theorem wJ {o i:Ru}{to ti:TE}{t:En} (ho:PE X o to) (hi:PE X i ti) (hs:Eo X t)
 (ha:∀ v,UB (.Subscript o i pos) X.env v=(do
  let ov ← holding [v] (eval o X.env)
  let iv ← holding [v,ov] (eval i X.env)
  standAt pos
  holding [v,ov,iv] (setItem ov iv v)
  release [v,ov,iv] []):=by intro _;rfl):PG X (.Subscript o i pos) (Et to ti t):=by
 intro pins s σ H v u Q I r h
 rw[ha]
 refine wpAny_bind (PU (thn (ho pins s σ H _ I h) fun ov s1 zq=>?_))
 obtain ⟨x,H1,I1,r1,q1⟩:=zq
 refine wpAny_bind (PU (thn (hi pins s1 σ H1 _ I1 q1) fun iv s2 zq=>?_))
 obtain ⟨y,H2,I2,r2,q2⟩:=zq
 refine wpAny_bind (U8 (wpAny_bind (PU (thn (hs pins s2 σ H2 x y v ov iv u _ I2 r1 r2 r q2) fun _ s3 zq=>?_))))
 obtain ⟨H3,I3,q3⟩:=zq
 exact wpAny_release ⟨σ,H3,I3,q3⟩
noncomputable def uS (te:TE) (g:TG):TS:=fun D σ H=>te σ H fun x H1=>g x σ H1 D.nx
theorem wK {tg e:Ru}{te:TE}{g:TG} (he:PE X e te) (hg:PG X tg g) (hs:swapsWithSole [tg] e pos.line X.env=pure false:=by rfl) (hw:swappedStores [tg] e X.env=pure none:=by rfl)
 (h1:(S6 [tg] X.env).map (·.2)=[UB tg X.env]:=by rfl):PS X (.Assign [tg] e pos) (uS te g):=by
 intro pins s σ H D I h
 refine wpAny_Assign_stores (thn (he pins s σ H _ I h) fun v s1 ⟨x,H1,I1,r1,q1⟩=>?_) hs hw
 rw[h1]
 exact thn (hg pins s1 σ H1 x v _ I1 r1 q1) fun _ s2 q=>q
theorem qJ {i:Nat}{x:Str}{e:Ru}{te:TE}{pos':Pos} (hN:X.N.Nodup) (hi:X.N[i]?=some x) (hx:Loc X.env.scope x) (he:PE X e te) (hs:RN e (some (.Name x pos')) pos.line X.env=pure false:=by rfl) (hf:X.fn x=true\/X.env.scope.names.lookup x=some .local:=by first | exact .inl rfl | exact .inr rfl | assumption) :
 PS X (.Assign [.Name x pos'] e pos) (uS te (o8 i)):=by
 intro pins s σ H D I h
 refine wpAny_Assign_Name (thn (he pins s σ H _ I h) fun v s1 ⟨y,H1,I1,r1,q1⟩=>?_) hs
 exact kH I1 hN hi hx r1 (fun s2 I2=>⟨_,H1,I2,q1⟩) hf
noncomputable def HZ (i:Nat) (te:TE) (ti:TIp):TS:=fun D σ H=>∃ x,σ[i]?=some (some x)/\te σ H fun y H1=>ti x y H1 fun z H2=>D.nx (σ.set i (some z)) H2
theorem Eu {i:Nat}{x:Str}{e:Ru}{te:TE}{op:Ry}{ti:TIp}{pos':Pos} (hN:X.N.Nodup) (hi:X.N[i]?=some x) (hx:Loc X.env.scope x) (he:PE X e te) (ho:PIp X op ti) (hf:X.fn x=true\/X.env.scope.names.lookup x=some .local:=by first | exact .inl rfl | exact .inr rfl | assumption) :
 PS X (.AugAssign (.Name x pos') op e pos) (HZ i te ti):=by
 intro pins s σ H D I h
 obtain ⟨v,e1,h⟩:=h
 obtain ⟨m,hn,hl⟩:=I.loc
 have vis:Vis X.env.scope x:=by rcases hx with k | k;exact .inl k;exact .inr (.inl k)
 obtain ⟨u,r,l⟩:=hl i x v hi e1 vis
 refine wpAny_AugAssign_Name ?_
 have go:wpAny (OY X.prog X.w) X.A (eval e X.env) (fun w s₂=>wpAny (OY X.prog X.w) X.A (inplaceOp op u w) (fun r s₃=>wpAny (OY X.prog X.w) X.A (storeName X.env x r) (fun _=>SP X pins D .next) X.xe s₃) X.xe s₂) X.xe s:=by
  refine thn (he pins s σ H _ I h) fun w s1 zq=>?_
  obtain ⟨y,H1,I1,r1,q1⟩:=zq
  refine thn (ho pins s1 σ H1 v y u w _ I1 r r1 q1) fun z s2 zq=>?_
  obtain ⟨zv,H2,I2,r2,q2⟩:=zq
  exact kH I2 hN hi hx r2 (fun s3 I3=>⟨_,H2,I3,q2⟩) hf
 rcases l with ⟨hk,hm⟩ | ⟨hk,c,hc,hcell⟩
 ·exact wpAny_loadName_local I.ok.kind hk hn hm go
 ·rcases hk with hk | hk
  ·exact wpAny_loadName_cell I.ok.kind hk hc hcell go
  ·rcases hx with k | k
   ·have:X.env.scope.names.lookup x=some .free:=hk
    rw[k] at this;cases this
   ·have:X.env.scope.names.lookup x=some .free:=hk
    rw[k] at this;cases this
end
section
variable {X:Cx}{pos:Pos}
noncomputable def wL (c:TT) (tb:TS):TS:=fun D σ H=>∃ W:Nat->St->Hp->Prop,(∃ m,W m σ H)/\∀ m σ H,W m σ H →
 c σ H fun b H1=>if b=true then ∃ N:St->Hp->Prop,(∀ σ' H',N σ' H'->∃ m',m' < m/\W m' σ' H')/\tb { D with nx:=N,ct:=N,bk:=D.nx } σ H1 else D.nx σ H1
theorem wM {c:Ru}{body:List Uh}{tc:TT}{tb:TS} (hp:PassesOwn (OY X.prog X.w) X.A X.env X.xe) (hc:PT X c tc) (hb:PSs X body tb):PS X (.While c body [] pos) (wL tc tb):=by
 intro pins s σ H D I h
 obtain ⟨W,⟨m0,w0⟩,turn⟩:=h
 refine wpAny_While (codeAny_whileLoop (fun n s'=>∃ σ' H',Inv X pins σ' H' s'/\W n σ' H') ?_ m0 ⟨σ,H,I,w0⟩)
 rintro n s1 ⟨σ1,H1,I1,w1⟩
 refine QW hp (thn (hc pins s1 σ1 H1 _ I1 (turn n σ1 H1 w1)) fun b s2 zq=>?_)
 obtain ⟨H2,I2,q2⟩:=zq
 cases b with
 | true =>
  obtain ⟨N,hN,q2⟩:=q2
  rw[if_pos rfl]
  refine QW hp (thn (hb pins s2 σ1 H2 _ I2 q2) fun f s3 q3=>?_)
  cases f with
  | next =>
   obtain ⟨σ3,H3,I3,n3⟩:=q3
   obtain ⟨m',hm,w3⟩:=hN σ3 H3 n3
   exact ⟨m',hm,σ3,H3,I3,w3⟩
  | cont =>
   obtain ⟨σ3,H3,I3,n3⟩:=q3
   obtain ⟨m',hm,w3⟩:=hN σ3 H3 n3
   exact ⟨m',hm,σ3,H3,I3,w3⟩
  | brk=>exact q3
  | ret v=>exact q3
 | false =>
  rw[if_neg Pe]
  exact SN ⟨σ1,H2,I2,q2⟩
end
structure It where
 go:Nat->Hp->Prop
 yld:Nat->Hp->V->Hp->Prop
 stop:Nat->Hp->Prop
noncomputable def lR (X:Cx) (pins:List (Addr×Obj)) (H:Hp) (b:Addr):Prop :=
 H b=none/\b≠X.env.locals/\b∉X.fs/\(b∈X.ex\/X.s₀.heap.objs.size<=b)/\(∀ x c,X.env.cells.lookup x=some c->c≠b)/\∀ p∈X.pn++pins,p.1≠b
theorem Inv.AL {X:Cx}{pins:List (Addr×Obj)}{σ:St}{H H':Hp}{s:OB}{b:Addr} (I:Inv X pins σ H s) (hb:s.heap.objs.size<=b) (hn:H' b=none):lR X pins H' b:=by
 refine ⟨hn,QA (O1 I.lt hb),I.LY hb,.inr (Ph I.sz hb),fun x c e z=>?_,fun p hp z=>?_⟩
 ·obtain ⟨v,q⟩:=I.cell x c e
  exact absurd (O1 q.lt (by rw[z];exact hb)) (Pi _)
 ·exact absurd (O1 (OG (I.pin p hp).1) (by rw[z];exact hb)) (Pi _)
structure Turn (P:OO) (w:O6) (K:Ow) (tg:Ru) (J:It) (fp:List Addr) (it:Addr) (tn:Nat->Heap->Prop):Prop where
 mem:it∈fp
 obj:∀ i h,tn i h->∀ b∈fp,∃ o,h.get? b=some o/\∀ v,o.data≠.cell v
 keep:∀ i h h',tn i h->(∀ b∈fp,∀ o,h.get? b=some o->h'.get? b=some o)->tn i h'
 item:∀ (X:Cx),X.prog=P->X.w=w->X.K=K->X.calm=true->∀ (i:Nat) (pins:List (Addr×Obj)) (s:OB) (σ:St) (H:Hp) (E:Oz->OB->Prop),Inv X pins σ H s->(∀ b∈fp,lR X pins H b)->tn i s.heap->J.go i H →
  wpAny (OY P w) X.A (TH (.ref it)) (fun r s1=>∃ u,r=some u ∧
   wpAny (OY P w) X.A (SR tg (.ref it) u) (fun _ s2=>∃ x H',Inv X pins σ H' s2/\RelV x u/\J.yld i H x H'/\tn (i+1) s2.heap/\∀ b∈fp,H' b=none) E s1) E s
 done:∀ (X:Cx),X.prog=P->X.w=w->X.K=K->X.calm=true->∀ (i:Nat) (pins:List (Addr×Obj)) (s:OB) (σ:St) (H:Hp) (E:Oz->OB->Prop),Inv X pins σ H s->(∀ b∈fp,lR X pins H b)->tn i s.heap->J.stop i H →
  wpAny (OY P w) X.A (TH (.ref it)) (fun r s1=>r=none/\Inv X pins σ H s1) E s
 self:∀ (A:PL) (i:Nat) (s:OB) (Q:Oz->OB->Prop) (E:Oz->OB->Prop),tn i s.heap->Q (.ref it) s->wpAny (OY P w) A (pyIter (.ref it)) Q E s
noncomputable abbrev TI:=St->Hp->(It->Hp->Prop)->Prop
noncomputable def PIE (X:Cx) (pins:List (Addr×Obj)) (σ:St) (tg:Ru) (R:It->Hp->Prop) (itv:Oz) (s2:OB):Prop :=
 ∃ (it:Addr) (fp:List Addr) (tn:Nat->Heap->Prop) (J:It) (H':Hp),itv=.ref it/\Inv X pins σ H' s2/\Turn X.prog X.w X.K tg J fp it tn/\tn 0 s2.heap/\(∀ b∈fp,lR X pins H' b)/\R J H'
noncomputable def PI (X:Cx) (tg iter:Ru) (wi:TI):Prop :=
 ∀ (pins:List (Addr×Obj)) (s:OB) (σ:St) (H:Hp) (R:It->Hp->Prop),Inv X pins σ H s->wi σ H R →
  wpAny (OY X.prog X.w) X.A (eval iter X.env) (fun v s1=>wpAny (OY X.prog X.w) X.A (pyIter v) (PIE X pins σ tg R) X.xe s1) X.xe s
theorem r8 {M:Model}{A:PL}{E:Oz->OB->Prop}{s:OB}{tg:Ru}{it:Addr}{u:Oz}{o:Obj}{n:String}{vs:Array Oz}{Q:Unit->OB->Prop} (ho:s.heap.get? it=some o) (hc:o.cls=.type n) (hd:o.data=.fields vs)
 (hn:["enumerate","zip","dict_itemiterator","dict_reverseitemiterator","odict_iterator","itertools.zip_longest","itertools.pairwise"].contains n=false) (hQ:Q () s):wpAny M A (SR tg (.ref it) u) Q E s:=by
 unfold SR
 cases tg<;>first
  | exact wpAny_pure hQ
  | (cases u<;>first
   | exact wpAny_pure hQ
   | (refine wpAny_bind (wpAny_load ho ?_)
      rw[hc,hd]
      show wpAny M A (if (["enumerate","zip","dict_itemiterator","dict_reverseitemiterator","odict_iterator","itertools.zip_longest","itertools.pairwise"].contains n&&vs[0]?==some (QH _))=true then _ else _) Q E s
      rw[if_neg (by intro h;rw[hn,Bool.false_and] at h;cases h)]
      exact wpAny_pure hQ))
noncomputable def Itl (K:Ow) (a:Addr):It :=
 ⟨fun i H=>∃ xs x,SqL K H a xs/\xs[i]?=some x,fun i H x H'=>H'=H/\∀ xs,SqL K H a xs->xs[i]?=some x,fun i H=>∃ xs,SqL K H a xs/\xs.length<=i⟩
noncomputable def Itt (K:Ow) (a:Addr):It :=
 ⟨fun i H=>∃ xs x,SqT K H a xs/\xs[i]?=some x,fun i H x H'=>H'=H/\∀ xs,SqT K H a xs->xs[i]?=some x,fun i H=>∃ xs,SqT K H a xs/\xs.length<=i⟩
noncomputable def Itr (lo:Int) (n:Nat):It:=⟨fun i _=>i < n,fun i H x H'=>H'=H/\x=.int (lo+i),fun i _=>n<=i⟩
theorem uT {P:OO}{w:O6}{K:Ow}{tg:Ru} (a it:Addr):Turn P w K tg (Itl K a) [it] it (fun i h=>h.IsListIter it a i) where
 mem:=by simp
 obj:=fun i h st b hb=>by
  have e:b=it:=by simpa using hb
  subst e
  obtain ⟨o,e,c,d⟩:=st
  exact ⟨o,e,fun v z=>by rw[d] at z;cases z⟩
 keep:=fun i h h' st k=>st.at fun o e=>k it (by simp) o e
 item:=by
  intro X hP hw hK hc i pins s σ H E I hf st hg
  subst hP hw hK
  obtain ⟨xs,x,hq,hx⟩:=hg
  obtain ⟨its,rv,p,hz⟩:=I.list hq
  obtain ⟨u,hu,ru⟩:=rv.get hx
  obtain ⟨f0,f1,f2,f3,f4,f5⟩:=hf it (by simp)
  refine wpAny_pyNext_list_item st p.isList (x:=u) (by simpa using hu) fun h' st' sb=>?_
  have I1:Inv X pins σ H { s with heap:=h' }:=I.turned (t':=s.toks) (fun b o hb e=>(sb.2 b hb).trans e) f0 f1 f3 f4 f5
  obtain ⟨o,e,c,d⟩:=id st'
  exact ⟨u,rfl,r8 (s:={ s with heap:=h' }) e c d (by decide) ⟨x,H,I1,ru,⟨rfl,fun ys hy=>by rw[I.o6 hy hq];exact hx⟩,st',fun b hb=>(hf b hb).1⟩⟩
 done:=by
  intro X hP hw hK hc i pins s σ H E I hf st hg
  subst hP hw hK
  obtain ⟨xs,hq,hx⟩:=hg
  obtain ⟨its,rv,p,hz⟩:=I.list hq
  obtain ⟨f0,f1,f2,f3,f4,f5⟩:=hf it (by simp)
  have hl:=rv.length
  exact wpAny_pyNext_list_end (I.ok.hd hc) st p.isList (by simp;omega) fun h' eb=>⟨rfl,I.turned (t':=s.toks) (fun b o hb e=>eb b o hb e) f0 f1 f3 f4 f5⟩
 self:=fun _ _ _ _ _ st h=>wpAny_pyIter_listiter st h
theorem qK {P:OO}{w:O6}{K:Ow}{tg:Ru} (a it:Addr):Turn P w K tg (Itt K a) [it] it (fun i h=>h.IsTupleIter it a i) where
 mem:=by simp
 obj:=fun i h st b hb=>by
  have e:b=it:=by simpa using hb
  subst e
  obtain ⟨o,e,c,d⟩:=st
  exact ⟨o,e,fun v z=>by rw[d] at z;cases z⟩
 keep:=fun i h h' st k=>st.at fun o e=>k it (by simp) o e
 item:=by
  intro X hP hw hK hc i pins s σ H E I hf st hg
  subst hP hw hK
  obtain ⟨xs,x,hq,hx⟩:=hg
  obtain ⟨its,rv,p,hz⟩:=I.tuple hq
  obtain ⟨u,hu,ru⟩:=rv.get hx
  obtain ⟨f0,f1,f2,f3,f4,f5⟩:=hf it (by simp)
  refine wpAny_pyNext_tuple_item st (show s.heap.IsTuple a its.toArray from p) (x:=u) (by simpa using hu) fun h' st' sb=>?_
  have I1:Inv X pins σ H { s with heap:=h' }:=I.turned (t':=s.toks) (fun b o hb e=>(sb.2 b hb).trans e) f0 f1 f3 f4 f5
  obtain ⟨o,e,c,d⟩:=id st'
  exact ⟨u,rfl,r8 (s:={ s with heap:=h' }) e c d (by decide) ⟨x,H,I1,ru,⟨rfl,fun ys hy=>by rw[I.uR hy hq];exact hx⟩,st',fun b hb=>(hf b hb).1⟩⟩
 done:=by
  intro X hP hw hK hc i pins s σ H E I hf st hg
  subst hP hw hK
  obtain ⟨xs,hq,hx⟩:=hg
  obtain ⟨its,rv,p,hz⟩:=I.tuple hq
  obtain ⟨f0,f1,f2,f3,f4,f5⟩:=hf it (by simp)
  have hl:=rv.length
  exact wpAny_pyNext_tuple_end (I.ok.hd hc) st (show s.heap.IsTuple a its.toArray from p) (by simp;omega) fun h' eb=>⟨rfl,I.turned (t':=s.toks) (fun b o hb e=>eb b o hb e) f0 f1 f3 f4 f5⟩
 self:=fun _ _ _ _ _ st h=>wpAny_pyIter_tupleiter st h
theorem qL {P:OO}{w:O6}{K:Ow}{tg:Ru} (it:Addr) (lo:Int) (n:Nat):Turn P w K tg (Itr lo n) [it] it (fun i h=>IsRangeIter h it (lo+(i:Nat)*1) ((n:Int) - (i:Nat)) 1) where
 mem:=by simp
 obj:=fun i h st b hb=>by
  have e:b=it:=by simpa using hb
  subst e
  exact ⟨_,st,fun v z=>by
   have z':Data.fields _=Data.cell v:=z
   cases z'⟩
 keep:=fun i h h' st k=>k it (by simp) _ st
 item:=by
  intro X hP hw hK hc i pins s σ H E I hf st hg
  subst hP hw hK
  obtain ⟨f0,f1,f2,f3,f4,f5⟩:=hf it (by simp)
  have W:=Walks.range (prog:=X.prog) (w:=X.w) (I.ok.hd hc) it lo 1 n
  refine W.item i s _ _ hg st fun v h' tk hv st' kk=>?_
  obtain ⟨t,rfl⟩:=hv
  have I1:Inv X pins σ H { s with heap:=h',toks:=tk }:=I.turned (fun b o hb e=>kk b o (by simpa using hb) e) f0 f1 f3 f4 f5
  refine ⟨_,rfl,r8 (s:={ s with heap:=h',toks:=tk }) (n:="range_iterator") st' rfl rfl (by decide) ⟨.int (lo+i),H,I1,⟨t,?_⟩,⟨rfl,rfl⟩,st',fun b hb=>(hf b hb).1⟩⟩
  rw[Int.mul_one]
 done:=by
  intro X hP hw hK hc i pins s σ H E I hf st hg
  subst hP hw hK
  obtain ⟨f0,f1,f2,f3,f4,f5⟩:=hf it (by simp)
  exact wpAny_pyNext_range_end (I.ok.hd hc) st (by have:n<=i:=hg;omega) fun h' eb=>⟨rfl,I.turned (t':=s.toks) (fun b o hb e=>eb b o hb e) f0 f1 f3 f4 f5⟩
 self:=fun _ _ _ _ _ st h=>wpAny_pyIter_rangeiter st h
end L2
namespace L2
open PySem PySem.Spec PyProof.Rows
section
variable {X:Cx}{tg:Ru}
noncomputable def Ia (K:Ow) (tl:TE):TI:=fun σ H R=>tl σ H fun x H1=>∃ a,x=.ref a/\(∃ xs,SqL K H1 a xs)/\R (Itl K a) H1
noncomputable def L6 (K:Ow) (tl:TE):TI:=fun σ H R=>tl σ H fun x H1=>∃ a,x=.ref a/\(∃ xs,SqT K H1 a xs)/\R (Itt K a) H1
theorem AM {l:Ru}{tl:TE} (hl:PE X l tl):PI X tg l (Ia X.K tl):=by
 intro pins s σ H R I h
 refine thn (hl pins s σ H _ I h) fun v s1 zq=>?_
 obtain ⟨x,H1,I1,r1,q1⟩:=zq
 obtain ⟨a,e,⟨xs,hq⟩,q⟩:=q1
 subst e
 cases r1
 obtain ⟨its,rv,p,hz⟩:=I1.list hq
 refine wpAny_pyIter_list p.isList ?_
 refine ⟨s1.heap.objs.size,[s1.heap.objs.size],_,_,H1,rfl,I1.kept (t':=s1.toks) fun b o e=>OA _ e,uT a _,⟨_,OI _ rfl,rfl,rfl⟩,fun b hb=>?_,q⟩
 have e:b=s1.heap.objs.size:=by simpa using hb
 subst e
 exact I1.AL (OE _) (I1.hok.fresh (OE _))
theorem Ew {l:Ru}{tl:TE} (hl:PE X l tl):PI X tg l (L6 X.K tl):=by
 intro pins s σ H R I h
 refine thn (hl pins s σ H _ I h) fun v s1 zq=>?_
 obtain ⟨x,H1,I1,r1,q1⟩:=zq
 obtain ⟨a,e,⟨xs,hq⟩,q⟩:=q1
 subst e
 cases r1
 obtain ⟨its,rv,p,hz⟩:=I1.tuple hq
 refine wpAny_pyIter_tuple (show s1.heap.IsTuple a its.toArray from p) ?_
 refine ⟨s1.heap.objs.size,[s1.heap.objs.size],_,_,H1,rfl,I1.kept (t':=s1.toks) fun b o e=>OA _ e,qK a _,⟨_,OI _ rfl,rfl,rfl⟩,fun b hb=>?_,q⟩
 have e:b=s1.heap.objs.size:=by simpa using hb
 subst e
 exact I1.AL (OE _) (I1.hok.fresh (OE _))
theorem pq {pins:List (Addr×Obj)}{σ:St}{H:Hp}{s:OB}{R:It->Hp->Prop}{E:Oz->OB->Prop}{lo hi:Int}{t u v:Tok}{tk:Nat} (I:Inv X pins σ H s) (h1:-(2 ^ 62)<=lo) (h2:lo < 2 ^ 62) (h3:-(2 ^ 62)<=hi) (h4:hi < 2 ^ 62)
 (q:R (Itr lo (hi - lo).toNat) H):wpAny (OY X.prog X.w) X.A (pyIter (.ref s.heap.objs.size)) (PIE X pins σ tg R) E { s with heap:=s.heap.push { cls:=.type "range",data:=.fields #[.int lo t,.int hi u,.int 1 v] },toks:=tk }:=by
 refine wpAny_pyIter_range (IsRange.new ..) (small_one h1 h2 h3 h4) ?_
 have I1:Inv X pins σ H { s with heap:=s.heap.push { cls:=.type "range",data:=.fields #[.int lo t,.int hi u,.int 1 v] },toks:=tk }:=I.kept fun b o e=>OA _ e
 refine ⟨(s.heap.push { cls:=.type "range",data:=.fields #[.int lo t,.int hi u,.int 1 v] }).objs.size,[(s.heap.push { cls:=.type "range",data:=.fields #[.int lo t,.int hi u,.int 1 v] }).objs.size],_,_,H,rfl,
  I1.kept (t':=tk) fun b o e=>OA _ e,qL _ lo (hi - lo).toNat,?_,fun b hb=>?_,q⟩
 ·have e1:lo+((0:Nat):Int)*1=lo:=by simp
  have e2:(((hi - lo).toNat:Nat):Int) - ((0:Nat):Int)=Builtin.Range.rangeSize lo hi 1:=by rw[rangeSize_one];split<;>omega
  show IsRangeIter _ _ (lo+((0:Nat):Int)*1) ((((hi - lo).toNat:Nat):Int) - ((0:Nat):Int)) 1
  rw[e1,e2]
  exact OI _ rfl
 ·have e:b=(s.heap.push { cls:=.type "range",data:=.fields #[.int lo t,.int hi u,.int 1 v] }).objs.size:=by simpa using hb
  subst e
  exact I1.AL (OE _) (I1.hok.fresh (OE _))
noncomputable def Ib (ta:TA):TI:=fun σ H R=>ta σ H fun vs H1=>∃ j:Int,vs=[.int j]/\-(2 ^ 62)<=j/\j < 2 ^ 62/\R (Itr 0 j.toNat) H1
noncomputable def Ic (ta:TA):TI:=fun σ H R=>ta σ H fun vs H1=>∃ i j:Int,vs=[.int i,.int j]/\(-(2 ^ 62)<=i/\i < 2 ^ 62/\-(2 ^ 62)<=j/\j < 2 ^ 62)/\R (Itr i (j - i).toNat) H1
theorem uU {a:Ru}{ta:TA}{p pos:Pos} (hg:Gl X "range") (hm:X.mg "range"=none) (ha:PA X [a] ta) (hs:O4 [a] X.env=[(false,eval a X.env)]:=by rfl):PI X tg (.Call (.Name "range" p) [a] [] pos) (Ib ta):=by
 intro pins s σ H R I h
 refine Call_ (cV I hg hm boot_range (O5 (thn (ha pos pins s σ H _ I h) fun us s1 ⟨vs,H1,I1,r1,q1⟩=>?_) hs rfl))
 obtain ⟨j,e,q1,q2,q⟩:=q1
 subst e
 cases r1 with
 | cons r rr =>
  cases rr
  obtain ⟨t,rfl⟩:=r
  exact call_range_1 (pq I1 (by omega) (by omega) q1 q2 (by simpa using q))
theorem uV {a b:Ru}{ta:TA}{p pos:Pos} (hg:Gl X "range") (hm:X.mg "range"=none) (ha:PA X [a,b] ta) (hs:O4 [a,b] X.env=[(false,eval a X.env),(false,eval b X.env)]:=by rfl) (hs2:O4 [b] X.env=[(false,eval b X.env)]:=by rfl) :
 PI X tg (.Call (.Name "range" p) [a,b] [] pos) (Ic ta):=by
 intro pins s σ H R I h
 refine Call_ (cV I hg hm boot_range (O5 (thn (ha pos pins s σ H _ I h) fun us s1 ⟨vs,H1,I1,r1,q1⟩=>?_) (by rw[hs,hs2]) (by rw[hs2];rfl)))
 obtain ⟨i,j,e,⟨q1,q2,q3,q4⟩,q⟩:=q1
 subst e
 cases r1 with
 | cons r rr =>
  cases rr with
  | cons r' rr =>
   cases rr
   obtain ⟨t,rfl⟩:=r
   obtain ⟨t',rfl⟩:=r'
   exact call_range_2 (pq I1 q1 q2 q3 q4 q)
noncomputable def Ie (wi:TI) (g:TG) (tb:TS):TS:=fun D σ H=>wi σ H fun J H1=>∃ W:Nat->Nat->St->Hp->Prop,(∃ m,W 0 m σ H1)/\∀ i m σ H,W i m σ H →
 (J.stop i H/\D.nx σ H)\/(J.go i H/\∃ N:St->Hp->Prop,(∀ σ' H',N σ' H'->∃ m',m' < m/\W (i+1) m' σ' H')/\∀ x H',J.yld i H x H'->g x σ H' fun σ2 H2=>tb { D with nx:=N,ct:=N,bk:=D.nx } σ2 H2)
noncomputable def jD (fp:List Addr) (h:Heap):List (Addr×Obj):=fp.filterMap fun b=>(h.get? b).map fun o=>(b,o)
theorem fR {fp:List Addr}{h:Heap}{b:Addr}{o:Obj} (hb:b∈fp) (e:h.get? b=some o):(b,o)∈jD fp h:=List.mem_filterMap.mpr ⟨b,hb,by rw[e];rfl⟩
theorem uW {fp:List Addr}{h:Heap}{p:Addr×Obj} (hp:p∈jD fp h):p.1∈fp/\h.get? p.1=some p.2:=by
 obtain ⟨b,hb,e⟩:=List.mem_filterMap.mp hp
 cases q:h.get? b with
 | none=>rw[q] at e;cases e
 | some o =>
  rw[q] at e
  have e':(b,o)=p:=OP e
  subst e'
  exact ⟨hb,q⟩
theorem Inv.pinned {pins:List (Addr×Obj)}{σ:St}{H:Hp}{s:OB}{fp:List Addr} (I:Inv X pins σ H s) (hf:∀ b∈fp,lR X pins H b) (ho:∀ b∈fp,∃ o,s.heap.get? b=some o/\∀ v,o.data≠.cell v):Inv X (pins++jD fp s.heap) σ H s :=
 I.kj fun p hp=>(List.mem_append.mp hp).elim (fun z=>I.pin p (O7 _ z)) fun z=>by
  obtain ⟨hb,e⟩:=uW z
  obtain ⟨f0,f1,f2,_⟩:=hf p.1 hb
  obtain ⟨o,e',d⟩:=ho p.1 hb
  rw[e] at e';cases e'
  exact ⟨e,f0,f1,f2,d⟩
theorem Inv.iV {pins pl:List (Addr×Obj)}{σ:St}{H:Hp}{s:OB} (I:Inv X (pins++pl) σ H s):Inv X pins σ H s:=I.kj fun p hp=>I.pin p (O7 _ (Qa _ hp))
theorem Ex {iter:Ru}{body:List Uh}{wi:TI}{g:TG}{tb:TS}{pos:Pos} (hp:PassesOwn (OY X.prog X.w) X.A X.env X.xe) (hc:X.calm=true) (hi:PI X tg iter wi) (hg:PG X tg g) (hb:PSs X body tb)
 (hs:∀ x,foldedSetIterable iter X.env x=pure x:=by intro _;rfl):PS X (.For tg iter body [] pos) (Ie wi g tb):=by
 intro pins s σ H D I h
 refine wpAny_For (thn (hi pins s σ H _ I h) fun v s1 h1=>thn h1 fun itv s2 h2=>?_) hs
 obtain ⟨it,fp,tn,J,H2,e,I2,T,st2,f2,W,⟨m0,w0⟩,turn⟩:=h2
 subst e
 have stat:∀ {H':Hp},(∀ b∈fp,H' b=none)->∀ b∈fp,lR X pins H' b:=fun hn b hb=>⟨hn b hb,(f2 b hb).2⟩
 refine codeAny_forLoop_any (fun n s'=>∃ i σ' H',Inv X pins σ' H' s'/\tn i s'.heap/\(∀ b∈fp,H' b=none)/\W i n σ' H') ?_ m0 ⟨0,σ,H2,I2,st2,fun b hb=>(f2 b hb).1,w0⟩
 rintro n s3 ⟨i,σ3,H3,I3,st3,fr3,w3⟩
 rcases turn i n σ3 H3 w3 with ⟨stop,qn⟩ | ⟨go,N,hN,step⟩
 ·refine QW hp (thn (T.done X rfl rfl rfl hc i pins s3 σ3 H3 X.xe I3 (stat fr3) st3 stop) fun r s4 zq=>?_)
  obtain ⟨hr,I4⟩:=zq
  subst hr
  exact SN ⟨σ3,H3,I4,qn⟩
 ·refine QW hp (thn (T.item X rfl rfl rfl hc i pins s3 σ3 H3 X.xe I3 (stat fr3) st3 go) fun r s4 zq=>?_)
  obtain ⟨u,hr,h4⟩:=zq
  subst hr
  refine QW hp (thn h4 fun _ s5 zq=>?_)
  obtain ⟨x,H5,I5,r5,y5,st5,fr5⟩:=zq
  have I5':=I5.pinned (stat fr5) (T.obj _ _ st5)
  refine QW hp (thn (hg _ s5 σ3 H5 x u _ I5' r5 (step x H5 y5)) fun _ s6 zq=>?_)
  obtain ⟨σ6,H6,I6,q6⟩:=zq
  refine QW hp (thn (hb _ s6 σ6 H6 _ I6 q6) fun f s7 q7=>?_)
  have again:∀ {σ7:St}{H7:Hp},Inv X (pins++jD fp s5.heap) σ7 H7 s7->N σ7 H7->∃ m,m < n/\∃ i σ' H',Inv X pins σ' H' s7/\tn i s7.heap/\(∀ b∈fp,H' b=none)/\W i m σ' H':=fun {σ7 H7} I7 n7=>by
   obtain ⟨m',hm,w7⟩:=hN σ7 H7 n7
   refine ⟨m',hm,i+1,σ7,H7,I7.iV,T.keep _ _ _ st5 fun b hb o e=>(I7.pin (b,o) (O7 _ (O7 _ (fR hb e)))).1,fun b hb=>?_,w7⟩
   obtain ⟨o,e,d⟩:=T.obj _ _ st5 b hb
   exact (I7.pin (b,o) (O7 _ (O7 _ (fR hb e)))).2.1
  cases f with
  | next=>obtain ⟨σ7,H7,I7,n7⟩:=q7;exact again I7 n7
  | cont=>obtain ⟨σ7,H7,I7,n7⟩:=q7;exact again I7 n7
  | brk=>obtain ⟨σ7,H7,I7,q7⟩:=q7;exact ⟨σ7,H7,I7.iV,q7⟩
  | ret v=>obtain ⟨x7,σ7,H7,I7,r7,q7⟩:=q7;exact ⟨x7,σ7,H7,I7.iV,r7,q7⟩
end
end L2
namespace L2
open PySem PySem.Spec PyProof.Rows
noncomputable abbrev R2:=V->V->Hp->VK->Prop
noncomputable def OpR (X:Cx) (f:Oz->Oz->Sem Oz) (r:R2):Prop :=
 ∀ (pins:List (Addr×Obj)) (s:OB) (σ:St) (H:Hp) (x y:V) (v u:Oz) (Q:VK),Inv X pins σ H s->RelV x v->RelV y u->r x y H Q →
  wpAny (OY X.prog X.w) X.A (f v u) (EP X pins σ Q) X.xe s
noncomputable def UnR (X:Cx) (f:Oz->Sem Oz) (r:V->Hp->VK->Prop):Prop :=
 ∀ (pins:List (Addr×Obj)) (s:OB) (σ:St) (H:Hp) (x:V) (v:Oz) (Q:VK),Inv X pins σ H s->RelV x v->r x H Q →
  wpAny (OY X.prog X.w) X.A (f v) (EP X pins σ Q) X.xe s
noncomputable def cS (X:Cx) (f:Oz) (r:List V->Hp->VK->Prop):Prop :=
 ∀ (pins:List (Addr×Obj)) (s:OB) (σ:St) (H:Hp) (xs:List V) (us:List Oz) (Q:VK),Inv X pins σ H s->aq xs us->r xs H Q →
  wpAny (OY X.prog X.w) X.A (call f us) (EP X pins σ Q) X.xe s
noncomputable def tOp (r:R2) (ta tb:TE):TE:=fun σ H Q=>ta σ H fun x H1=>tb σ H1 fun y H2=>r x y H2 Q
noncomputable def tUn (r:V->Hp->VK->Prop) (ta:TE):TE:=fun σ H Q=>ta σ H fun x H1=>r x H1 Q
noncomputable def rI (C:Int->Int->Prop) (g:Int->Int->V):R2:=fun x y H Q=>∃ i j,x=.int i/\y=.int j/\C i j/\Q (g i j) H
noncomputable def rI0 (g:Int->Int->V):R2:=fun x y H Q=>∃ i j,x=.int i/\y=.int j/\Q (g i j) H
noncomputable def rU (g:Int->V):V->Hp->VK->Prop:=fun x H Q=>∃ i,x=.int i/\Q (g i) H
section
variable {X:Cx}{a b c:Ru}{ta tb tc:TE}{pos:Pos}
theorem Ey (ha:PE X a ta) (hb:PE X b tb) {pins:List (Addr×Obj)}{s:OB}{σ:St}{H:Hp}{R:V->V->Hp->Prop} (I:Inv X pins σ H s)
 (h:ta σ H fun x H1=>tb σ H1 fun y H2=>R x y H2) {Q:Oz->OB->Prop}{f:Oz->Oz->Sem Oz}
 (hf:∀ v u s2 x y H2,Inv X pins σ H2 s2->RelV x v->RelV y u->R x y H2->wpAny (OY X.prog X.w) X.A (f v u) Q X.xe s2) :
 wpAny (OY X.prog X.w) X.A (eval a X.env) (fun v s₁=>wpAny (OY X.prog X.w) X.A (eval b X.env) (fun u s₂=>wpAny (OY X.prog X.w) X.A (f v u) Q X.xe s₂) X.xe s₁) X.xe s:=by
 refine thn (ha pins s σ H _ I h) fun v s1 zq=>?_
 obtain ⟨x,H1,I1,r1,q1⟩:=zq
 refine thn (hb pins s1 σ H1 _ I1 q1) fun u s2 zq=>?_
 obtain ⟨y,H2,I2,r2,q2⟩:=zq
 exact hf v u s2 x y H2 I2 r1 r2 q2
theorem Ig {op:Ry}{r:R2} (ho:OpR X (Qi op) r) (ha:PE X a ta) (hb:PE X b tb):PE X (.BinOp a op b pos) (tOp r ta tb):=by
 intro pins s σ H Q I h
 exact wpAny_BinOp (Ey ha hb I h fun v u s2 x y H2 I2 rx ry q=>ho pins s2 σ H2 x y v u Q I2 rx ry q)
theorem DJ {op:UnaryOp}{r:V->Hp->VK->Prop} (ho:UnR X (unaryOp op) r) (ha:PE X a ta):PE X (.UnaryOp op a pos) (tUn r ta):=by
 intro pins s σ H Q I h
 exact UnaryOp_ (thn (ha pins s σ H _ I h) fun v s1 ⟨x,H1,I1,r1,q1⟩=>ho pins s1 σ H1 x v Q I1 r1 q1)
theorem opI {f:Oz->Oz->Sem Oz}{C:Int->Int->Prop}{g:Int->Int->Int}
 (rule:∀ (i j:Int) (t u:Tok) (s:OB) (Q:Oz->OB->Prop) (E:Oz->OB->Prop),C i j->Q (.int (g i j) s.toks) { s with toks:=s.toks+1 }->wpAny (OY X.prog X.w) X.A (f (.int i t) (.int j u)) Q E s) :
 OpR X f (rI C fun i j=>.int (g i j)):=by
 intro pins s σ H x y v u Q I rx ry h
 obtain ⟨i,j,rfl,rfl,hc,q⟩:=h
 obtain ⟨t,rfl⟩:=rx
 obtain ⟨t',rfl⟩:=ry
 exact rule i j t t' s _ _ hc ⟨.int (g i j),H,I.tok _,⟨_,rfl⟩,q⟩
theorem Ih {f:Oz->Oz->Sem Oz}{g:Int->Int->Int}
 (rule:∀ (i j:Int) (t u:Tok) (s:OB) (Q:Oz->OB->Prop) (E:Oz->OB->Prop),Q (.int (g i j) s.toks) { s with toks:=s.toks+1 }->wpAny (OY X.prog X.w) X.A (f (.int i t) (.int j u)) Q E s) :
 OpR X f (rI0 fun i j=>.int (g i j)):=by
 intro pins s σ H x y v u Q I rx ry h
 obtain ⟨i,j,rfl,rfl,q⟩:=h
 obtain ⟨t,rfl⟩:=rx
 obtain ⟨t',rfl⟩:=ry
 exact rule i j t t' s _ _ ⟨.int (g i j),H,I.tok _,⟨_,rfl⟩,q⟩
theorem AN {f:Oz->Oz->Sem Oz}{g:Int->Int->Bool}
 (rule:∀ (i j:Int) (t u:Tok) (s:OB) (Q:Oz->OB->Prop) (E:Oz->OB->Prop),Q (.bool (g i j)) s->wpAny (OY X.prog X.w) X.A (f (.int i t) (.int j u)) Q E s) :
 OpR X f (rI0 fun i j=>.bl (g i j)):=by
 intro pins s σ H x y v u Q I rx ry h
 obtain ⟨i,j,rfl,rfl,q⟩:=h
 obtain ⟨t,rfl⟩:=rx
 obtain ⟨t',rfl⟩:=ry
 exact rule i j t t' s _ _ ⟨.bl (g i j),H,I,rfl,q⟩
noncomputable def L7 (i j:Int):Prop:=0 < j/\j < 1073741824
noncomputable def L8 (i j:Int):Prop:=0<=j/\j<=1000000/\i.natAbs < 2 ^ 64
noncomputable def AO (i j:Int):Prop:=(-(2 ^ 64) < i/\i < 2 ^ 64)\/(-(2 ^ 64) < j/\j < 2 ^ 64)
theorem AO.ok {i j:Int} (h:AO i j):IntMulOk i j:=by
 rcases h with ⟨h1,h2⟩ | ⟨h1,h2⟩
 ·exact .of_left (intBits_le_64 h1 h2)
 ·exact .of_right (intBits_le_64 h1 h2)
theorem Ez:OpR X (Qi .Add) (rI0 fun i j=>.int (i+j)):=Ih fun _ _ _ _ _ _ _ q=>add_int q
theorem EA:OpR X (Qi .Sub) (rI0 fun i j=>.int (i - j)):=Ih fun _ _ _ _ _ _ _ q=>sub_int q
theorem EB:OpR X (Qi .Mult) (rI AO fun i j=>.int (i*j)):=opI fun _ _ _ _ _ _ _ hc q=>mul_int q hc.ok
theorem AQ:OpR X (Qi .FloorDiv) (rI L7 fun i j=>.int (i / j)):=opI fun i j _ _ _ _ _ hc q=>by
 have h1:(0:Int) < j:=hc.1
 have h2:j < 1073741824:=hc.2
 exact floordiv_int (by omega) (by rw[Int.fdiv_eq_ediv_of_nonneg i (by omega)];exact q) (.inl (PyProof.noPylong_small (by omega)))
theorem EC:OpR X (Qi .Mod) (rI (fun _ j=>0 < j) fun i j=>.int (i % j)):=opI fun i j _ _ _ _ _ hc q=>by
 have h1:(0:Int) < j:=hc
 exact mod_int' (by omega) (by rw[Int.fmod_eq_emod_of_nonneg i (by omega)];exact q)
theorem ED:OpR X (Qi .Pow) (rI L8 fun i j=>.int (i ^ j.toNat)):=opI fun _ _ _ _ _ _ _ hc q=>pow_int_small hc.1 hc.2.1 hc.2.2 q
theorem unI {f:Oz->Sem Oz}{g:Int->Int}
 (rule:∀ (i:Int) (t:Tok) (s:OB) (Q:Oz->OB->Prop) (E:Oz->OB->Prop),Q (.int (g i) s.toks) { s with toks:=s.toks+1 }->wpAny (OY X.prog X.w) X.A (f (.int i t)) Q E s) :
 UnR X f (rU fun i=>.int (g i)):=by
 intro pins s σ H x v Q I rx h
 obtain ⟨i,rfl,q⟩:=h
 obtain ⟨t,rfl⟩:=rx
 exact rule i t s _ _ ⟨.int (g i),H,I.tok _,⟨_,rfl⟩,q⟩
theorem wN:UnR X (unaryOp .USub) (rU fun i=>.int (-i)):=unI fun _ _ _ _ _ q=>neg_int q
end
section
variable {X:Cx}{a b c:Ru}{ta tb tc:TE}{pos:Pos}
theorem wO {pins:List (Addr×Obj)}{σ:St}{H:Hp}{s:OB}{Q:VK}{k k':Bool} (I:Inv X pins σ H s) (q:Q (.bl k) H) (e:k=k'):EP X pins σ Q (.bool k') s:=by
 subst e
 exact ⟨.bl k,H,I,rfl,q⟩
theorem Ii:OpR X (Pr .Lt) (rI0 fun i j=>.bl (decide (i < j))):=AN fun _ _ _ _ _ _ _ q=>lt_int q
theorem Ij:OpR X (Pr .LtE) (rI0 fun i j=>.bl (decide (i<=j))):=AN fun _ _ _ _ _ _ _ q=>le_int q
theorem Ik:OpR X (Pr .Gt) (rI0 fun i j=>.bl (decide (j < i))):=AN fun _ _ _ _ _ _ _ q=>gt_int q
theorem Il:OpR X (Pr .GtE) (rI0 fun i j=>.bl (decide (j<=i))):=AN fun _ _ _ _ _ _ _ q=>ge_int q
theorem EE:OpR X (Pr .Is) (fun x y H Q=>y=.non/\Q (.bl (decide (x=.non))) H):=by
 intro pins s σ H x y v u Q I rx ry h
 obtain ⟨rfl,q⟩:=h
 cases ry
 refine is_none_gen (wO I q ?_)
 cases x<;>first
  | (cases rx;rfl)
  | (obtain ⟨t,rfl⟩:=rx;rfl)
theorem AR:OpR X (Pr .IsNot) (fun x y H Q=>y=.non/\Q (.bl (!decide (x=.non))) H):=by
 intro pins s σ H x y v u Q I rx ry h
 obtain ⟨rfl,q⟩:=h
 cases ry
 refine isnot_none_gen (wO I q ?_)
 cases x<;>first
  | (cases rx;rfl)
  | (obtain ⟨t,rfl⟩:=rx;rfl)
theorem AS {op:CmpOp}{r:R2} (ho:OpR X (Pr op) r) (ha:PE X a ta) (hb:PE X b tb) (hm:TL op b=false):PE X (.Compare a [op] [b] pos) (tOp r ta tb):=by
 intro pins s σ H Q I h
 exact wpAny_Compare1 (Ey ha hb I h fun v u s2 x y H2 I2 rx ry q=>ho pins s2 σ H2 x y v u Q I2 rx ry q) hm
noncomputable def wQ (t:TE):TT:=fun σ H Q=>t σ H fun x H'=>∃ k,x=.bl k/\Q k H'
theorem AU {op:CmpOp}{r:R2} (ho:OpR X (Pr op) r) (ha:PE X a ta) (hb:PE X b tb) (hm:TL op b=false):PT X (.Compare a [op] [b] pos) (wQ (tOp r ta tb)):=by
 intro pins s σ H Q I h
 refine wpAny_isTrue_Compare1 (thn (ha pins s σ H _ I h) fun v s1 ⟨x,H1,I1,r1,q1⟩=>thn (hb pins s1 σ H1 _ I1 q1) fun u s2 ⟨y,H2,I2,r2,q2⟩ =>
  thn (ho pins s2 σ H2 x y v u _ I2 r1 r2 q2) fun c s3 ⟨z,H3,I3,r3,k,e,q3⟩=>?_) hm
 subst e
 cases r3
 exact P5 ⟨H3,I3,q3⟩
noncomputable def qM (r r':R2) (ta tb tc:TE):TE:=fun σ H Q=>ta σ H fun x H1=>tb σ H1 fun y H2=>r x y H2 fun z H3=>∃ k,z=.bl k ∧
 (if k=true then tc σ H3 fun w' H4=>r' y w' H4 Q else Q (.bl false) H3)
theorem wR {op op':CmpOp}{r r':R2} (ho:OpR X (Pr op) r) (ho':OpR X (Pr op') r') (ha:PE X a ta) (hb:PE X b tb) (hc:PE X c tc)
 (hm:lastMarks [op,op'] [b,c]=false:=by with_unfolding_all rfl):PE X (.Compare a [op,op'] [b,c] pos) (qM r r' ta tb tc):=by
 intro pins s σ H Q I h
 refine Compare_chain (thn (ha pins s σ H _ I h) fun v s1 ⟨x,H1,I1,r1,q1⟩=>chain_link (thn (hb pins s1 σ H1 _ I1 q1) fun u s2 ⟨y,H2,I2,r2,q2⟩ =>
  thn (ho pins s2 σ H2 x y v u _ I2 r1 r2 q2) fun d s3 ⟨z,H3,I3,r3,k,e,q3⟩=>?_)) hm
 subst e
 cases r3
 refine P5 ?_
 cases k with
 | false=>exact ite_ff ⟨.bl false,H3,I3,rfl,q3⟩
 | true=>exact ite_tt (chain_last (thn (hc pins s3 σ H3 _ I3 q3) fun w' s4 ⟨z',H4,I4,r4,q4⟩=>ho' pins s4 σ H4 y z' u w' Q I4 r2 r4 q4))
theorem wU {op op':CmpOp}{r r':R2} (ho:OpR X (Pr op) r) (ho':OpR X (Pr op') r') (ha:PE X a ta) (hb:PE X b tb) (hc:PE X c tc)
 (hm:lastMarks [op,op'] [b,c]=false:=by with_unfolding_all rfl):PT X (.Compare a [op,op'] [b,c] pos) (wQ (qM r r' ta tb tc)):=by
 intro pins s σ H Q I h
 refine isTrue_chain (thn (ha pins s σ H _ I h) fun v s1 ⟨x,H1,I1,r1,q1⟩=>test_link (thn (hb pins s1 σ H1 _ I1 q1) fun u s2 ⟨y,H2,I2,r2,q2⟩ =>
  thn (ho pins s2 σ H2 x y v u _ I2 r1 r2 q2) fun d s3 ⟨z,H3,I3,r3,k,e,q3⟩=>?_)) hm
 subst e
 cases r3
 refine P5 ?_
 cases k with
 | false =>
  obtain ⟨k',e',q'⟩:=q3
  cases e'
  exact ite_ff ⟨H3,I3,q'⟩
 | true =>
  refine ite_tt (test_last (thn (hc pins s3 σ H3 _ I3 q3) fun w' s4 ⟨z',H4,I4,r4,q4⟩=>thn (ho' pins s4 σ H4 y z' u w' _ I4 r2 r4 q4) fun d' s5 zq=>?_))
  obtain ⟨z2,H5,I5,r5,k2,e2,q5⟩:=zq
  subst e2
  cases r5
  exact P5 ⟨H5,I5,q5⟩
theorem jE:(sizeLine:Nat) < 2 ^ 63:=by rw[Uz];decide
theorem qN:OpR X (Qi .Add) (fun x y H Q=>∃ i j,x=.str i/\y=.str j/\i.length+j.length<=sizeLine/\Q (.str (i++j)) H):=by
 intro pins s σ H x y v u Q I rx ry h
 obtain ⟨i,j,rfl,rfl,hz,q⟩:=h
 obtain ⟨t,rfl⟩:=rx
 obtain ⟨t',rfl⟩:=ry
 exact add_str (fun t' tk=>⟨.str (i++j),H,I.tok _,⟨_,rfl⟩,q⟩) hz
theorem vals1 {x:V}{us:List Oz} (r:aq [x] us):∃ u,us=[u]/\RelV x u:=by
 cases r with
 | cons r1 r2=>cases r2;exact ⟨_,rfl,r1⟩
theorem vals2 {x y:V}{us:List Oz} (r:aq [x,y] us):∃ u w',us=[u,w']/\RelV x u/\RelV y w':=by
 cases r with
 | cons r1 r2 =>
  cases r2 with
  | cons r3 r4=>cases r4;exact ⟨_,_,rfl,r1,r3⟩
theorem wV:cS X (.builtin "abs") (fun xs H Q=>∃ i,xs=[.int i]/\Q (.int (if i < 0 then -i else i)) H):=by
 intro pins s σ H xs us Q I r h
 obtain ⟨i,rfl,q⟩:=h
 obtain ⟨u,rfl,t,rfl⟩:=vals1 r
 exact call_abs_int fun u tk=>⟨.int (if i < 0 then -i else i),H,I.tok _,⟨_,rfl⟩,q⟩
theorem uX (hc:X.calm=true):cS X (.builtin "max") (fun xs H Q=>∃ i j,xs=[.int i,.int j]/\Q (.int (if j > i then j else i)) H):=by
 intro pins s σ H xs us Q I r h
 obtain ⟨i,j,rfl,q⟩:=h
 obtain ⟨u,w',rfl,⟨t,rfl⟩,⟨t',rfl⟩⟩:=vals2 r
 refine max_two_ints (I.ok.hd hc) fun h' tk k=>⟨_,H,I.kept k,?_,q⟩
 by_cases hj:j > i
 ·rw[if_pos hj,if_pos hj];exact ⟨_,rfl⟩
 ·rw[if_neg hj,if_neg hj];exact ⟨_,rfl⟩
theorem uY (hc:X.calm=true):cS X (.builtin "min") (fun xs H Q=>∃ i j,xs=[.int i,.int j]/\Q (.int (if j < i then j else i)) H):=by
 intro pins s σ H xs us Q I r h
 obtain ⟨i,j,rfl,q⟩:=h
 obtain ⟨u,w',rfl,⟨t,rfl⟩,⟨t',rfl⟩⟩:=vals2 r
 refine min_two_ints (I.ok.hd hc) fun h' tk k=>⟨_,H,I.kept k,?_,q⟩
 by_cases hj:j < i
 ·rw[if_pos hj,if_pos hj];exact ⟨_,rfl⟩
 ·rw[if_neg hj,if_neg hj];exact ⟨_,rfl⟩
theorem mP:cS X (.type "int") (fun xs H Q=>(∃ i,xs=[.int i]/\Q (.int i) H)\/∃ k,xs=[.bl k]/\Q (.int (if k then 1 else 0)) H):=by
 intro pins s σ H xs us Q I r h
 rcases h with ⟨i,rfl,q⟩ | ⟨k,rfl,q⟩
 ·obtain ⟨u,rfl,t,rfl⟩:=vals1 r
  exact call_int_int ⟨.int i,H,I,⟨_,rfl⟩,q⟩
 ·obtain ⟨u,rfl,r1⟩:=vals1 r
  cases r1
  exact call_int_bool ⟨.int (if k then 1 else 0),H,I.tok _,⟨_,rfl⟩,q⟩
end
end L2
namespace L2
open PySem PySem.Spec PyProof.Rows
structure qO (h:Heap) (x dx C:Addr) (mA:Str->Option Oz):Prop where
 obj:h.get? x=some (Qs C dx)
 ns:h.Ns1 dx mA
 ne:dx≠x
theorem uZ {h:Heap}{dx:Addr}{mA:Str->Option Oz} (n:h.Ns1 dx mA):∃ od,h.get? dx=some od/\∀ name,Sq name od=some (mA name):=by
 obtain ⟨o,es,ep,ho,hd,hk,_,hm⟩:=n
 refine ⟨o,ho,fun name=>?_⟩
 have e:=hm name
 unfold nsFind findBy at e
 rw[← Array.find?_toList] at e
 unfold Sq
 rw[hd]
 dsimp only
 split
 ·rename_i y q
  rw[q] at e
  exact congrArg some e
 ·rename_i q
  rw[q] at e
  have a:es.toList.any (·.refKey)=false:=by
   rw[List.any_eq_false]
   intro y hy
   obtain ⟨z,t,hkey⟩:=hk y (Array.mem_toList_iff.mp hy)
   simp[DictEntry.refKey,hkey]
  have a':¬ es.toList.any (·.refKey)=true:=by rw[a];exact Pe
  rw[if_neg a']
  exact congrArg some e
theorem qO.look {h:Heap}{x dx C:Addr}{mA:Str->Option Oz} (I:qO h x dx C mA):∃ od,PySem.W.InstAt h x (Qs C dx) C (some od)/\∀ name,Sq name od=some (mA name) :=
 let ⟨od,ho,hl⟩:=uZ I.ns
 ⟨od,⟨I.obj,rfl,rfl,ho⟩,hl⟩
section
variable {prog:OO}{w:O6}{A:PL}{E:Oz->OB->Prop}{s:OB}{K:Ow}{x dx C f:Addr}{mA:Str->Option Oz}{name:Str}{v:Oz}
theorem get_map {expr:Bool}{Q:Oz->OB->Prop} (X:K.In s.heap) (I:qO s.heap x dx C mA) (hg:Rk K C name=true) (hh:RK K C=true)
 (ha:Px K (.ref C) name=some none) (hv:mA name=some v) (hv':U0 v=true) (h:Q v { s with toks:=s.toks+1 }) :
 wpAny (OY prog w) A (getAttr (.ref x) name expr) Q E s:=by
 obtain ⟨od,J,hl⟩:=I.look
 exact PySem.W.get_value X J (Sx hg).1 (PySem.W.findObj_own hh ha rfl (by rw[hl,hv])) hv' h
theorem wW {pl:Sem Bool}{Q:Oz×List Oz->OB->Prop} (X:K.In s.heap) (I:qO s.heap x dx C mA) (hg:Rk K C name=true)
 (hf:Px K (.ref C) name=some (some (.ref f))) (ht:S7 K (.ref f)=true) (hv:mA name=none) (h:Q (.ref f,[.ref x]) s) :
 wpAny (OY prog w) A (TJ (.ref x) name pl) Q E s:=by
 obtain ⟨od,J,hl⟩:=I.look
 exact PySem.W.method_fn X J (Sx hg).1 (Sx hg).2 hf (beq_iff_eq.mp ht) (by show (Sq name od).map (·.isSome)=some false;rw[hl,hv];rfl) h
theorem AV {ns:List Str}{Q:Unit->OB->Prop} (X:K.In s.heap) (I:qO s.heap x dx C mA)
 (hs:Px K (.ref C) "__setattr__"=some (some (.builtin "object.__setattr__"))) (hp:SW K C=true) (ht:Tn K C name=some none) (hh:RK K C=true)
 (hw:UE mA ns) (hsz:ns.length<=sizeLine)
 (h:∀ h',qO h' x dx C (fun y=>if y=name then some v else mA y)->PJ dx s.heap h'->Q () { s with heap:=h',toks:=s.toks+2 }) :
 wpAny (OY prog w) A (setAttr (.ref x) name v) Q E s:=by
 obtain ⟨od,J,hl⟩:=I.look
 refine PySem.W.set_plain X J hs (PySem.W.osa_open (s:={ s with toks:=s.toks+1 }) (r:=none) X J hp ht fun b=>?_)
 obtain ⟨cd,hc,hd'⟩:=PySem.W.any_some hh
 have hx:s.heap.get? x=some ⟨.ref C,some dx,.plain,#[]⟩:=I.obj
 refine wpAny_bind (wpAny_pure (wpAny_bind (wpAny_bind (wpAny_loadPart hx (wpAny_bind (PySem.W.Looks.here (s:={ s with toks:=s.toks+1 }) (PySem.W.looks_clsIn X hc) ?_))))))
 rw[hd']
 refine wpAny_pure (a:=some dx) (wpAny_bind (wpAny_pure (wpAny_bind ?_)))
 refine wpAny_nsSet1 (s:={ s with toks:=s.toks+1 }) I.ns fun h' hn2 hs2=>?_
 obtain ⟨oD,esD,epD,hoD,hdD,hcD⟩:=hn2.count (PySem.Within.cons name v hw)
 refine wpAny_bind (wpAny_lookBehind hoD (by rw[hdD];exact pastItsLine_dict (Ph hcD (by rw[OZ];omega))) ?_)
 exact wpAny_pure (h _ ⟨(hs2.2 _ (PD I.ne)).trans I.obj,hn2,I.ne⟩ hs2)
theorem wX {R:UD->OB->Prop}{vs:List Oz}{kw:List (Str×Oz)} (X:K.In s.heap) (hm:To K C=true)
 (hi:Px K (.ref C) "__init__"=some (some (.ref f))) (hf:PySem.W.typeIn K (.ref f)=some (.type "function"))
 (h:codeAny (OY prog w) (A.under (.builtin "type.__call__" ⟨.ref C :: vs,kw⟩)) (.call (.ref f) ⟨.ref (s.heap.objs.size+1) :: vs,kw⟩) (PySem.W.InitBack (s.heap.objs.size+1) R)
  { s with heap:=(s.heap.push PV).push (Qs C s.heap.objs.size) }) :
 codeAny (OY prog w) A (.call (.ref C) ⟨vs,kw⟩) R s:=by
 obtain ⟨hh,g,d,t,os⟩:=s
 exact PySem.W.make_core (PySem.W.makes_of X hm) (PySem.W.looks_findIn X hi) (fun self=>PySem.W.bind_fn X self hf) (.inl rfl) h
end
noncomputable def bz (f:Str) (v:V):List (Str×V)->List (Str×V)
 | []=>[(f,v)]
 | (g,x) :: r=>if g=f then (g,v) :: r else (g,x) :: bz f v r
theorem jU (f g:Str) (v:V):∀ fs:List (Str×V),(bz f v fs).lookup g=if g=f then some v else fs.lookup g
 | []=>by
  show QZ g [(f,v)]=_
  by_cases h:g=f
  ·have hb:(g==f)=true:=beq_iff_eq.mpr h
   simp only[QZ,hb,if_pos h]
  ·have hb:(g==f)=false:=beq_eq_false_iff_ne.mpr h
   simp only[QZ,hb,if_neg h]
 | (k,x) :: r=>by
  have ih:=jU f g v r
  rw[show bz f v ((k,x) :: r)=(if k=f then (k,v) :: r else (k,x) :: bz f v r) from rfl]
  by_cases hk:k=f
  ·rw[if_pos hk]
   by_cases h:g=k
   ·have hb:(g==k)=true:=beq_iff_eq.mpr h
    simp only[QZ,hb,if_pos (h.trans hk)]
   ·have hb:(g==k)=false:=beq_eq_false_iff_ne.mpr h
    simp only[QZ,hb,if_neg (fun e:g=f=>h (e.trans hk.symm))]
  ·rw[if_neg hk]
   by_cases h:g=k
   ·have hb:(g==k)=true:=beq_iff_eq.mpr h
    simp only[QZ,hb,if_neg (fun e:g=f=>hk (h.symm.trans e))]
   ·have hb:(g==k)=false:=beq_eq_false_iff_ne.mpr h
    simp only[QZ,hb]
    exact ih
theorem jF (f:Str) (v:V):∀ fs:List (Str×V),f∈(bz f v fs).map (·.1)/\∀ g,g∈fs.map (·.1)->g∈(bz f v fs).map (·.1)
 | []=>⟨by simp[bz],fun g h=>by simp at h⟩
 | (k,x) :: r=>by
  obtain ⟨i1,i2⟩:=jF f v r
  rw[show bz f v ((k,x) :: r)=(if k=f then (k,v) :: r else (k,x) :: bz f v r) from rfl]
  by_cases hk:k=f
  ·rw[if_pos hk]
   subst hk
   exact ⟨by simp,fun g h=>by simpa using h⟩
  ·rw[if_neg hk]
   refine ⟨?_,fun g h=>?_⟩
   ·rw[O0]
    exact OL _ i1
   ·rw[O0] at h ⊢
    rcases List.mem_cons.mp h with e | e
    ·exact List.mem_cons.mpr (.inl e)
    ·exact OL _ (i2 g e)
theorem jV (f:Str) (v:V):∀ fs:List (Str×V),(bz f v fs).length<=fs.length+1
 | []=>by simp[bz]
 | (k,x) :: r=>by
  have ih:=jV f v r
  rw[show bz f v ((k,x) :: r)=(if k=f then (k,v) :: r else (k,x) :: bz f v r) from rfl]
  by_cases hk:k=f
  ·rw[if_pos hk,OZ,OZ];omega
  ·rw[if_neg hk,OZ,OZ];omega
theorem lP.some_of {v:V}{o:Option Oz} (r:lP (some v) o):∃ u,o=some u/\RelV v u:=by
 cases o with
 | none=>exact (show False from r).elim
 | some u=>exact ⟨u,rfl,r⟩
theorem lP.none_of {o:Option Oz} (r:lP none o):o=none:=by
 cases o with
 | none=>rfl
 | some u=>exact (show False from r).elim
theorem u0 {v:V}{u:Oz} (r:RelV v u):U0 u=true:=by
 cases v with
 | non=>cases (show u=Rx from r);rfl
 | bl b=>cases (show u=Vg b from r);rfl
 | int i=>obtain ⟨t,e⟩:=(show ∃ t,u=RE i t from r);cases e;rfl
 | str x=>obtain ⟨t,e⟩:=(show ∃ t,u=UC x t from r);cases e;rfl
 | byt b=>obtain ⟨t,e⟩:=(show ∃ t,u=Value.bytes b t from r);cases e;rfl
 | flt b=>obtain ⟨t,e⟩:=(show ∃ t,u=Value.float b t from r);cases e;rfl
 | ref a=>cases (show u=Pu a from r);rfl
 | ty n=>cases (show u=RT n from r);rfl
section
variable {P:OO}{w:O6}{H H':Hp}{h h':Heap}{a C dx:Addr}{fs fs':List (Str×V)}
theorem iW (hok:HOk P w H h) (e:H a=some (.ins C dx fs)):∃ mA,qO h a dx C mA/\(∀ f,lP (fs.lookup f) (mA f))/\UE mA (fs.map (·.1))/\fs.length<=1000/\H dx=some (.own a):=by
 obtain ⟨d,z,ne,ob,mA,n,r,q⟩:=(show cC P w H h a (.ins C dx fs) from hok a _ e)
 exact ⟨mA,⟨ob,n,ne⟩,r,q,z,d⟩
end
structure Cls (K:Ow) (C:Addr):Prop where
 pg:Rk K C Str.empty=true
 hd:RK K C=true
 po:SW K C=true
 sa:Px K (.ref C) "__setattr__"=some (some (.builtin "object.__setattr__"))
theorem Cls.get {K:Ow}{C:Addr} (c:Cls K C) (f:Str):Rk K C f=true:=c.pg
noncomputable def gc (K:Ow) (C:Addr) (f:Str):Prop:=Px K (.ref C) f=some none
theorem gc.Im {K:Ow}{C:Addr}{f:Str} (n:gc K C f):Tn K C f=some none:=by
 unfold Tn
 rw[show Px K (.ref C) f=some none from n]
 rfl
structure u5 (K:Ow) (C:Addr) (m:Str) (f:Addr):Prop where
 at_:Px K (.ref C) m=some (some (.ref f))
 fn:S7 K (.ref f)=true
 kp:PZ K (.ref f)=true
section
variable {X:Cx}{pins:List (Addr×Obj)}{σ:St}{H:Hp}{s:OB}{a C dx:Addr}{fs:List (Str×V)}{f:Str}{v:V}{A:PL}{E:Oz->OB->Prop}
theorem kI {b:Bool}{Q:Oz->OB->Prop} (I:Inv X pins σ H s) (e:H a=some (.ins C dx fs)) (c:Cls X.K C) (n:gc X.K C f) (l:fs.lookup f=some v)
 (h:∀ u s',Inv X pins σ H s'->RelV v u->Q u s'):wpAny (OY X.prog X.w) A (getAttr (.ref a) f b) Q E s:=by
 obtain ⟨mA,O,r,_,_,_⟩:=iW I.hok e
 obtain ⟨u,hu,ru⟩:=lP.some_of (v:=v) (o:=mA f) (by rw[← l];exact r f)
 exact get_map I.kIn O (c.get f) c.hd n hu (u0 ru) (h u _ (I.tok _) ru)
theorem fS {m:Str}{g:Addr}{pl:Sem Bool}{Q:Oz×List Oz->OB->Prop} (I:Inv X pins σ H s) (e:H a=some (.ins C dx fs)) (c:Cls X.K C) (k:u5 X.K C m g) (l:fs.lookup m=none)
 (h:Q (.ref g,[.ref a]) s):wpAny (OY X.prog X.w) A (TJ (.ref a) m pl) Q E s:=by
 obtain ⟨mA,O,r,_,_,_⟩:=iW I.hok e
 have hn:mA m=none:=lP.none_of (by rw[← l];exact r m)
 exact wW I.kIn O (c.get m) k.at_ k.fn hn h
theorem kJ {y:V}{u:Oz}{Q:Unit->OB->Prop} (I:Inv X pins σ H s) (e:H a=some (.ins C dx fs)) (c:Cls X.K C) (n:gc X.K C f) (hl:fs.length < 1000) (ry:RelV y u)
 (h:∀ s',Inv X pins σ (upd H a (.ins C dx (bz f y fs))) s'->Q () s'):wpAny (OY X.prog X.w) A (setAttr (.ref a) f u) Q E s:=by
 obtain ⟨mA,O,r,wi,_,ho⟩:=iW I.hok e
 have hz:(fs.map (·.1)).length<=sizeLine:=by rw[OQ,Uz];omega
 refine AV I.kIn O c.sa c.po n.Im c.hd wi hz fun h' O' sb=>h _ ?_
 have hd:∃ o,h'.get? dx=some o:=let ⟨o,_,_,e',_⟩:=O'.ns;⟨o,e'⟩
 refine I.write (x:=a) (e:=dx) (by rw[e];exact RY) (.inr ho) (fun b q hb z=>(sb.2 b hb).trans z) hd ?_
 refine ⟨by rw[au O.ne];exact ho,?_,O.ne,O'.obj,_,O'.ns,fun g=>?_,fun g hg=>?_⟩
 ·have:=jV f y fs;omega
 ·show lP ((bz f y fs).lookup g) (if g=f then some u else mA g)
  rw[jU]
  by_cases q:g=f
  ·rw[if_pos q,if_pos q];exact ry
  ·rw[if_neg q,if_neg q];exact r g
 ·by_cases q:g=f
  ·rw[q];exact (jF f y fs).1
  ·refine (jF f y fs).2 g (wi g fun z=>hg ?_)
   show (if g=f then some u else mA g)=none
   rw[if_neg q];exact z
theorem Inv.made (I:Inv X pins σ H s):Inv X pins σ (upd (upd H s.heap.objs.size (.own (s.heap.objs.size+1))) (s.heap.objs.size+1) (.ins C s.heap.objs.size []))
 { s with heap:=(s.heap.push PV).push (Qs C s.heap.objs.size) }:=by
 have e1:(s.heap.push PV).get? s.heap.objs.size=some PV:=OI s.heap rfl
 have e2:((s.heap.push PV).push (Qs C s.heap.objs.size)).get? (s.heap.objs.size+1)=some (Qs C s.heap.objs.size):=by
  have:=OI (s.heap.push PV) (o:=Qs C s.heap.objs.size) rfl
  rwa [PM] at this
 have e3:(s.heap.push PV).Ns s.heap.objs.size (fun _=>none):=⟨PV,#[],_,e1,rfl,(fun e he=>absurd he (by simp)),fun _=>rfl⟩
 have I1:=I.laid (a:=s.heap.objs.size) (o:=.own (s.heap.objs.size+1)) (h':=s.heap.push PV) (t':=s.toks) (fun b u q=>OA _ q) (OE _) ⟨_,e1⟩
 refine I1.laid (a:=s.heap.objs.size+1) (o:=.ins C s.heap.objs.size []) (t':=s.toks) (fun b u q=>OA _ q) (Nat.le_of_eq (PM _ _)) ?_
 have ne:s.heap.objs.size≠s.heap.objs.size+1:=O3 (P8 _)
 refine ⟨by rw[au ne,aB],Pq _,ne,e2,fun _=>none,(Heap.Ns1.of_empty e3).at fun o q=>OA _ q,fun _=>RY,fun y hy=>absurd rfl hy⟩
theorem AW {prog:OO}{w:O6}{env:Env}{e:Ru}{f:Str}{pos:Pos}{s:OB}{Q:Oz->OB->Prop} (hb:Sw e f env (eval e env)=eval e env)
 (h:wpAny (OY prog w) A (eval e env) (fun o s₁=>wpAny (OY prog w) A (getAttr o f true) Q E s₁) E s):wpAny (OY prog w) A (eval (.Attribute e f pos) env) Q E s :=
 Attribute_any_ h (by rw[arm_eval_Attribute,hb])
end
noncomputable def Ma (K:Ow) (ta:TE) (f:Str):TE:=fun σ H Q=>ta σ H fun x H1=>∃ a C dx fs v,x=.ref a/\H1 a=some (.ins C dx fs)/\Cls K C/\gc K C f/\fs.lookup f=some v/\Q v H1
noncomputable def Io (K:Ow) (ta tv:TE) (f:Str):TS:=fun D σ H=>tv σ H fun y H1=>ta σ H1 fun x H2=>∃ a C dx fs,x=.ref a/\H2 a=some (.ins C dx fs)/\Cls K C/\gc K C f/\fs.length < 1000 ∧
 D.nx σ (upd H2 a (.ins C dx (bz f y fs)))
noncomputable def Mb (X:Cx) (op:Ry) (rd:V->V->Hp->VK->Prop):Prop :=
 ∀ (pins:List (Addr×Obj)) (s:OB) (σ:St) (H:Hp) (x y:V) (u v:Oz) (Q:VK),Inv X pins σ H s->RelV x u->RelV y v->rd x y H Q->wpAny (OY X.prog X.w) X.A (inplaceOp op u v) (EP X pins σ Q) X.xe s
noncomputable def r9 (K:Ow) (ta tv:TE) (rd:V->V->Hp->VK->Prop) (f:Str):TS:=fun D σ H=>ta σ H fun x H1=>∃ a C dx fs v,x=.ref a/\H1 a=some (.ins C dx fs)/\Cls K C/\gc K C f/\fs.lookup f=some v ∧
 tv σ H1 fun y H2=>rd v y H2 fun z H3=>∃ dx' fs',H3 a=some (.ins C dx' fs')/\fs'.length < 1000/\D.nx σ (upd H3 a (.ins C dx' (bz f z fs')))
section
variable {X:Cx}{o e value:Ru}{f:Str}{pos pos' tpos:Pos}{ta tv:TE}
theorem EF (he:PE X e ta) (hb:Sw e f X.env (eval e X.env)=eval e X.env):PE X (.Attribute e f pos) (Ma X.K ta f):=by
 intro pins s σ H Q I h
 refine AW hb (thn (he pins s σ H _ I h) fun u s1 zq=>?_)
 obtain ⟨x,H1,I1,rx,a,C,dx,fs,v,ex,ea,c,n,l,q⟩:=zq
 subst ex
 obtain rfl:u=Pu a:=rx
 exact kI I1 ea c n l fun u' s2 I2 ru=>⟨v,H1,I2,ru,q⟩
theorem EG (ha:PE X o ta) (hv:PE X value tv) (hs:RN value (some (.Attribute o f pos')) pos.line X.env=pure false):PS X (.Assign [.Attribute o f pos'] value pos) (Io X.K ta tv f):=by
 intro pins s σ H D I h
 refine plainObj_wpAny_Assign_Attribute (thn (hv pins s σ H _ I h) fun u s1 ⟨y,H1,I1,ry,q⟩=>thn (ha pins s1 σ H1 _ I1 q) fun ov s2 ⟨x,H2,I2,rx,a,C,dx,fs,ex,ea,c,n,l,q2⟩=>?_) hs
 subst ex
 obtain rfl:ov=Pu a:=rx
 exact kJ I2 ea c n l ry fun s3 I3=>⟨σ,_,I3,q2⟩
theorem u6 {op:Ry}{rd:V->V->Hp->VK->Prop} (ha:PE X o ta) (hv:PE X value tv) (hop:Mb X op rd):PS X (.AugAssign (.Attribute o f tpos) op value pos) (r9 X.K ta tv rd f):=by
 intro pins s σ H D I h
 refine wpAny_AugAssign_AttributeAny (thn (ha pins s σ H _ I h) fun ov s1 zq=>?_)
 obtain ⟨x,H1,I1,rx,a,C,dx,fs,v,ex,ea,c,n,l,q⟩:=zq
 subst ex
 obtain rfl:ov=Pu a:=rx
 refine kI I1 ea c n l fun u s2 I2 ru=>thn (hv pins s2 σ H1 _ I2 q) fun w3 s3 ⟨y,H2,I3,ry,q3⟩=>thn (hop pins s3 σ H2 v y u w3 _ I3 ru ry q3) fun w4 s4 zq=>?_
 obtain ⟨z,H3,I4,rz,dx',fs',ea',l',q4⟩:=zq
 exact kJ I4 ea' c n l' rz fun s5 I5=>⟨σ,_,I5,q4⟩
theorem DK {pl:Sem Bool}{m:Str}{apos:Pos}{args:List Ru}{pins:List (Addr×Obj)}{s:OB}{σ:St}{H:Hp}{Q:Oz->OB->Prop}{te:TE} (he:PE X e te) (I:Inv X pins σ H s)
 (h:te σ H fun x H1=>∃ a C dx fs g,x=.ref a/\H1 a=some (.ins C dx fs)/\Cls X.K C/\u5 X.K C m g/\fs.lookup m=none ∧
  ∀ s1,Inv X pins σ H1 s1->wpAny (OY X.prog X.w) X.A (callWith pos (.ref g) [.ref a] (QE pos (O4 args X.env)) (SZ pos (Rq [] X.env))) Q X.xe s1)
 (ht:eval (.Call (.Attribute e m apos) args [] pos) X.env=(do
  let ov ← eval e X.env
  standAt apos.atName
  let (f,first) ← holding [ov] (TJ ov m pl)
  callWith pos f first (QE pos (O4 args X.env)) (SZ pos (Rq [] X.env)))) :
 wpAny (OY X.prog X.w) X.A (eval (.Call (.Attribute e m apos) args [] pos) X.env) Q X.xe s:=by
 refine Rf (pl:=pl) (thn (he pins s σ H _ I h) fun u s1 ⟨x,H1,I1,rx,a,C,dx,fs,g,ex,ea,c,k,l,q⟩=>?_) ht
 subst ex
 obtain rfl:u=Pu a:=rx
 exact fS I1 ea c k l (q s1 I1)
end
section
variable {X:Cx}{pins:List (Addr×Obj)}{σ:St}{H:Hp}{s:OB}{A:PL}{E:Oz->OB->Prop}{Q:Oz->OB->Prop}{c:Oz}{b:Bool}
end
end L2
namespace L2
open PySem PySem.Spec PyProof.Rows
structure bU (k:Nat) (A:PL):Prop where
 hd:A.handled=none
 dp:A.depth+3*k+5 < recursionLimit
 un:A.units+16*k+200 < cLine
theorem bU.mono {j k:Nat}{A:PL} (r:bU k A) (h:j<=k):bU j A:=⟨r.hd,by have:=r.dp;omega,by have:=r.un;omega⟩
theorem bU.deeper {k:Nat}{A:PL} (r:bU (k+1) A) (env:Env):bU k (A.deeper env) :=
 ⟨r.hd,by have:=r.dp;show A.depth+1+3*k+5 < _;omega,by have:=r.un;show A.units+3+16*k+200 < _;omega⟩
theorem qP {A:PL}{C:Addr}{us:List Oz}{kw:List (Str×Oz)}:(A.under (.builtin "type.__call__" ⟨.ref C :: us,kw⟩)).depth=A.depth+1:=by
 first | rfl | simp[Ux,Code.weight,Code.isCreation,Code.isGuard,Code.isCaller,Code.frames,UO,guardIds]
theorem qQ {A:PL}{C:Addr}{us:List Oz}{kw:List (Str×Oz)}:(A.under (.builtin "type.__call__" ⟨.ref C :: us,kw⟩)).units=A.units+1:=by
 first | rfl | simp[Ux,Code.cUnits,Code.frames,UO]
theorem bU.make {k:Nat}{A:PL} (r:bU (k+1) A) (C:Addr) (us:List Oz) (kw:List (Str×Oz)):bU k (A.under (.builtin "type.__call__" ⟨.ref C :: us,kw⟩)) :=
 ⟨r.hd,by have:=r.dp;rw[qP];omega,by have:=r.un;rw[qQ];omega⟩
theorem bU.depth {k:Nat}{A:PL} (r:bU k A):A.depth < recursionLimit:=by have:=r.dp;omega
noncomputable def wY:TA:=fun _ H Q=>Q [] H
noncomputable def DL (ta:TE) (tr:TA):TA:=fun σ H Q=>ta σ H fun x H1=>tr σ H1 fun xs H2=>Q (x :: xs) H2
section
variable {X:Cx}{e:Ru}{es:List Ru}{te:TE}{t:TA}{pos:Pos}
theorem ny:PA X [] wY:=fun _ _ _ _ H Q I h=>Qw ⟨[],H,I,.nil,h⟩
theorem gP (ha:PE X e te) (hr:PA X es t) (hs:O4 (e :: es) X.env=(false,eval e X.env) :: O4 es X.env:=by rfl):PA X (e :: es) (DL te t):=by
 intro pos pins s σ H Q I h
 rw[hs]
 show wpAny _ _ (SQ ((false,eval e X.env) :: QE pos (O4 es X.env))) _ _ s
 refine P6 (thn (ha pins s σ H _ I h) fun u s1 zq=>?_)
 obtain ⟨x,H1,I1,r1,q1⟩:=zq
 exact thn (hr pos pins s1 σ H1 _ I1 q1) fun us s2 ⟨xs,H2,I2,r2,q2⟩=>⟨x :: xs,H2,I2,.cons r1 r2,q2⟩
noncomputable def Ip (t:TA):TE:=fun σ H Q=>t σ H fun xs H1=>xs.length<=sizeLine/\∀ p,H1 p=none->Q (.ref p) (upd H1 p (.tup xs))
noncomputable def Iq (t:TA):TE:=fun σ H Q=>t σ H fun xs H1=>xs.length<=sizeLine/\∀ p,H1 p=none->Q (.ref p) (upd H1 p (.lst xs))
theorem EI {x1} (h:PA X es t):PE X (.Tuple es x1 pos) (Ip t):=by
 intro pins s σ H Q I hq
 refine wpAny_Tuple_spliced (thn (h pos pins s σ H _ I hq) fun us s1 ⟨xs,H1,I1,r,z,q⟩=>⟨by rw[← r.length];exact z,?_⟩)
 have hf:H1 s1.heap.objs.size=none:=I1.hok.fresh (OE _)
 refine ⟨.ref s1.heap.objs.size,upd H1 s1.heap.objs.size (.tup xs),I1.laid (t':=s1.toks) (fun b u e=>OA _ e) (OE _) ?_,rfl,q _ hf⟩
 exact ⟨z,us,r,⟨_,OI _ rfl,rfl,_,rfl⟩⟩
theorem EJ (h:PA X es t):PE X (.List es pos) (Iq t):=by
 intro pins s σ H Q I hq
 refine wpAny_List_spliced (thn (h pos pins s σ H _ I hq) fun us s1 ⟨xs,H1,I1,r,z,q⟩=>⟨by rw[← r.length];exact z,?_⟩)
 have hf:H1 s1.heap.objs.size=none:=I1.hok.fresh (OE _)
 refine ⟨.ref s1.heap.objs.size,upd H1 s1.heap.objs.size (.lst xs),I1.laid (t':=s1.toks) (fun b u e=>OA _ e) (OE _) ?_,rfl,q _ hf⟩
 exact ⟨z,us,0,r,OI _ rfl⟩
end
noncomputable abbrev Sp:=List V->Hp->VK->XK->Prop
noncomputable abbrev CXT:=List Env->Hp->OB->XK->Oz->OB->Prop
structure lT (P:OO) (w:O6) (K:Ow) (mg:Str->Option Oz) (base:Heap) (A:PL) (outer:List Env) (s:OB) (H:Hp):Prop where
 frames:A.frames=some outer
 mod:Mod K mg base
 bs:∀ b o,base.get? b=some o->s.heap.get? b=some o/\H b=none
 bsz:base.objs.size<=s.heap.objs.size
 iC:s.heap.FunFrames base outer
 frf:∀ b∈frs outer,H b=none
 hok:HOk P w H s.heap
 bare:Ug s.gens
noncomputable def CE (outer:List Env) (P:OO) (w:O6) (H:Hp) (s:OB) (Q:VK) (u:Oz) (s':OB):Prop :=
 ∃ v H',s'.os=s.os/\Ug s'.gens/\Un (frs outer) [] H H' s.heap s'.heap/\HOk P w H' s'.heap/\RelV v u/\Q v H'
noncomputable def CR (CX:CXT) (outer:List Env) (P:OO) (w:O6) (H:Hp) (s:OB) (Q:VK) (E:XK) (r:UD) (s':OB):Prop :=
 match r with
 | .ok (.ret u)=>CE outer P w H s Q u s'
 | .ok _=>False
 | .error e=>CX outer H s E e s'
structure fT (P:OO) (w:O6) (K:Ow) (mg:Str->Option Oz) (base:Heap) (CX:CXT) (k:Nat) (f:Addr) (fd:Qq) (ps:List Str) (sp:Sp):Prop where
 len:∀ vs H Q E,sp vs H Q E->vs.length=ps.length
 run:∀ (A:PL) (outer:List Env) (s:OB) (H:Hp) (args:Args) (us:List Oz) (vs:List V) (Q:VK) (E:XK),bU k A->lT P w K mg base A outer s H->BindsTo s fd args (ps.zip us)->aq vs us->sp vs H Q E →
  codeAny (OY P w) A (.call (.ref f) args) (CR CX outer P w H s Q E) s
theorem lT.make {P:OO}{w:O6}{K:Ow}{mg:Str->Option Oz}{base:Heap}{A:PL}{outer:List Env}{s:OB}{H:Hp} (e:lT P w K mg base A outer s H) (C:Addr) (us:List Oz) (kw:List (Str×Oz)) :
 lT P w K mg base (A.under (.builtin "type.__call__" ⟨.ref C :: us,kw⟩)) outer s H:=⟨by first | exact e.frames | (simpa [Ux,Code.envs,UO,pushEnvs] using e.frames),e.mod,e.bs,e.bsz,e.iC,e.frf,e.hok,e.bare⟩
section
variable {X:Cx}{pins:List (Addr×Obj)}{σ:St}{H:Hp}{s s':OB}
theorem Inv.EK (I:Inv X pins σ H s):lT X.prog X.w X.K X.mg X.base X.A X.stack s H :=
 ⟨I.ok.frames,I.ok.mod,I.bs,Ph I.ok.bsz I.sz,I.stack,I.nu,I.hok,I.bare⟩
theorem Inv.after {Q:VK}{u:Oz} (I:Inv X pins σ H s) (h:CE X.stack X.prog X.w H s Q u s'):EP X pins σ Q u s':=by
 obtain ⟨v,H',os,bare,un,hok,r,q⟩:=h
 obtain ⟨hh,g,d,t,os'⟩:=s'
 obtain rfl:os'=s.os:=os
 exact ⟨v,H',I.call (h':=hh) (g':=g) (d':=d) (t':=t) (ch:=[]) un hok bare (fun b z=>absurd z (by simp)),r,q⟩
end
noncomputable def wZ (sp:Sp) (dvs:List V) (E:XK) (t:TA):TE:=fun σ H Q=>t σ H fun vs H1=>sp (vs++dvs) H1 Q E
noncomputable def w6 (C:Addr) (m:Str) (sp:Sp) (dvs:List V) (E:XK) (ta:TE) (t:TA):TE:=fun σ H Q=>ta σ H fun x H1=>∃ a dx fs,x=.ref a/\H1 a=some (.ins C dx fs)/\fs.lookup m=none ∧
 t σ H1 fun vs H2=>sp (x :: (vs++dvs)) H2 Q E
noncomputable def w9 (C:Addr) (sp:Sp) (dvs:List V) (E:XK) (t:TA):TE:=fun σ H Q=>t σ H fun vs H1=>∀ x dx,H1 x=none->H1 dx=none->dx≠x →
 sp (.ref x :: (vs++dvs)) (upd (upd H1 dx (.own x)) x (.ins C dx [])) (fun v H2=>v=.non/\Q (.ref x) H2) E
noncomputable def Binds (K:Ow) (fd:Qq) (ps:List Str) (ds:List Oz):Prop :=
 ∀ (s:OB) (us:List Oz),K.In s.heap->(us++ds).length=ps.length->BindsTo s fd ⟨us,[]⟩ (ps.zip (us++ds))
theorem Binds.all {K:Ow}{fd:Qq}{ps:List Str} (h:∀ us:List Oz,us.length=ps.length->Us fd ⟨us,[]⟩=pure (ps.zip us)):Binds K fd ps []:=fun s us _ hl=>by
 rw[Pk] at hl ⊢
 exact .of_eq (h us hl)
noncomputable def fU (CX:CXT) (X:Cx) (E:XK):Prop:=∀ (pins:List (Addr×Obj)) (σ:St) (H:Hp) (s:OB) (e:Oz) (s':OB),Inv X pins σ H s->CX X.stack H s E e s'->X.xe e s'
section
variable {X:Cx}{CX:CXT}{k:Nat}{f C:Addr}{fd:Qq}{ps:List Str}{sp:Sp}{dvs:List V}{ds:List Oz}{E:XK}{x m:Str}{p pos apos:Pos}{e o:Ru}{es:List Ru}{ta:TE}{t:TA}
theorem kK {pins:List (Addr×Obj)}{σ:St}{H:Hp}{s:OB}{Q:VK}{us:List Oz}{vs:List V} (F:fT X.prog X.w X.K X.mg X.base CX k f fd ps sp) (hr:bU k X.A) (hb:Binds X.K fd ps ds) (hd:aq dvs ds) (hx:fU CX X E)
 (I:Inv X pins σ H s) (r:aq vs us) (h:sp (vs++dvs) H Q E):wpAny (OY X.prog X.w) X.A (call (.ref f) us) (EP X pins σ Q) X.xe s:=by
 have r2:aq (vs++dvs) (us++ds):=r.append hd
 have hl:(us++ds).length=ps.length:=by rw[← r2.length];exact F.len _ _ _ _ h
 refine Sn (codeAny_mono (F.run X.A X.stack s H ⟨us,[]⟩ (us++ds) (vs++dvs) Q E hr I.EK (hb s us I.kIn hl) r2 h) fun r s' hq=>?_)
 cases r with
 | error e=>exact hx pins σ H s e s' I hq
 | ok fl =>
  cases fl with
  | ret u=>exact I.after hq
  | next=>exact Pn hq
  | brk=>exact Pn hq
  | cont=>exact Pn hq
theorem AX (F:fT X.prog X.w X.K X.mg X.base CX k f fd ps sp) (hr:bU k X.A) (hg:Gl X x) (hm:X.mg x=some (.ref f)) (hk:PZ X.K (.ref f)=true) (hb:Binds X.K fd ps ds) (hd:aq dvs ds) (hx:fU CX X E)
 (ha:PA X (e :: es) t) (hdb:(x==("__debug__":Str))=false:=by decide) (he:O4 (e :: es) X.env=(false,eval e X.env) :: O4 es X.env:=by rfl) (hpl:(QE pos (O4 es X.env)).any (·.1)=false:=by rfl) :
 PE X (.Call (.Name x p) (e :: es) [] pos) (wZ sp dvs E t):=by
 intro pins s σ H Q I h
 refine Qu (iT I hg hm ?_ hdb)
 refine Q2 (h₀:=X.base) I.ok.mod.kin hk (thn (ha pos pins s σ H _ I h) fun us s1 ⟨vs,H1,I1,r,q⟩=>⟨I1.kIn,?_⟩) he hpl
 exact kK F hr hb hd hx I1 r q
theorem xg (F:fT X.prog X.w X.K X.mg X.base CX k f fd ps sp) (hr:bU k X.A) (hg:Gl X x) (hm:X.mg x=some (.ref f)) (hk:PZ X.K (.ref f)=true) (hb:Binds X.K fd ps ds) (hd:aq dvs ds) (hx:fU CX X E)
 (hdb:(x==("__debug__":Str))=false:=by decide):PE X (.Call (.Name x p) [] [] pos) (wZ sp dvs E wY):=by
 intro pins s σ H Q I h
 refine Qu (iT I hg hm ?_ hdb)
 exact Sy I.kIn hk (kK (us:=[]) F hr hb hd hx I .nil h)
theorem AY {pl:Sem Bool} (he:PE X o ta) (c:Cls X.K C) (hm:u5 X.K C m f) (F:fT X.prog X.w X.K X.mg X.base CX k f fd ps sp) (hr:bU k X.A) (hb:Binds X.K fd ps ds) (hd:aq dvs ds) (hx:fU CX X E) (ha:PA X (e :: es) t)
 (hst:O4 (e :: es) X.env=(false,eval e X.env) :: O4 es X.env:=by rfl) (hpl:(QE pos (O4 es X.env)).any (·.1)=false:=by rfl)
 (ht:eval (.Call (.Attribute o m apos) (e :: es) [] pos) X.env=(do
  let ov ← eval o X.env
  standAt apos.atName
  let (f,first) ← holding [ov] (TJ ov m pl)
  callWith pos f first (QE pos (O4 (e :: es) X.env)) (SZ pos (Rq [] X.env))):=by rfl) :
 PE X (.Call (.Attribute o m apos) (e :: es) [] pos) (w6 C m sp dvs E ta t):=by
 intro pins s σ H Q I h
 refine Rf (pl:=pl) (thn (he pins s σ H _ I h) fun u s1 ⟨x,H1,I1,rx,a,dx,fs,ex,ea,l,q⟩=>?_) ht
 subst ex
 obtain rfl:u=Pu a:=rx
 refine fS I1 ea c hm l ?_
 refine Q2 (first:=[.ref a]) (h₀:=X.base) I.ok.mod.kin hm.kp (thn (ha pos pins s1 σ H1 _ I1 q) fun us s2 ⟨vs,H2,I2,r,q2⟩=>⟨I2.kIn,?_⟩) hst hpl
 exact kK (us:=.ref a :: us) (vs:=.ref a :: vs) F hr hb hd hx I2 (.cons rfl r) q2
theorem xh {pl:Sem Bool} (he:PE X o ta) (c:Cls X.K C) (hm:u5 X.K C m f) (F:fT X.prog X.w X.K X.mg X.base CX k f fd ps sp) (hr:bU k X.A) (hb:Binds X.K fd ps ds) (hd:aq dvs ds) (hx:fU CX X E)
 (ht:eval (.Call (.Attribute o m apos) [] [] pos) X.env=(do
  let ov ← eval o X.env
  standAt apos.atName
  let (f,first) ← holding [ov] (TJ ov m pl)
  callWith pos f first (QE pos (O4 [] X.env)) (SZ pos (Rq [] X.env))):=by rfl) :
 PE X (.Call (.Attribute o m apos) [] [] pos) (w6 C m sp dvs E ta wY):=by
 intro pins s σ H Q I h
 refine Rf (pl:=pl) (thn (he pins s σ H _ I h) fun u s1 ⟨x,H1,I1,rx,a,dx,fs,ex,ea,l,q⟩=>?_) ht
 subst ex
 obtain rfl:u=Pu a:=rx
 refine fS I1 ea c hm l ?_
 exact Sy (first:=[.ref a]) I1.kIn hm.kp (kK (us:=[.ref a]) (vs:=[.ref a]) F hr hb hd hx I1 (.cons rfl .nil) q)
structure Mk (K:Ow) (C f:Addr):Prop where
 makes:To K C=true
 init:Px K (.ref C) "__init__"=some (some (.ref f))
 fn:S7 K (.ref f)=true
 kp:PZ K (.ref C)=true
theorem pA {pins:List (Addr×Obj)}{σ:St}{H:Hp}{s:OB}{Q:VK}{us:List Oz}{vs:List V} (M:Mk X.K C f) (F:fT X.prog X.w X.K X.mg X.base CX k f fd ps sp) (hr:bU (k+1) X.A) (hb:Binds X.K fd ps ds) (hd:aq dvs ds)
 (hx:fU CX X E) (I:Inv X pins σ H s) (r:aq vs us)
 (h:∀ x dx,H x=none->H dx=none->dx≠x->sp (.ref x :: (vs++dvs)) (upd (upd H dx (.own x)) x (.ins C dx [])) (fun v H2=>v=.non/\Q (.ref x) H2) E) :
 wpAny (OY X.prog X.w) X.A (call (.ref C) us) (EP X pins σ Q) X.xe s:=by
 have hq:=h (s.heap.objs.size+1) s.heap.objs.size (I.hok.fresh (P9 _)) (I.hok.fresh (OE _)) (O3 (P8 _))
 have I2:=Inv.made (C:=C) I
 have r2:aq (V.ref (s.heap.objs.size+1) :: (vs++dvs)) (Pu (s.heap.objs.size+1) :: (us++ds)):=.cons rfl (r.append hd)
 have hl:(Pu (s.heap.objs.size+1) :: us++ds).length=ps.length:=by
  have e:=r2.length
  rw[F.len _ _ _ _ hq] at e
  exact e.symm
 refine Sn (wX (f:=f) I.kIn M.makes M.init (beq_iff_eq.mp M.fn) (codeAny_mono (F.run _ X.stack _ _ ⟨Pu (s.heap.objs.size+1) :: us,[]⟩ (Pu (s.heap.objs.size+1) :: (us++ds)) _ _ E (hr.make C us [])
  (I2.EK.make C us []) (hb _ (Pu (s.heap.objs.size+1) :: us) I2.kIn hl) r2 hq) fun r s' hq'=>?_))
 cases r with
 | error e=>exact hx pins σ _ _ e s' I2 hq'
 | ok fl =>
  cases fl with
  | ret u =>
   obtain ⟨v,H',I3,rv,ev,q3⟩:=I2.after hq'
   subst ev
   exact ⟨rv,⟨V.ref (s.heap.objs.size+1),H',I3,rfl,q3⟩⟩
  | next=>exact Pn hq'
  | brk=>exact Pn hq'
  | cont=>exact Pn hq'
theorem AZ (M:Mk X.K C f) (F:fT X.prog X.w X.K X.mg X.base CX k f fd ps sp) (hr:bU (k+1) X.A) (hg:Gl X x) (hm:X.mg x=some (.ref C)) (hb:Binds X.K fd ps ds) (hd:aq dvs ds) (hx:fU CX X E)
 (ha:PA X (e :: es) t) (hdb:(x==("__debug__":Str))=false:=by decide) (he:O4 (e :: es) X.env=(false,eval e X.env) :: O4 es X.env:=by rfl) (hpl:(QE pos (O4 es X.env)).any (·.1)=false:=by rfl) :
 PE X (.Call (.Name x p) (e :: es) [] pos) (w9 C sp dvs E t):=by
 intro pins s σ H Q I h
 refine Qu (iT I hg hm ?_ hdb)
 refine Q2 (h₀:=X.base) I.ok.mod.kin M.kp (thn (ha pos pins s σ H _ I h) fun us s1 ⟨vs,H1,I1,r,q⟩=>⟨I1.kIn,?_⟩) he hpl
 exact pA M F hr hb hd hx I1 r q
theorem xj (M:Mk X.K C f) (F:fT X.prog X.w X.K X.mg X.base CX k f fd ps sp) (hr:bU (k+1) X.A) (hg:Gl X x) (hm:X.mg x=some (.ref C)) (hb:Binds X.K fd ps ds) (hd:aq dvs ds) (hx:fU CX X E)
 (hdb:(x==("__debug__":Str))=false:=by decide):PE X (.Call (.Name x p) [] [] pos) (w9 C sp dvs E wY):=by
 intro pins s σ H Q I h
 refine Qu (iT I hg hm ?_ hdb)
 exact Sy I.kIn M.kp (pA (us:=[]) M F hr hb hd hx I .nil h)
end
section
variable {X:Cx}{CX:CXT}{k:Nat}{f C:Addr}{fd:Qq}{ps ks:List Str}{sp:Sp}{E:XK}{x m:Str}{p pos apos kpos:Pos}{e o:Ru}{es:List Ru}{kws:List Tt}{te ta:TE}{t tk:TA}{nm:Option Str}
variable {g:List Oz->List Oz->List Oz}{gV:List V->List V->List V}
end
structure cI (N P:List Str) (sc:OW):Prop where
 kind:sc.kind=.function
 co:sc.isCoroutine=false
 gen:sc.isGenerator=false
 nd:N.Nodup
 pre:N.take P.length=P
 par:∀ x∈P,sc.names.lookup x=some .local\/sc.names.lookup x=some .cell
 nofree:∀ y∈sc.names,y.2≠.free
theorem mQ {kindOf:Str->Option QY}{x:Str}:∀ {binds:List (Str×Oz)}{m:Str->Option Oz},(∀ v,(x,v)∉binds)->bindL kindOf binds m x=m x
 | [],_,_=>rfl
 | (n,v) :: r,m,h=>by
  unfold bindL
  rw[mQ fun w hw=>h w (OL _ hw)]
  split
  ·have:x≠n:=by rintro rfl;exact h v ON
   simp[this]
  ·rfl
theorem mR {kindOf:Str->Option QY}{x:Str}:∀ {binds:List (Str×Oz)}{m:Str->Option Oz},(∀ v,(x,v)∉binds)->bindC kindOf binds m x=m x
 | [],_,_=>rfl
 | (n,v) :: r,m,h=>by
  unfold bindC
  rw[mR fun w hw=>h w (OL _ hw)]
  split
  ·rfl
  ·have:x≠n:=by rintro rfl;exact h v ON
   simp[this]
theorem mS {kindOf:Str->Option QY}{x:Str}{v:Oz}:∀ {P:List Str}{vs:List Oz}{i:Nat}{m:Str->Option Oz},P.Nodup->P[i]?=some x->vs[i]?=some v->kindOf x=some .local →
 bindL kindOf (P.zip vs) m x=some v
 | [],_,_,_,_,h,_,_=>by simp at h
 | _ :: _,[],_,_,_,_,h,_=>by simp at h
 | p :: P,w :: vs,0,m,nd,h1,h2,hk=>by
  simp at h1 h2;subst h1;subst h2
  show bindL kindOf ((p,w) :: P.zip vs) m p=_
  unfold bindL
  rw[mQ fun v hv=>(List.nodup_cons.mp nd).1 (Su hv).1,if_pos hk]
  simp
 | p :: P,w :: vs,i+1,m,nd,h1,h2,hk=>by
  show bindL kindOf ((p,w) :: P.zip vs) m x=_
  unfold bindL
  exact mS (i:=i) (List.nodup_cons.mp nd).2 (by simpa using h1) (by simpa using h2) hk
theorem mT {kindOf:Str->Option QY}{x:Str}{v:Oz}:∀ {P:List Str}{vs:List Oz}{i:Nat}{m:Str->Option Oz},P.Nodup->P[i]?=some x->vs[i]?=some v->kindOf x≠some .local →
 bindC kindOf (P.zip vs) m x=some v
 | [],_,_,_,_,h,_,_=>by simp at h
 | _ :: _,[],_,_,_,_,h,_=>by simp at h
 | p :: P,w :: vs,0,m,nd,h1,h2,hk=>by
  simp at h1 h2;subst h1;subst h2
  show bindC kindOf ((p,w) :: P.zip vs) m p=_
  unfold bindC
  rw[mR fun v hv=>(List.nodup_cons.mp nd).1 (Su hv).1,if_neg hk]
  simp
 | p :: P,w :: vs,i+1,m,nd,h1,h2,hk=>by
  show bindC kindOf ((p,w) :: P.zip vs) m x=_
  unfold bindC
  exact mT (i:=i) (List.nodup_cons.mp nd).2 (by simpa using h1) (by simpa using h2) hk
noncomputable def start (N:List Str) (vs:List V):St:=vs.map some++OX (N.length - vs.length) none
noncomputable def qR (CX:CXT) (P:OO) (w:O6) (K:Ow) (mg:Str->Option Oz) (base:Heap) (N:List Str) (qual:Str) (scope:OW) (f:Addr) (cd:Oz) (A:PL) (outer:List Env) (s:OB) (H:Hp) (E:XK):Cx where
 prog:=P
 w:=w
 K:=K
 mg:=mg
 base:=base
 A:=A.deeper (UA qual scope s.heap.objs.size f cd)
 N:=N
 s₀:=s
 H₀:=H
 env:=UA qual scope s.heap.objs.size f cd
 outer:=outer
 stack:=UA qual scope s.heap.objs.size f cd :: outer
 ex:=[]
 calm:=true
 fn:=fun _=>true
 pn:=[]
 xe:=fun e s'=>wpAny (OY P w) (A.deeper (UA qual scope s.heap.objs.size f cd)) (leaving (UA qual scope s.heap.objs.size f cd) e) (fun _ s''=>CX outer H s E e s'') (fun e' s''=>CX outer H s E e' s'') s'
theorem pB {sc:OW}{n:Nat}{x:Str} (h:sc.names.lookup x=some .cell):∃ c,(cellsFrom n sc.names []).lookup x=some c:=by
 have q:=Ui sc.names n [] (.inl h)
 exact Option.isSome_iff_exists.mp q
theorem u9 {CX:CXT}{P:OO}{w:O6}{K:Ow}{mg:Str->Option Oz}{base:Heap}{N ps:List Str}{qual:Str}{scope:OW}{f:Addr}{cd:Oz}{A:PL}{outer:List Env}{s s1:OB}{H:Hp}{E:XK}{us:List Oz}{vs:List V}
 (S:cI N ps scope) (hd:A.handled=none) (e0:lT P w K mg base A outer s H) (hl:vs.length=ps.length) (r:aq vs us)
 (x:InCallC s s.heap.objs.size (bindL (UA qual scope s.heap.objs.size f cd).kindOf (ps.zip us) fun _=>none) (cellsFrom (s.heap.objs.size+1) scope.names []) (bindC (UA qual scope s.heap.objs.size f cd).kindOf (ps.zip us) fun _=>none) s1) :
 Inv (qR CX P w K mg base N qual scope f cd A outer s H E) [] (start N vs) H s1:=by
 have hpl:ps.length<=N.length:=by have:=congrArg Sd S.pre;rw[Tw] at this;omega
 obtain ⟨h1,tk,rfl,hk⟩:=x.done
 have noA:∀ b:Addr,b∉(qR CX P w K mg base N qual scope f cd A outer s H E).ex:=fun b z=>absurd (show b∈([]:List Addr) from z) (by simp)
 refine ⟨⟨e0.mod,S.kind,rfl,rfl,OE _,fun y z c h1 h2=>?_,fun y hy=>?_,fun y c _ h=>?_,fun _=>hd,UK e0.frames,.inr ⟨rfl,rfl⟩,fun b z=>absurd z (noA b),e0.bs,e0.bsz,fun b _ _=>noA b,fun b z=>absurd z (noA b),e0.iC,e0.frf⟩,
  rfl,e0.bare,Un.kept hk,⟨_,x.toInCall.ns,fun i y v h1 h2 h3=>?_⟩,fun y c h=>⟨_,x.cell y c h⟩,e0.hok.fresh (OE _),fun y c h=>?_,fun p hp=>absurd (show p∈([]:List (Addr×Obj)) from hp) (by simp),e0.hok.kept hk,?_⟩
 ·exact name_of_addr x.apart (Qd h1) (Qd h2)
 ·have hy:scope.names.lookup y=some .cell\/scope.names.lookup y=some .free:=hy
  rcases hy with hy | hy
  ·exact pB hy
  ·exact absurd rfl (S.nofree _ (Qd hy))
 ·exact PK (x.above y c (Qd h))
 ·have hi:i < vs.length:=by
   unfold start at h2
   by_cases hi:i < vs.length
   ·exact hi
   ·rw[OU (by simpa using hi)] at h2
    rw[Q9] at h2
    split at h2<;>cases h2
  have ha:vs[i]?=some v:=by
   unfold start at h2
   rw[OH (by simpa using hi),O2] at h2
   cases e:vs[i]? with
   | none=>rw[e] at h2;cases h2
   | some a=>rw[e] at h2;cases h2;rfl
  obtain ⟨u,hu,rv⟩:=r.get ha
  have hp:ps[i]?=some y:=by
   rw[← S.pre,Q3 (by omega)];exact h1
  have ndP:ps.Nodup:=by rw[← S.pre];exact S.nd.sublist (List.take_sublist _ _)
  refine ⟨u,rv,?_⟩
  rcases S.par y (OM hp) with k | k
  ·exact .inl ⟨k,mS ndP hp hu k⟩
  ·obtain ⟨c,e⟩:=pB (n:=s.heap.objs.size+1) k
   refine .inr ⟨.inl k,c,e,?_⟩
   have q:=x.cell y c e
   rw[mT ndP hp hu (by show scope.names.lookup y≠_;rw[k];decide)] at q
   exact q
 ·exact e0.hok.fresh (PK (x.above y c (Qd h)))
 ·unfold start
  show _=N.length
  rw[OS,OQ,Rn]
  omega
theorem Ir {CX:CXT}{P:OO}{w:O6}{K:Ow}{mg:Str->Option Oz}{base:Heap}{k:Nat}{f:Addr}{name qual:Str}{params:QI}{body:List Uh}{scope:OW}{dV kV doc pm cdv ct oc:Oz}{an od:Option Addr}
 {osl:Array (Option Oz)}{N ps:List Str}{sp:Sp} (lk:K.lookup f=some ⟨oc,od,.func (Qk name qual params body scope dV kV doc pm an cdv ct),osl⟩) (hcd:Ss K cdv qual=true) (S:cI N ps scope)
 (len:∀ vs H Q E,sp vs H Q E->vs.length=ps.length)
 (hbody:∀ (A:PL) (outer:List Env) (s:OB) (H:Hp) (vs:List V) (Q:VK) (E:XK),bU k (A.deeper (UA qual scope s.heap.objs.size f cdv))->sp vs H Q E →
  ∃ t,PSs (qR CX P w K mg base N qual scope f cdv A outer s H E) body t/\t { nx:=fun _ H'=>Q .non H',rt:=Q } (start N vs) H) :
 fT P w K mg base CX (k+1) f (Qk name qual params body scope dV kV doc pm an cdv ct) ps sp:=by
 refine ⟨len,fun A outer s H args us vs Q E hr e0 hb r hsp=>?_⟩
 have hl:=len _ _ _ _ hsp
 have KX:K.In s.heap:=e0.mod.kin.keeps fun b o e=>(e0.bs b o e).1
 have lim:s.heap.NoLimit:=e0.mod.nolimit.keeps fun b o e=>(e0.bs b o e).1
 have hkind:∀ y∈ps.zip us,scope.names.lookup y.1=some .local\/(scope.names.lookup y.1=some .cell/\((cellsFrom (s.heap.objs.size+1) scope.names []).lookup y.1).isSome=true):=fun ⟨n,v⟩ hy=>by
  rcases S.par n (Su hy).1 with q | q
  ·exact .inl q
  ·exact .inr ⟨q,Ui _ _ _ (.inl q)⟩
 refine codeAny_call_function hr.depth (KX _ _ lk) rfl S.co S.gen rfl (PySem.W.codeRec_of KX hcd) (hb _ _ _ _ ?_)
 refine wpAny_newFunctionEnv_cells S.kind hkind fun env he s1 x=>?_
 subst he
 refine ⟨lim.keeps x.toInCall.keep,codeAny_func ?_⟩
 obtain ⟨t,ht,hq⟩:=hbody A outer s H vs Q E (hr.deeper _) hsp
 have I:Inv (qR CX P w K mg base N qual scope f cdv A outer s H E) [] (start N vs) H s1:=u9 S hr.hd e0 hl r x
 refine wpAny_mono (ht [] s1 (start N vs) H _ I hq) (fun fl s' hs=>?_) fun e s' hs=>hs
 have fin:∀ {σ':St}{H':Hp}{v:V}{u:Oz},Inv (qR CX P w K mg base N qual scope f cdv A outer s H E) [] σ' H' s'->RelV v u->Q v H'->CE outer P w H s Q u s' :=
  fun {σ' H' v u} J rv q=>⟨v,H',J.os,J.bare,J.base,J.hok,rv,q⟩
 cases fl with
 | ret u =>
  obtain ⟨v,σ',H',J,rv,q⟩:=hs
  exact fin J rv q
 | next =>
  obtain ⟨σ',H',J,q⟩:=hs
  exact fin (v:=V.non) (u:=Rx) J rfl q
 | brk =>
  obtain ⟨_,_,_,q⟩:=hs
  exact Pn q
 | cont =>
  obtain ⟨_,_,_,q⟩:=hs
  exact Pn q
end L2
namespace L2
open PySem PySem.Spec PyProof.Rows
section
variable {X:Cx}{x:Str}{p pos:Pos}{e:Ru}{es:List Ru}{t:TA}{id T:String}{r:List V->Hp->VK->Prop}
noncomputable def tCB (r:List V->Hp->VK->Prop) (t:TA):TE:=fun σ H Q=>t σ H fun vs H1=>r vs H1 Q
theorem gf (hc:cS X (.builtin id) r) (hg:Gl X x) (hm:X.mg x=none) (hv:Sb x=some (.builtin id)) (ha:PA X (e :: es) t) (hn:x≠"__name__":=by decide) (hdb:(x==("__debug__":Str))=false:=by decide)
 (he:O4 (e :: es) X.env=(false,eval e X.env) :: O4 es X.env:=by rfl) (hpl:(QE pos (O4 es X.env)).any (·.1)=false:=by rfl):PE X (.Call (.Name x p) (e :: es) [] pos) (tCB r t):=by
 intro pins s σ H Q I h
 refine Qu (cV I hg hm hv ?_ hn hdb)
 exact Sz (thn (ha pos pins s σ H _ I h) fun us s1 ⟨vs,H1,I1,r1,q1⟩=>hc pins s1 σ H1 vs us Q I1 r1 q1) he hpl
theorem gQ (hc:cS X (.type T) r) (hg:Gl X x) (hm:X.mg x=none) (hv:Sb x=some (.type T)) (ha:PA X (e :: es) t) (hn:x≠"__name__":=by decide) (hdb:(x==("__debug__":Str))=false:=by decide)
 (he:O4 (e :: es) X.env=(false,eval e X.env) :: O4 es X.env:=by rfl) (hpl:(QE pos (O4 es X.env)).any (·.1)=false:=by rfl):PE X (.Call (.Name x p) (e :: es) [] pos) (tCB r t):=by
 intro pins s σ H Q I h
 refine Qu (cV I hg hm hv ?_ hn hdb)
 exact O5 (thn (ha pos pins s σ H _ I h) fun us s1 ⟨vs,H1,I1,r1,q1⟩=>hc pins s1 σ H1 vs us Q I1 r1 q1) he hpl
end
end L2
namespace HT
open PySem PyProof.Rows
section
open PySem.SeqAt
open PySem.AutoSeq1 (wpAny_loadPart')
open PySem.MeetsSeq PySem.MeetsSeq2 PySem.MeetsSeq3
end
section
variable {prog:OO}{w:O6}{A:PL}{E:Oz->OB->Prop}{s:OB}
theorem A1 {t b:Addr}{vs ws:List Oz}{Q:Oz->OB->Prop} (ht:IsTup s.heap t vs.toArray) (hb:IsTup s.heap b ws.toArray) (hv:vs≠[])
 (h1:ws=[]->Q (.ref t) s) (h2:ws≠[]->Q (.ref s.heap.objs.size) { s with heap:=s.heap.push { cls:=.type "tuple",data:=.seq (vs++ws).toArray } })
 (hsz:vs.length+ws.length<=sizeLine):wpAny (OY prog w) A (Qi .Add (.ref t) (.ref b)) Q E s:=by
 obtain ⟨⟨cls,dd,data,sl⟩,ho,hc,n,hd⟩:=id ht
 obtain ⟨⟨cls2,dd2,data2,sl2⟩,ho2,hc2,n2,hd2⟩:=id hb
 simp only at hc hd hc2 hd2
 subst hc hd hc2 hd2
 have e:vs.toArray++ws.toArray=(vs++ws).toArray:=by simp
 by_cases hw:ws=[]
 ·exact concat_meets ⟨_,ho,rfl⟩ ⟨_,ho2,rfl⟩ Um Vb R8 RV (RL _ _)
   (tuple_addW1 t b vs.toArray ws.toArray n n2 dd dd2 sl sl2 (by simpa using hv) (by simp[hw])) ⟨ho,ho2,h1 hw⟩
 ·refine concat_meets ⟨_,ho,rfl⟩ ⟨_,ho2,rfl⟩ Um Vb R8 RV (RL _ _)
   (tuple_addW2 t b vs.toArray ws.toArray n n2 dd dd2 sl sl2 (by simpa using hv) (by simpa using hw) (by rw[OD,OD];exact hsz)) ⟨ho,ho2,?_⟩
  rw[e]
  exact h2 hw
noncomputable def sIx (n d:Nat):Option Int->Nat
 | none=>d
 | some v=>if v < 0 then (v+(n:Int)).toNat else min v.toNat n
theorem EL (n d:Nat) (hd:d<=n) (o:Option Int):sIx n d o<=n:=by
 cases o with
 | none=>exact hd
 | some v =>
  show (if v < 0 then (v+(n:Int)).toNat else min v.toNat n)<=n
  by_cases hv:v < 0
  ·rw[if_pos hv];omega
  ·rw[if_neg hv];exact Nat.min_le_right _ _
theorem sf (v:Int) (n d:Nat):(if v < 0 then max (v+(n:Int)) 0 else min v (n:Int))=((sIx n d (some v):Nat):Int):=by
 show (if v < 0 then max (v+(n:Int)) 0 else min v (n:Int))=(((if v < 0 then (v+(n:Int)).toNat else min v.toNat n):Nat):Int)
 by_cases hv:v < 0
 ·simp only[if_pos hv];omega
 ·simp only[if_neg hv];omega
theorem qS (lo hi:Option Int) (n:Nat):Rp lo hi 1 (n:Int)=(((sIx n 0 lo:Nat):Int),((sIx n n hi:Nat):Int)):=by
 have h1:¬ ((1:Int) < 0):=by omega
 unfold Rp
 simp only[h1,if_false]
 refine Prod.ext ?_ ?_
 ·cases lo with
  | none=>rfl
  | some v=>exact sf v n 0
 ·cases hi with
  | none=>rfl
  | some v=>exact sf v n n
theorem qT (i j:Nat):QG (i:Int) (j:Int) 1=j - i:=by
 unfold QG
 have h1:(1:Int) > 0:=by omega
 simp only[h1,if_true,Int.ediv_one]
 split<;>omega
theorem kL {v:Oz}{o:Option Int}{Q:Option Int->OB->Prop} (p:Ul v o) (h:Q o s):wpAny (OY prog w) A (Builtin.Slice.slicePartIndex v) Q E s:=by
 cases p with
 | none=>exact slicePart_none h
 | int i t=>exact slicePart_int h
theorem fC {sl:Addr}{vl vu:Oz}{lo hi:Option Int}{n:Nat}{Q:Int×Int×Nat->OB->Prop} (hs:s.heap.IsSliceOf sl vl vu .none) (pl:Ul vl lo) (pu:Ul vu hi)
 (h:Q (((sIx n 0 lo:Nat):Int),1,sIx n n hi - sIx n 0 lo) s):wpAny (OY prog w) A (SL (.ref sl) (pure (n:Int))) Q E s:=by
 obtain ⟨os,hos,hcs,hds⟩:=id hs
 unfold SL Builtin.Slice.sliceFields
 refine wpAny_bind (wpAny_bind (wpAny_field hos hds (x:=vl) rfl (wpAny_bind (wpAny_field hos hds (x:=vu) rfl (wpAny_bind (wpAny_field hos hds (x:=.none) rfl (wpAny_pure ?_)))))))
 refine wpAny_bind (slicePart_none ?_)
 show wpAny _ _ (if ((1:Int)==0)=true then _ else _) _ _ s
 rw[if_neg (by decide)]
 refine wpAny_bind (kL pl (wpAny_bind (kL pu (wpAny_bind (wpAny_pure ?_)))))
 show wpAny _ _ (match Rp lo hi 1 (n:Int) with | (lo,hi)=>pure (lo,(1:Int),QG lo hi 1)) _ _ s
 rw[qS lo hi n]
 show wpAny _ _ (pure (((sIx n 0 lo:Nat):Int),(1:Int),QG ((sIx n 0 lo:Nat):Int) ((sIx n n hi:Nat):Int) 1)) _ _ s
 rw[qT]
 exact wpAny_pure h
theorem xm (xs:Array Oz) (i k:Nat):((O8 k).filterMap fun (m:Nat)=>xs[((i:Int)+(m:Int)*1).toNat]?).toArray=((xs.toList.drop i).take k).toArray:=by
 have e:(fun (m:Nat)=>xs[((i:Int)+(m:Int)*1).toNat]?)=fun m=>xs[i+m]?:=by
  funext m
  have:((i:Int)+(m:Int)*1).toNat=i+m:=by omega
  rw[this]
 rw[e]
 have:=pick_run xs i k
 rw[List.filterMap_map] at this
 have e2:((fun x=>xs[x]?) ∘ fun x=>i+x)=fun m=>xs[i+m]?:=rfl
 rw[e2] at this
 rw[this]
theorem iX {t sl:Addr}{items:Array Oz}{vl vu:Oz}{lo hi:Option Int}{Q:Oz->OB->Prop} (ht:IsTup s.heap t items) (hs:s.heap.IsSliceOf sl vl vu .none) (pl:Ul vl lo) (pu:Ul vu hi)
 (hw:¬ (sIx items.size 0 lo=0/\sIx items.size items.size hi=items.size))
 (h:Q (.ref s.heap.objs.size) { s with heap:=s.heap.push { cls:=.type "tuple",data:=.seq ((items.toList.drop (sIx items.size 0 lo)).take (sIx items.size items.size hi - sIx items.size 0 lo)).toArray } })
 (hsz:items.size<=sizeLine):wpAny (OY prog w) A (T7 (.ref t) (.ref sl)) Q E s:=by
 have htake:sizeOk (.seq ((items.toList.drop (sIx items.size 0 lo)).take (sIx items.size items.size hi - sIx items.size 0 lo)).toArray):=by
  show ((items.toList.drop (sIx items.size 0 lo)).take (sIx items.size items.size hi - sIx items.size 0 lo)).toArray.size<=sizeLine
  rw[OD,Tw,List.length_drop,P1]
  omega
 have hj:sIx items.size items.size hi<=items.size:=EL _ _ (OE _) hi
 obtain ⟨os,hos,hcs,hds⟩:=id hs
 have hTs:s.TypeIs (.ref sl) "slice":=⟨os,hos,hcs⟩
 unfold T7
 try with_reducible refine PU ?_
 first | refine wpAny_bind (wpAny_pure ?_) | skip
 refine wpAny_bind (wpAny_sequenceKey ht.typeIs (by decide) ?_)
 refine wpAny_bind (QF (name:=OT "__getitem__") ht.typeIs Qm
  (Q7 Qm ht.typeIs entry_tuple_getitem ?_ (args_tuple_getitem _ _)))
 show wpAny _ _ (SK (.ref t) >>= _) _ _ s
 refine wpAny_bind (tupleItemsOf_ ht ?_)
 refine wpAny_bind (Rc hTs ?_)
 rw[if_pos (by decide)]
 refine wpAny_bind (fC hs pl pu ?_)
 have hno:¬ ((((sIx items.size 0 lo:Nat):Int)==0&&(1:Int)==1&&(sIx items.size items.size hi - sIx items.size 0 lo)==items.size)=true):=by
  intro q
  rw[OC,OC] at q
  have q1:((sIx items.size 0 lo:Nat):Int)=0:=eq_of_beq q.1.1
  have q2:sIx items.size items.size hi - sIx items.size 0 lo=items.size:=eq_of_beq q.2
  exact hw ⟨by omega,by omega⟩
 show wpAny _ _ (if (((sIx items.size 0 lo:Nat):Int)==0&&(1:Int)==1&&(sIx items.size items.size hi - sIx items.size 0 lo)==items.size)=true then _ else _) _ _ s
 rw[if_neg hno,xm]
 first
  | exact wpAny_bind (m:=QM _) (Pf (wpAny_pure ⟨_,rfl,wpAny_pure h⟩) htake)
  | exact wpAny_bind (m:=QM _) (Pf (wpAny_bind (wpAny_pure (wpAny_pure ⟨_,rfl,wpAny_pure h⟩))) htake)
  | exact wpAny_bind (wpAny_bind (m:=QM _) (Pf (wpAny_pure (wpAny_pure ⟨_,rfl,wpAny_pure h⟩)) htake))
  | exact wpAny_bind (wpAny_bind (m:=QM _) (Pf (wpAny_pure ⟨_,rfl,wpAny_pure h⟩) htake))
end
end HT
namespace L2
open PySem PySem.Spec PyProof.Rows
noncomputable abbrev TO:=St->Hp->(Option Int->Hp->Prop)->Prop
noncomputable def PO (X:Cx) (e:Option Ru) (t:TO):Prop :=
 ∀ (pins:List (Addr×Obj)) (s:OB) (σ:St) (H:Hp) (Q:Option Int->Hp->Prop),Inv X pins σ H s->t σ H Q →
  wpAny (OY X.prog X.w) X.A (evalPart e X.env) (fun u s'=>∃ o H',Inv X pins σ H' s'/\Ul u o/\Q o H') X.xe s
noncomputable def A2:TO:=fun _ H Q=>Q none H
noncomputable def Iu (t:TE):TO:=fun σ H Q=>t σ H fun x H1=>∃ i,x=.int i/\Q (some i) H1
theorem intsAre_of {ns:List Int}:∀ {us:List Oz},aq (ns.map V.int) us->RX us ns:=by
 induction ns with
 | nil=>intro us r;rw[QK] at r;cases r;exact .nil
 | cons n ns ih =>
  intro us r
  rw[O0] at r
  cases r with
  | cons r1 r2 =>
   obtain ⟨t,e⟩:=r1
   subst e
   exact .cons n t (ih r2)
section
variable {X:Cx}{e:Ru}{te:TE}{lo hi:Option Ru}{tl th:TO}{pos p2:Pos}
theorem A3:PO X none A2:=by
 intro pins s σ H Q I h
 rw[Vc]
 exact wpAny_pure ⟨none,H,I,.none,h⟩
theorem A4 (h:PE X e te):PO X (some e) (Iu te):=by
 intro pins s σ H Q I hw
 rw[evalPart_some]
 refine thn (h pins s σ H _ I hw) fun u s1 zq=>?_
 obtain ⟨x,H1,I1,r1,q1⟩:=zq
 obtain ⟨i,rfl,q⟩:=q1
 obtain ⟨t,rfl⟩:=r1
 exact ⟨some i,H1,I1,.int i t,q⟩
noncomputable def SlR (X:Cx) (r:V->Option Int->Option Int->Hp->VK->Prop):Prop :=
 ∀ (pins:List (Addr×Obj)) (s:OB) (σ:St) (H:Hp) (x:V) (v vl vu:Oz) (lo hi:Option Int) (sl:Addr) (Q:VK),Inv X pins σ H s->RelV x v->s.heap.IsSliceOf sl vl vu .none->Ul vl lo->Ul vu hi->r x lo hi H Q →
  ∃ T id,T6 (.type T) "__getitem__"=pure (some (.builtin id))/\s.TypeIs v T/\wpAny (OY X.prog X.w) X.A (T7 v (.ref sl)) (EP X pins σ Q) X.xe s
noncomputable def tSl (r:V->Option Int->Option Int->Hp->VK->Prop) (te:TE) (tl th:TO):TE:=fun σ H Q=>te σ H fun x H1=>tl σ H1 fun l H2=>th σ H2 fun u H3=>r x l u H3 Q
theorem xo {r:V->Option Int->Option Int->Hp->VK->Prop} (hr:SlR X r) (he:PE X e te) (hl:PO X lo tl) (hu:PO X hi th):PE X (.Subscript e (.Slice lo hi none p2) pos) (tSl r te tl th):=by
 intro pins s σ H Q I h
 refine Subscript_ (thn (he pins s σ H _ I h) fun v s1 zq=>?_)
 obtain ⟨x,H1,I1,r1,q1⟩:=zq
 refine wpAny_Slice (thn (hl pins s1 σ H1 _ I1 q1) fun vl s2 ⟨l,H2,I2,pl,q2⟩=>thn (hu pins s2 σ H2 _ I2 q2) fun vu s3 zq=>?_)
 obtain ⟨u,H3,I3,pu,q3⟩:=zq
 rw[Vc]
 refine wpAny_pure ?_
 have I4:Inv X pins σ H3 { s3 with heap:=s3.heap.push { cls:=.type "slice",data:=.fields #[vl,vu,.none] } }:=I3.kept (t':=s3.toks) fun b ob q=>OA _ q
 obtain ⟨T,id,hT,ht,hg⟩:=hr pins { s3 with heap:=s3.heap.push { cls:=.type "slice",data:=.fields #[vl,vu,.none] } } σ H3 x v vl vu l u s3.heap.objs.size Q I4 r1 (TR ..) pl pu q3
 show wpAny (OY X.prog X.w) X.A (Va e (.Slice lo hi none p2) v (.ref s3.heap.objs.size)) (EP X pins σ Q) X.xe { s3 with heap:=s3.heap.push { cls:=.type "slice",data:=.fields #[vl,vu,.none] } }
 exact tail_any (ops:=[.ref s3.heap.objs.size,v]) ht hT hg (by with_unfolding_all rfl)
noncomputable def pC (xs:List V) (lo hi:Option Int):List V:=(xs.drop (HT.sIx xs.length 0 lo)).take (HT.sIx xs.length xs.length hi - HT.sIx xs.length 0 lo)
theorem jW (xs:List V) (lo hi:Option Int):(pC xs lo hi).length<=xs.length:=by
 unfold pC
 rw[Tw,List.length_drop]
 omega
noncomputable def Mc (K:Ow):V->Option Int->Option Int->Hp->VK->Prop:=fun x lo hi H Q=>∃ a xs,x=.ref a/\SqT K H a xs ∧
 ¬ (HT.sIx xs.length 0 lo=0/\HT.sIx xs.length xs.length hi=xs.length)/\∀ p,H p=none->Q (.ref p) (upd H p (.tup (pC xs lo hi)))
theorem EM:SlR X (Mc X.K):=by
 intro pins s σ H x v vl vu lo hi sl Q I rx hs pl pu h
 obtain ⟨a,xs,rfl,hx,hw,q⟩:=h
 cases rx
 obtain ⟨its,r,ht,hz⟩:=I.tuple hx
 have hlen:its.toArray.size=xs.length:=by rw[OD];exact r.length.symm
 refine ⟨"tuple",_,PyProof.Rows.slot_tuple_getitem.lookup,ht.typeIs,?_⟩
 refine HT.iX ht hs pl pu (by rw[hlen];exact hw) ?_ (by rw[hlen];exact hz)
 rw[hlen]
 refine ⟨.ref s.heap.objs.size,_,I.laid (t':=s.toks) (o:=.tup (pC xs lo hi)) (fun b ob q=>OA _ q) (OE _) ?_,rfl,q _ (I.hok.fresh (OE _))⟩
 exact ⟨Ph (jW xs lo hi) hz,_,(r.drop (HT.sIx xs.length 0 lo)).take (HT.sIx xs.length xs.length hi - HT.sIx xs.length 0 lo),IsTup.new _ _⟩
noncomputable def Iw (K:Ow):R2:=fun x y H Q=>∃ a b xs ys,x=.ref a/\y=.ref b/\SqT K H a xs/\SqT K H b ys/\xs≠[]/\xs.length+ys.length<=sizeLine ∧
 (ys=[]->Q (.ref a) H)/\(ys≠[]->∀ p,H p=none->Q (.ref p) (upd H p (.tup (xs++ys))))
theorem aq.iY {xs:List V}{us:List Oz} (r:aq xs us):us=[]↔xs=[]:=by
 cases r with
 | nil=>simp
 | cons _ _=>simp
theorem A5:OpR X (Qi .Add) (Iw X.K):=by
 intro pins s σ H x y v u Q I rx ry h
 obtain ⟨a,b,xs,ys,rfl,rfl,ha,hb,hx,hz,q1,q2⟩:=h
 cases rx
 cases ry
 obtain ⟨its,r1,p1,_⟩:=I.tuple ha
 obtain ⟨its2,r2,p2,_⟩:=I.tuple hb
 refine HT.A1 p1 p2 (fun z=>hx (r1.iY.mp z)) (fun z=>⟨.ref a,H,I,rfl,q1 (r2.iY.mp z)⟩) (fun z=>?_) (by rw[← r1.length,← r2.length];exact hz)
 refine ⟨.ref s.heap.objs.size,_,I.laid (t':=s.toks) (o:=.tup (xs++ys)) (fun b ob q=>OA _ q) (OE _) ?_,rfl,q2 (fun w=>z (r2.iY.mpr w)) _ (I.hok.fresh (OE _))⟩
 exact ⟨by rw[OS];exact hz,_,r1.append r2,IsTup.new _ _⟩
end
end L2
namespace L2
open PySem PySem.Spec PyProof.Rows
noncomputable def ixN (n:Nat) (i:Int):Option Nat:=if 0<=i then (if i < n then some i.toNat else none) else if -(n:Int)<=i then some (i+n).toNat else none
noncomputable def atI {α:Type} (xs:List α) (i:Int):Option α:=(ixN xs.length i).bind fun j=>xs[j]?
theorem sj {n:Nat}{i:Int}{j:Nat} (h:ixN n i=some j):seqIndex? i n=some j/\j < n/\-(n:Int)<=i/\i < n:=by
 unfold ixN at h
 by_cases h0:0<=i
 ·rw[if_pos h0] at h
  by_cases h1:i < n
  ·rw[if_pos h1] at h
   have e:i.toNat=j:=OP h
   exact ⟨by rw[seqIndex_of h0 h1,e],by omega,by omega,h1⟩
  ·rw[if_neg h1] at h;cases h
 ·rw[if_neg h0] at h
  by_cases h1:-(n:Int)<=i
  ·rw[if_pos h1] at h
   have e:(i+n).toNat=j:=OP h
   exact ⟨by rw[seqIndex_neg (by omega) h1,e],by omega,h1,by omega⟩
  ·rw[if_neg h1] at h;cases h
theorem nA {α:Type}{xs:List α}{i:Int}{v:α} (h:atI xs i=some v):∃ j,seqIndex? i xs.length=some j/\xs[j]?=some v/\j < xs.length/\-(xs.length:Int)<=i/\i < xs.length:=by
 unfold atI at h
 cases e:ixN xs.length i with
 | none=>rw[e] at h;cases h
 | some j =>
  rw[e] at h
  obtain ⟨h1,h2,h3,h4⟩:=sj e
  exact ⟨j,h1,h,h2,h3,h4⟩
noncomputable def su (b:Ru):Prop:=∀ o i,subscripted b false o i=operate [o,i] (T7 o i)
noncomputable def IxR (X:Cx) (r:R2):Prop :=
 ∀ (value slice:Ru) (pins:List (Addr×Obj)) (s:OB) (σ:St) (H:Hp) (x y:V) (v u:Oz) (Q:VK),Inv X pins σ H s->RelV x v->RelV y u->r x y H Q →
  subscripted slice false v u=operate [v,u] (T7 v u)->wpAny (OY X.prog X.w) X.A (Va value slice v u) (EP X pins σ Q) X.xe s
noncomputable def MtR (X:Cx) (id:String) (r:V->List V->Hp->VK->Prop):Prop :=
 ∀ (pins:List (Addr×Obj)) (s:OB) (σ:St) (H:Hp) (x:V) (xs:List V) (v:Oz) (us:List Oz) (Q:VK),Inv X pins σ H s->RelV x v->aq xs us->r x xs H Q →
  wpAny (OY X.prog X.w) X.A (call (.builtin id) (v :: us)) (EP X pins σ Q) X.xe s
section
variable {X:Cx}{a b:Ru}{ta tb:TE}{pos:Pos}
theorem Iz {r:R2} (hr:IxR X r) (ha:PE X a ta) (hb:PE X b tb) (hs:su b):PE X (.Subscript a b pos) (tOp r ta tb):=by
 intro pins s σ H Q I h
 exact Subscript_ (Ey ha hb I h fun v u s2 x y H2 I2 rx ry q=>hr a b pins s2 σ H2 x y v u Q I2 rx ry q (hs _ _))
noncomputable def Mf (K:Ow):R2:=fun x y H Q=>∃ p xs i v,x=.ref p/\y=.int i/\SqL K H p xs/\atI xs i=some v/\Q v H
noncomputable def Mg (K:Ow):R2:=fun x y H Q=>∃ p xs i v,x=.ref p/\y=.int i/\SqT K H p xs/\atI xs i=some v/\Q v H
noncomputable def Mh:R2:=fun x y H Q=>∃ z i c,x=.str z/\y=.int i/\z.length<=sizeLine/\atI z.cps.toList i=some c/\Q (.str ⟨#[c]⟩) H
theorem A6:IxR X (Mf X.K):=by
 intro value slice pins s σ H x y v u Q I rx ry h hs
 obtain ⟨p,xs,i,z,rfl,rfl,hq,he,q⟩:=h
 cases rx
 obtain ⟨t,rfl⟩:=ry
 obtain ⟨its,r,pl,hz⟩:=I.list hq
 obtain ⟨j,h1,h2,h3,h4,h5⟩:=nA he
 obtain ⟨w,ew,rw'⟩:=r.get h2
 have hl:=r.length
 have hn:=jE
 have fin:EP X pins σ Q w s:=⟨z,H,I,rw',q⟩
 by_cases h0:0<=i
 ·have hj:i.toNat=j:=by
   rw[seqIndex_of h0 h5] at h1
   exact OP h1
  exact item_listR pl.isList h0 (by omega) (by rw[hj];simpa using ew) fin hs
 ·have hj:(i+(its.toArray.size:Int)).toNat=j:=by
   rw[seqIndex_neg (by omega) h4] at h1
   rw[OD,← hl]
   exact OP h1
  exact subscriptTail_builtinR (x:=w) pl.isList.typeIs slot_list_getitem.lookup
   (wpAny_getItem_list_neg (Q:=fun r s'=>r=w/\EP X pins σ Q r s') pl.isList (by omega) (by rw[OD]<;>omega) (by omega) (by rw[hj];simpa using ew) ⟨rfl,fin⟩) hs
theorem EN:IxR X (Mg X.K):=by
 intro value slice pins s σ H x y v u Q I rx ry h hs
 obtain ⟨p,xs,i,z,rfl,rfl,hq,he,q⟩:=h
 cases rx
 obtain ⟨t,rfl⟩:=ry
 obtain ⟨its,r,pl,hz⟩:=I.tuple hq
 obtain ⟨j,h1,h2,h3,h4,h5⟩:=nA he
 obtain ⟨w,ew,rw'⟩:=r.get h2
 have hl:=r.length
 have hn:=jE
 have fin:EP X pins σ Q w s:=⟨z,H,I,rw',q⟩
 exact subscriptTail_builtinR (x:=w) pl.typeIs slot_tuple_getitem.lookup
  (getItem_tuple (j:=j) (Q:=fun r s'=>r=w/\EP X pins σ Q r s') pl (by omega) (by omega) (by rw[OD,← hl];exact h1) (by simpa using ew) ⟨rfl,fin⟩) hs
theorem EO:IxR X Mh:=by
 intro value slice pins s σ H x y v u Q I rx ry h hs
 obtain ⟨z,i,c,rfl,rfl,hz,he,q⟩:=h
 obtain ⟨t,rfl⟩:=rx
 obtain ⟨t',rfl⟩:=ry
 obtain ⟨j,h1,h2,h3,h4,h5⟩:=nA he
 have hl:z.cps.toList.length=z.length:=by simp[Str.length]
 rw[hl] at h1 h4 h5
 have hn:=jE
 exact tail_any (typeIs_str s z t) slot_str_getitem.lookup (getItem_str (c:=c) (by
  have e1:decide (i < -(2 ^ 63:Int))=false:=decide_eq_false (by omega)
  have e2:decide (i ≥ 2 ^ 63)=false:=decide_eq_false (by omega)
  rw[e1,e2,S9]) (by rw[h1];simpa using h2) ⟨.str ⟨#[c]⟩,H,I.tok _,⟨_,rfl⟩,q⟩) hs
theorem qU (its:List Oz) (n j:Nat) (u:Oz):Qe (·.setIfInBounds j u) { cls:=.type "list",data:=.seq its.toArray n }={ cls:=.type "list",data:=.seq (its.set j u).toArray n }:=by
 simp[Qe]
theorem Inv.lst {pins:List (Addr×Obj)}{σ:St}{H:Hp}{s:OB}{p:Addr}{xs:List V} (I:Inv X pins σ H s) (h:H p=some (.lst xs)) :
 ∃ (its:List Oz) (n:Nat),aq xs its/\s.heap.get? p=some { cls:=.type "list",data:=.seq its.toArray n }/\xs.length<=sizeLine:=by
 obtain ⟨z,its,n,r,e⟩:=I.hok p _ h
 exact ⟨its,n,r,e,z⟩
theorem Inv.ER {pins:List (Addr×Obj)}{σ:St}{H:Hp}{s:OB}{p:Addr}{xs ys:List V}{its its':List Oz}{n n':Nat}{f:Obj->Obj} (I:Inv X pins σ H s) (h:H p=some (.lst xs))
 (ho:s.heap.get? p=some { cls:=.type "list",data:=.seq its.toArray n }) (hf:f { cls:=.type "list",data:=.seq its.toArray n }={ cls:=.type "list",data:=.seq its'.toArray n' }) (r:aq ys its') (hz:ys.length<=sizeLine) (t:Nat) :
 Inv X pins σ (upd H p (.lst ys)) { s with heap:=s.heap.update p f,toks:=t }:=by
 have e:(s.heap.update p f).get? p=some { cls:=.type "list",data:=.seq its'.toArray n' }:=by
  rw[Pb f ho (by rw[hf]<;>rfl),hf]
 refine I.write (x:=p) (e:=p) (by rw[h];trivial) (.inl rfl) (fun b u hb q=>(Qj _ _ (PD hb)).trans q) ⟨_,e⟩ ?_
 exact ⟨hz,its',n',r,e⟩
noncomputable def DM:V->V->V->Hp->(Hp->Prop)->Prop:=fun o i v H Q=>∃ p xs k j,o=.ref p/\i=.int k/\H p=some (.lst xs)/\ixN xs.length k=some j/\Q (upd H p (.lst (xs.set j v)))
theorem set_list:Eo X DM:=by
 intro pins s σ H o i v ov iv u Q I ro ri rv h
 obtain ⟨p,xs,k,j,rfl,rfl,hp,hj,q⟩:=h
 cases ro
 obtain ⟨t,rfl⟩:=ri
 obtain ⟨its,n,r,ho,hz⟩:=I.lst hp
 obtain ⟨h1,h2,h3,h4⟩:=sj hj
 have hl:=r.length
 have hn:=jE
 have I':Inv X pins σ (upd H p (.lst (xs.set j v))) { s with heap:=s.heap.update p (Qe (·.setIfInBounds j u)) } :=
  I.ER hp ho (qU its n j u) (r.set rv j) (by rw[List.length_set];exact hz) s.toks
 by_cases h0:0<=k
 ·have hk:k.toNat=j:=by
   rw[seqIndex_of h0 h4] at h1
   exact OP h1
  exact PySem.W.ki_setAt ho h0 (by omega) (by rw[OD,← hl];exact h4) (by rw[hk];exact ⟨_,I',q⟩)
 ·have hk:(k+(its.toArray.size:Int)).toNat=j:=by
   rw[seqIndex_neg (by omega) h3] at h1
   rw[OD,← hl]
   exact OP h1
  exact PySem.W.ki_setBack ho (by omega) (by rw[OD,← hl];exact h3) (by omega) (by rw[hk];exact ⟨_,I',q⟩)
theorem nB (lo hi:Option Int) (n:Nat):(Pa lo hi none n).1=((HT.sIx n 0 lo:Nat):Int)/\(Pa lo hi none n).2.1=((HT.sIx n n hi:Nat):Int)/\(Pa lo hi none n).2.2=1:=by
 refine ⟨?_,?_,rfl⟩
 ·cases lo with
  | none=>simp[Pa,HT.sIx]
  | some i =>
   simp only[Pa,HT.sIx,Vj,show (1:Int) > 0 by decide,if_true]
   by_cases h:i < 0
   ·simp only[h,if_true]<;>omega
   ·simp only[h,if_false]<;>omega
 ·cases hi with
  | none=>simp[Pa,HT.sIx]
  | some i =>
   simp only[Pa,HT.sIx,Vj,show (1:Int) > 0 by decide,if_true]
   by_cases h:i < 0
   ·simp only[h,if_true]<;>omega
   ·simp only[h,if_false]<;>omega
theorem lU (its:List Oz) (lo hi:Option Int):slicePick its.toArray lo hi none=((its.drop (HT.sIx its.length 0 lo)).take (HT.sIx its.length its.length hi - HT.sIx its.length 0 lo)).toArray:=by
 obtain ⟨h1,h2,h3⟩:=nB lo hi its.toArray.size
 unfold slicePick
 rw[h1,h2,h3]
 simp only[sliceRange_one,pick_run,OD]<;>rfl
noncomputable def Mi (K:Ow):V->Option Int->Option Int->Hp->VK->Prop:=fun x lo hi H Q=>∃ a xs,x=.ref a/\SqL K H a xs/\∀ p,H p=none->Q (.ref p) (upd H p (.lst (pC xs lo hi)))
theorem A7:SlR X (Mi X.K):=by
 intro pins s σ H x v vl vu lo hi sl Q I rx hs pl pu h
 obtain ⟨a,xs,rfl,hx,q⟩:=h
 cases rx
 obtain ⟨its,r,ht,hz⟩:=I.list hx
 have hlen:=r.length
 refine ⟨"list",_,slot_list_getitem.lookup,ht.isList.typeIs,?_⟩
 refine UX ht.isList hs pl pu .none (by simp) ?_ (by rw[OD]<;>omega)
 rw[lU,← hlen]
 refine ⟨.ref s.heap.objs.size,_,I.laid (t':=s.toks) (o:=.lst (pC xs lo hi)) (fun b ob q=>OA _ q) (OE _) ?_,rfl,q _ (I.hok.fresh (OE _))⟩
 exact ⟨Ph (jW xs lo hi) hz,_,0,(r.drop (HT.sIx xs.length 0 lo)).take (HT.sIx xs.length xs.length hi - HT.sIx xs.length 0 lo),OI _ rfl⟩
theorem iZ:cS X (.builtin "len") (fun xs H Q=>∃ p ys,xs=[.ref p]/\(SqL X.K H p ys\/SqT X.K H p ys)/\Q (.int ys.length) H):=by
 intro pins s σ H xs us Q I r h
 obtain ⟨p,ys,rfl,hq,q⟩:=h
 obtain ⟨u,rfl,rx⟩:=vals1 r
 cases rx
 have hn:=jE
 rcases hq with hq | hq
 ·obtain ⟨its,r',pl,hz⟩:=I.list hq
  have hlen:=r'.length
  exact Calls.call_len_list pl.isList (by simp only[OD]<;>omega) ⟨.int ys.length,H,I.tok _,⟨s.toks+1,by rw[OD,hlen]⟩,q⟩
 ·obtain ⟨its,r',pl,hz⟩:=I.tuple hq
  have hlen:=r'.length
  exact len_tuple pl (by simp only[OD]<;>omega) ⟨.int ys.length,H,I.tok _,⟨s.toks+1,by rw[OD,hlen]⟩,q⟩
theorem nC:cS X (.builtin "len") (fun xs H Q=>∃ z,xs=[.str z]/\z.length<=sizeLine/\Q (.int z.length) H):=by
 intro pins s σ H xs us Q I r h
 obtain ⟨z,rfl,hz,q⟩:=h
 obtain ⟨u,rfl,t,rfl⟩:=vals1 r
 have hn:=jE
 exact len_str (by omega) ⟨.int z.length,H,I.tok _,⟨_,rfl⟩,q⟩
theorem i6:cS X (.type "list") (fun xs H Q=>∃ p ys,xs=[.ref p]/\(SqL X.K H p ys\/SqT X.K H p ys)/\∀ l,H l=none->Q (.ref l) (upd H l (.lst ys))):=by
 intro pins s σ H xs us Q I r h
 obtain ⟨p,ys,rfl,hq,q⟩:=h
 obtain ⟨u,rfl,rx⟩:=vals1 r
 cases rx
 have fin:∀ (its:List Oz),aq ys its->ys.length<=sizeLine->∀ (h':Heap) (c':Nat),(∀ b o',s.heap.get? b=some o'->h'.get? b=some o') →
  h'.get? s.heap.objs.size=some { cls:=.type "list",dict:=none,data:=.seq its.toArray c',slots:=#[] }->EP X pins σ Q (.ref s.heap.objs.size) { s with heap:=h' }:=fun its r' hz h' c' kp e =>
  ⟨.ref s.heap.objs.size,_,I.laid (t':=s.toks) kp (OE _) (show cC X.prog X.w _ h' _ (.lst ys) from ⟨hz,its,c',r',e⟩),rfl,q _ (I.hok.fresh (OE _))⟩
 rcases hq with hq | hq
 ·obtain ⟨its,r',pl,hz⟩:=I.list hq
  have hlen:=r'.length
  obtain ⟨o,ho,hc,n,hd⟩:=pl.isList
  exact call_list_seq p (.inl rfl) ho hc hd (fun h' c' kp e=>fin its r' hz h' c' kp e) (by simp only[OD]<;>omega)
 ·obtain ⟨its,r',pl,hz⟩:=I.tuple hq
  have hlen:=r'.length
  obtain ⟨o,ho,hc,n,hd⟩:=pl
  exact call_list_seq p (.inr rfl) ho hc hd (fun h' c' kp e=>fin its r' hz h' c' kp e) (by simp only[OD]<;>omega)
theorem iz:cS X (.type "tuple") (fun xs H Q=>∃ p ys,xs=[.ref p]/\((SqL X.K H p ys/\∀ l,H l=none->Q (.ref l) (upd H l (.tup ys)))\/(SqT X.K H p ys/\Q (.ref p) H))):=by
 intro pins s σ H xs us Q I r h
 obtain ⟨p,ys,rfl,h⟩:=h
 obtain ⟨u,rfl,rx⟩:=vals1 r
 cases rx
 rcases h with ⟨hq,q⟩ | ⟨hq,q⟩
 ·obtain ⟨its,r',pl,hz⟩:=I.list hq
  have hlen:=r'.length
  refine call_tuple_list pl.isList (fun h' kp=>?_) (by simp only[OD]<;>omega)
  have I1:Inv X pins σ H { s with heap:=h' }:=I.kept (t':=s.toks) kp
  have I2:Inv X pins σ (upd H h'.objs.size (.tup ys)) { s with heap:=h'.push { cls:=.type "tuple",data:=.seq its.toArray } } :=
   I1.laid (t':=s.toks) (fun b o e=>OA _ e) (OE _) (show cC X.prog X.w _ _ _ (.tup ys) from ⟨hz,its,r',IsTup.new _ _⟩)
  exact ⟨.ref h'.objs.size,_,I2,rfl,q _ (I1.hok.fresh (OE _))⟩
 ·obtain ⟨its,r',pl,hz⟩:=I.tuple hq
  exact call_tuple_same pl ⟨.ref p,H,I,rfl,q⟩
noncomputable def tyV (K:Ow) (T:String) (x:V) (H:Hp):Prop:=match x with
 | .str _=>T="str"
 | .int _=>T="int"
 | .ref p=>(T="list"/\∃ xs,SqL K H p xs)\/(T="tuple"/\∃ o,K.lookup p=some o/\o.cls=.type "tuple"/\o.dict=none) ∨
  (T="dict"/\((∃ kvs,H p=some (.dK kvs))\/∃ kvs,H p=some (.dT kvs)))\/(T="set"/\∃ S n,H p=some (.set S n))
 | _=>False
theorem qV {pins:List (Addr×Obj)}{σ:St}{H:Hp}{s:OB}{T:String}{x:V}{v:Oz} (I:Inv X pins σ H s) (r:RelV x v) (ty:tyV X.K T x H) :
 s.TypeIs v T/\∀ a,v=.ref a->∃ ob,s.heap.get? a=some ob/\ob.dict=none:=by
 cases x with
 | str z =>
  obtain ⟨t,rfl⟩:=r
  cases (show T="str" from ty)
  exact ⟨typeIs_str s z t,fun _ e=>nomatch e⟩
 | int i =>
  obtain ⟨t,rfl⟩:=r
  cases (show T="int" from ty)
  exact ⟨typeIs_int s i t,fun _ e=>nomatch e⟩
 | ref p =>
  cases r
  rcases ty with ⟨rfl,xs,hq⟩ | ⟨rfl,o,hk,hc,hd⟩ | ⟨rfl,hk⟩ | ⟨rfl,S,n,hk⟩
  ·obtain ⟨its,_,pl,_⟩:=I.list hq
   refine ⟨pl.isList.typeIs,fun a e=>?_⟩
   cases e
   obtain ⟨o,n,e,c,hd,_⟩:=pl
   exact ⟨o,e,hd⟩
  ·refine ⟨⟨o,I.kIn p o hk,hc⟩,fun a e=>?_⟩
   cases e
   exact ⟨o,I.kIn _ o hk,hd⟩
  ·have z:∃ o,s.heap.get? p=some o/\o.ExactDict:=by
    rcases hk with ⟨kvs,hk⟩ | ⟨kvs,hk⟩
    ·obtain ⟨_,_,_,_,o,_,_,e,ex,_⟩:=I.hok p _ hk
     exact ⟨o,e,ex⟩
    ·obtain ⟨_,_,_,_,o,_,_,e,ex,_⟩:=I.hok p _ hk
     exact ⟨o,e,ex⟩
   obtain ⟨o,e,ex⟩:=z
   refine ⟨⟨o,e,ex.1⟩,fun a e2=>?_⟩
   cases e2
   exact ⟨o,e,ex.2.1⟩
  ·obtain ⟨o,_,_,_,e,ex,_⟩:=I.hok p _ hk
   refine ⟨⟨o,e,ex.1⟩,fun a e2=>?_⟩
   cases e2
   exact ⟨o,e,ex.2.1⟩
 | _=>exact Pn ty
noncomputable def Mj (K:Ow) (T:String) (r:V->List V->Hp->VK->Prop) (to:TE):TE:=fun σ H Q=>to σ H fun x H1=>tyV K T x H1/\r x [] H1 Q
noncomputable def tBM (K:Ow) (T:String) (r:V->List V->Hp->VK->Prop) (to:TE) (t:TA):TE:=fun σ H Q=>to σ H fun x H1=>tyV K T x H1/\t σ H1 fun xs H2=>r x xs H2 Q
variable {o e:Ru}{es:List Ru}{to:TE}{t:TA}{name:Str}{apos cpos:Pos}{T id:String}{r:V->List V->Hp->VK->Prop}
theorem ES (pa:PlainAttrs T) (slot:Slot T name id) (hty:typeOf (.builtin id)=pure (.type "method_descriptor")) (hm:MtR X id r) (ho:PE X o to)
 (hbase:Sw o name X.env (eval o X.env)=eval o X.env:=by rfl) (hline:(apos.endLine==cpos.line)=true:=by rfl):PE X (.Call (.Attribute o name apos) [] [] cpos) (Mj X.K T r to):=by
 intro pins s σ H Q I h
 refine U9 hbase hline (thn (ho pins s σ H _ I h) fun v s1 zq=>?_)
 obtain ⟨x,H1,I1,r1,ty,q1⟩:=zq
 obtain ⟨h1,h2⟩:=qV I1 r1 ty
 exact ⟨T,id,pa,slot,hty,h1,h2,Si rfl (UT (hm pins s1 σ H1 x [] v [] Q I1 r1 .nil q1))⟩
theorem DN (pa:PlainAttrs T) (slot:Slot T name id) (hty:typeOf (.builtin id)=pure (.type "method_descriptor")) (hm:MtR X id r) (ho:PE X o to) (ha:PA X (e :: es) t)
 (hbase:Sw o name X.env (eval o X.env)=eval o X.env:=by rfl)
 (hfew:((QE cpos (O4 (e :: es) X.env)).all (fun x=>!x.1)&&(SZ cpos (Rq [] X.env)).all (fun x=>x.1.isSome)
 &&decide ((e :: es).length+([]:List Tt).length+(if ([]:List Tt).isEmpty then 0 else 1) < 30))=true:=by rfl)
 (hline:(apos.endLine==cpos.line)=true:=by rfl) (hs:O4 (e :: es) X.env=(false,eval e X.env) :: O4 es X.env:=by rfl) (hplain:(QE cpos (O4 es X.env)).any (·.1)=false:=by rfl) :
 PE X (.Call (.Attribute o name apos) (e :: es) [] cpos) (tBM X.K T r to t):=by
 intro pins s σ H Q I h
 refine wpAny_Call_method_late hbase hfew hline rfl (thn (ho pins s σ H _ I h) fun v s1 zq=>?_)
 obtain ⟨x,H1,I1,r1,ty,q1⟩:=zq
 obtain ⟨h1,h2⟩:=qV I1 r1 ty
 refine ⟨T,id,pa,slot,hty,h1,h2,?_⟩
 have hA:=ha cpos pins s1 σ H1 _ I1 q1
 rw[hs] at hA ⊢
 refine Si (by show (false||(QE cpos (O4 es X.env)).any (·.1))=false;rw[hplain]<;>rfl) (Calls.evalArgs_plain ?_)
 exact thn hA fun us s2 ⟨vs,H2,I2,r2,q2⟩=>hm pins s2 σ H2 x vs v us Q I2 r1 r2 q2
/- xs.append(e),list.index on a module's tuple .. are MtR facts of 06m -/
end
end L2
namespace L2
open PySem PySem.Spec PyProof.Rows
noncomputable def MtM (X:Cx) (id:String) (r:V->List V->Hp->VK->Prop):Prop :=
 ∀ (pins:List (Addr×Obj)) (s:OB) (σ:St) (H:Hp) (x:V) (xs:List V) (v:Oz) (us:List Oz) (Q:VK),Inv X pins σ H s->RelV x v->aq xs us->r x xs H Q →
  wpAny (OY X.prog X.w) X.A (call (.builtin id) (v :: us)) (EP X pins σ Q) X.xe s
theorem aq.one {x:V}{us:List Oz} (h:aq [x] us):∃ u,us=[u]/\RelV x u:=by
 cases h with | cons r t=>cases t;exact ⟨_,rfl,r⟩
theorem aq.two {x y:V}{us:List Oz} (h:aq [x,y] us):∃ u v,us=[u,v]/\RelV x u/\RelV y v:=by
 cases h with | cons r t=>obtain ⟨v,rfl,q⟩:=aq.one t;exact ⟨_,v,rfl,r,q⟩
theorem aq.zero:∀ {us:List Oz},aq [] us->us=[]
 | _,.nil=>rfl
theorem aq.dropLast {xs:List V}{us:List Oz} (h:aq xs us):aq xs.dropLast us.dropLast:=by
 induction h with
 | nil=>exact .nil
 | cons r t ih =>
  cases t with
  | nil=>exact .nil
  | cons q t'=>exact .cons r ih
theorem aq.rep {xs:List V}{us:List Oz} (h:aq xs us):∀ k:Nat,aq (OX k xs).flatten (OX k us).flatten
 | 0=>.nil
 | k+1=>by
  rw[Qg,Qg,QT,QT]
  exact aq.append h (aq.rep h k)
theorem qW {α:Type} (l:List α):l.eraseIdx (l.length - 1)=l.dropLast:=by
 induction l with
 | nil=>rfl
 | cons a r ih =>
  cases r with
  | nil=>rfl
  | cons b r =>
   have e:(a :: b :: r).length - 1=((b :: r).length - 1)+1:=by
    have h1:(a :: b :: r).length=r.length+2:=rfl
    have h2:(b :: r).length=r.length+1:=rfl
    omega
   rw[e,List.eraseIdx_cons_succ,ih]
   all_goals rfl
theorem foldl_rep (its:List Oz):∀ (k:Nat) (acc:List Oz),
 Uq (fun x1 x2=>x1++x2) acc.toArray (OX k its.toArray)=(acc++(OX k its).flatten).toArray
 | 0,acc=>by simp
 | k+1,acc=>by
  have e:acc.toArray++its.toArray=(acc++its).toArray:=by simp
  have e2:(acc++its)++(OX k its).flatten=acc++(OX (k+1) its).flatten:=by
   rw[Qg,QT,PF]
  rw[← e2,← foldl_rep its k (acc++its),← e,Qg,List.foldl_cons]
section
variable {X:Cx}{pins:List (Addr×Obj)}{σ:St}{H:Hp}{s:OB}{l b:Addr}{xs ys zs:List V}
theorem Inv.A8 {its its':List Oz}{n:Nat}{f:Array Oz->Array Oz}{t':Nat} (I:Inv X pins σ H s) (hH:H l=some (.lst xs))
 (e:s.heap.get? l=some { cls:=.type "list",data:=.seq its.toArray n }) (hf:f its.toArray=its'.toArray) (hv:aq ys its') (hz:ys.length<=sizeLine) :
 Inv X pins σ (upd H l (.lst ys)) { s with heap:=s.heap.update l (Qe f),toks:=t' }:=by
 have q:=PySem.IsL.update e f
 rw[hf] at q
 refine I.write (x:=l) (e:=l) (by rw[hH];exact trivial) (.inl rfl) (fun b' u hb hu=>(Qj s.heap (Qe f) (PD hb)).trans hu) ⟨_,q⟩ ?_
 exact ⟨hz,its',_,hv,q⟩
theorem Inv.IA {its:List Oz}{t':Nat} (I:Inv X pins σ H s) (hv:aq ys its) (hz:ys.length<=sizeLine) :
 Inv X pins σ (upd H s.heap.objs.size (.lst ys)) { s with heap:=s.heap.push { cls:=.type "list",data:=.seq its.toArray },toks:=t' } :=
 I.laid (fun _ _ q=>OA _ q) (OE _) ⟨hz,its,0,hv,OI _ rfl⟩
theorem Inv.fresh (I:Inv X pins σ H s):H s.heap.objs.size=none:=I.hok.fresh (OE _)
theorem Inv.A9 (I:Inv X pins σ H s) (hH:H l=some (.lst xs)):xs.length<=sizeLine/\∃ (its:List Oz) (n:Nat),aq xs its/\xs.length=its.length/\s.heap.get? l=some { cls:=.type "list",data:=.seq its.toArray n }:=by
 obtain ⟨z,its,n,r,e⟩:=I.hok l _ hH
 exact ⟨z,its,n,r,r.length,e⟩
theorem kM {n:Nat} (h:n<=sizeLine):P0 n=false:=by
 unfold P0
 exact decide_eq_false (by omega)
end
section
variable {X:Cx}
noncomputable def Ba:V->List V->Hp->VK->Prop:=fun x vs H Q=>∃ l xs y,x=.ref l/\vs=[y]/\H l=some (.lst xs)/\xs.length < sizeLine/\Q .non (upd H l (.lst (xs++[y])))
theorem vc:MtM X "list.append" Ba:=by
 intro pins s σ H x vs v us Q I rx rv h
 obtain ⟨l,xs,y,rfl,rfl,hH,hz,q⟩:=h
 cases rx
 obtain ⟨u,rfl,ru⟩:=rv.one
 obtain ⟨z,its,n,r,hl,e⟩:=I.A9 hH
 refine Rt F.slot_list_append ⟨_,e,rfl⟩ F.entry_list_append (F.args_list_append_2 _ _) (PySem.list_append l its.toArray n u (by rw[OD];omega)) ⟨e,?_⟩
 refine ⟨.non,_,I.A8 (its':=its++[u]) hH e (by simp) (r.append (.cons ru .nil)) ?_,rfl,q⟩
 rw[OS,Pv]
 omega
noncomputable def Ml:V->List V->Hp->VK->Prop:=fun x vs H Q=>∃ l xs y,x=.ref l/\vs=[]/\H l=some (.lst xs)/\xs[xs.length - 1]?=some y/\Q y (upd H l (.lst xs.dropLast))
theorem ET:MtM X "list.pop" Ml:=by
 intro pins s σ H x vs v us Q I rx rv h
 obtain ⟨l,xs,y,rfl,rfl,hH,hy,q⟩:=h
 cases rx
 have hus:=rv.zero
 subst hus
 obtain ⟨z,its,n,r,hl,e⟩:=I.A9 hH
 obtain ⟨u,hu,ru⟩:=r.get hy
 have hy':its.toArray[its.toArray.size - 1]?=some u:=by
  show its.toArray[its.length - 1]?=some u
  rw[← UJ,← hl]
  exact hu
 refine Rt F.slot_list_pop ⟨_,e,rfl⟩ F.entry_list_pop (F.args_list_pop_1 _) (MeetsSeq.list_pop_last l its.toArray n u hy' (by rw[OD];omega)) ⟨e,?_⟩
 refine ⟨y,_,I.A8 (its':=its.dropLast) hH e ?_ r.dropLast ?_,ru,q⟩
 ·show its.toArray.eraseIdxIfInBounds (its.toArray.size - 1)=its.dropLast.toArray
  rw[OD,List.eraseIdxIfInBounds_toArray,qW]
 ·rw[PP]
  omega
theorem len_rep {α:Type} (xs:List α) (k:Nat):(OX k xs).flatten.length=k*xs.length:=by
 induction k with
 | zero=>simp
 | succ k ih=>rw[Qg,QT,OS,ih,Nat.succ_mul,Nat.add_comm]
end
section
variable {prog:OO}{w:O6}{A:PL}{E:Oz->OB->Prop}{s:OB}
set_option maxRecDepth 100000 in
end
section
variable {X:Cx}
end
end L2
namespace Att
open PySem PySem.W PySem.Calls PyProof.Rows
theorem j5 {P:Params}{h:Heap}:∀ (ns:List Int) (vs:List Oz),WellAll P h vs (ns.map WData.int)->RX vs ns:=by
 intro ns
 induction ns with
 | nil =>
  intro vs w
  rw[QK] at w
  cases w
  exact .nil
 | cons n ns ih =>
  intro vs w
  rw[O0] at w
  cases w with
  | cons a b =>
   cases a
   exact .cons _ _ (ih _ b)
theorem vd {l:OpenLaw}{n:Nat} (hn:l.most=some n) {P:Params}{h:Heap}{args:List WData}{vals:List Oz}
 (hpre:l.row.toRowW.claim.pre args=true) (hwl:WellAll P h vals args) :
 ∃ a vs ns,vals=[Pu a]/\args=[WData.list (ns.map WData.int)]/\h.get? a=some { cls:=.type "list",data:=.seq vs.toArray }/\RX vs ns/\ns.length<=n:=by
 have hsh:WShape.hasAll [] args [.list .int]=true:=(pre_splitW hpre).1
 have hc:l.pre.holds [] { args:=args }=true:=(pre_splitW hpre).2
 obtain ⟨d,r,rfl,h1,h2⟩:=hasAllW_cons hsh
 obtain rfl:=hasAllW_nil h2
 obtain ⟨xs,rfl,h3⟩:=hasW_list h1
 obtain ⟨ns,rfl⟩:=items_int h3
 have hlen:ns.length<=n:=by
  unfold OpenLaw.pre at hc
  have h4:(WTm.not (.lt (.lit (.int (n:Int))) (.len (.arg 0)))).holds [] { args:=[.list (ns.map .int)] }=true:=by
   have h4:=(holds_andW hc).1
   rw[hn] at h4
   exact h4
  have h5:=condW_of h4 (w_not (w_lt w_lit (w_len_list (w_arg rfl))))
  rw[OQ] at h5
  refine Nat.le_of_not_lt fun q=>?_
  have q':(n:Int) < ((ns.length:Nat):Int):=by omega
  first
   | (rw[decide_eq_true q'] at h5;exact absurd h5 (by decide))
   | (simp at h5;omega)
 cases hwl with
 | cons w1 w2 =>
  cases w2
  cases w1 with
  | list ho hall=>exact ⟨_,_,ns,rfl,rfl,ho,j5 ns _ hall,hlen⟩
theorem ve (l:OpenLaw) (args:List WData):l.row.toRowW.claim.post args (.bool true) args=true :=
 postW_of (r:=l.row.toRowW) (X:=(true==true))
  (show WShape.has [] (.bool true) .bool=true by first | rfl | decide | simp[WShape.has,WShape.arms,WShape.armsAll])
  (show (WTm.eq .res (.lit (.bool true))).value [] { args:=args,res:=some (.bool true),after:=args }=some (.bool (true==true)) from w_eq_bool (w_res rfl) w_lit) rfl
theorem pF {l:OpenLaw}{n:Nat}{q:OO}{loose:List Str}{XP:(Str->Option Oz)->Heap->Prop}{YP:O6->Heap->Prop}{d:DefRec}
 (hn:l.most=some n) (hdf:d.params.defaults=[])
 (call:∀ (w:O6) (s₀ s₁:OB) (mg mb:Str->Option Oz) (fa:Addr) (o:Obj) (pm cd doc:Oz) (a:Addr) (vs:List Oz) (ns:List Int),
  Ground q loose [] XP w s₀ mg mb s₁.heap->YP w s₁.heap →
  s₁.heap.get? fa=some o->o.data=.func (docDef d.name d.params d.body d.scope pm cd doc)->s₁.heap.CodeRec cd d.name->mg d.name=some (.ref fa) →
  s₁.heap.get? a=some { cls:=.type "list",data:=.seq vs.toArray }->RX vs ns->ns.length<=n->s₁.gens=#[] →
  codeAny (OY l.prog w) Ve (.call (.ref fa) ⟨[.ref a],[]⟩) (fun r s'=>r=.ok (.ret (.bool true))/\OldK s₁.heap s'.heap/\s'.os=s₁.os/\Ug s'.gens) s₁) :
 WalkO q loose XP YP l.row.toRowW d [] (fun f vs=>Vh f vs):=by
 intro w s₀ s₁ mg mb G Y fa o pm cd doc dV kV ho hd hcd hD hmg hg args vals as hpre hlay hrd hwl hlo
 obtain rfl:dV=.none:=Dflts.none hD hdf
 obtain rfl:kV=.none:=Dflts.noKw hD
 obtain ⟨a,vs,ns,rfl,rfl,hobj,hints,hlen⟩:=vd hn hpre hwl
 refine enter_call (codeAny_mono (call w s₀ s₁ mg mb fa o pm cd doc a vs ns G Y ho (fd_plain hd) hcd hmg hobj hints hlen hg) fun r s' hq=>?_)
 obtain ⟨rfl,h2,h3,h4⟩:=hq
 exact ⟨.inl ⟨.bool true,.bool true,[],rfl,fun _=>rfl,.bool true,ve l _,fun _=>⟨List.Pairwise.nil,fun _ hm=>(nomatch hm)⟩⟩,h2,h3,h4⟩
section
variable {prog:OO}{w:O6}{A:PL}{E:Oz->OB->Prop}{s:OB}{K:Frag}
noncomputable def ledger (h:Heap) (L d:Addr):List (Addr×Obj):=(O8 h.objs.size).filterMap fun a=>if a=L\/a=d then none else (h.get? a).map fun o=>(a,o)
end
end Att
namespace L2
open PySem PySem.Spec PyProof.Rows
theorem jG:∀ {vs:List Oz}{ns:List Int},RX vs ns->aq (ns.map V.int) vs
 | _,_,.nil=>.nil
 | _,_,.cons n t h=>.cons ⟨t,rfl⟩ (jG h)
end L2
namespace L2
open PySem PySem.Spec PyProof.Rows
noncomputable abbrev KOf {K:Ow}{h:Heap} (_:K.In h):Ow:=K
end L2
/- THE LAST THEOREM (shape;LID,My.* are yours):
 My.Adr: a structure of the addresses that your layer names (classes,functions);My.Txt K t: a structure (Prop) of the equations over K;
 My.txt_mk:{K}{implicit addresses ..} (e1:nsIn K OV "law"=some (some (.ref f))) (e2:K.lookup f=some ⟨oc,od,.func (fnOf "law" "law" params body scope dV kV doc pm an cdv ct),sl⟩) (e3:codeIn K cdv "law"=true) ..:∃ t,My.Txt K t
set_option maxRecDepth 100000 in
set_option maxHeartbeats 0 in
theorem PySem.Challenge.Bb:PySem.Challenge.rw_LID.Holds:=by
 w_on;o_law;k_head;(case hw=>w_witness2)
 k_fill
 refine L2.walk_of (l:=PySem.Challenge.rw_LID) (n:=63) (k:=40) (x:="script") (CX:=fun w=>..) (sp:=fun _=>My.Am) rfl (by decide) rfl ⟨rfl,by decide,by decide⟩ (fun w h Y=>PySem.W.kIn_of Y) ?F ?S ?C
 case F =>
  intro w mg fa h KX G hmg
  have T:∃ t,My.Txt (L2.KOf KX) t:=by
   dsimp only[L2.KOf]                          -- K must stand as «<heap const> w.params» for k_is
   refine' My.txt_mk ?e1 ?e2 ?e3 ..
   (case e1=>PySem.W.k_is)                    -- in the order: a name->its address->its object->its parts
   (case e2=>PySem.W.k_is)
   ..
  obtain ⟨t,T⟩:=T
  have e0:=hmg.symm.trans (Qx KX G T.law)
  cases e0                                       -- fa is the law's own address
  exact ⟨_,fun s u=>.of_eq rfl,fun base kb nb=>My.law_fn T kb nb⟩     -- if «.of_eq rfl» comes too early: refine' ⟨_,?b,fun base kb nb=>My.law_fn T kb nb⟩;exact fun s u=>.of_eq rfl
 case S=>exact fun w H a ns hl hO hS=>..
 case C=>exact ..
(the tactic k_is has no namespace: write k_is) -/
namespace L2
open PySem PySem.Spec PyProof.Rows
noncomputable abbrev CX0:CXT:=fun _ _ _ _ _ _=>False
noncomputable abbrev E0:XK:=fun _ _ _=>False
theorem kN {X:Cx}:fU CX0 X E0:=fun _ _ _ _ _ _ _ h=>h.elim
structure Fun (K:Ow) (x qual:Str) (st:Uh) (f:Addr) (fd:Qq):Prop where
 ex:∃ (oc:Oz) (od:Option Addr) (kV doc pm:Oz) (an:Option Addr) (cdv ct:Oz) (osl:Array (Option Oz)),
  fd=Qk x qual (cH st) (aL st) (ao st) .none kV doc pm an cdv ct/\K.lookup f=some ⟨oc,od,.func fd,osl⟩/\Ss K cdv qual=true
 kp:PZ K (.ref f)=true
section
variable {P:OO}{w:O6}{K:Ow}{mg:Str->Option Oz}{base:Heap}
theorem Fun.binds {x qual:Str}{st:Uh}{f:Addr}{fd:Qq}{ps:List Str} (F:Fun K x qual st f fd)
 (h:∀ (kV doc pm:Oz) (an:Option Addr) (cdv ct:Oz) (us:List Oz),us.length=ps.length->Us (Qk x qual (cH st) (aL st) (ao st) .none kV doc pm an cdv ct) ⟨us,[]⟩=pure (ps.zip us)):Binds K fd ps []:=by
 obtain ⟨oc,od,kV,doc,pm,an,cdv,ct,osl,rfl,lk,hcd⟩:=F.ex
 exact .all (h kV doc pm an cdv ct)
theorem EU {x qual:Str}{st:Uh}{f:Addr}{oc:Oz}{od an:Option Addr}{osl:Array (Option Oz)}{kV doc pm cdv ct:Oz} (l:K.lookup f=some ⟨oc,od,.func (Qk x qual (cH st) (aL st) (ao st) .none kV doc pm an cdv ct),osl⟩)
 (c:Ss K cdv qual=true) (k:PZ K (.ref f)=true):Fun K x qual st f (Qk x qual (cH st) (aL st) (ao st) .none kV doc pm an cdv ct):=⟨⟨oc,od,kV,doc,pm,an,cdv,ct,osl,rfl,l,c⟩,k⟩
end
theorem vf {n:Nat} (h:n<=1000):n < sizeLine:=Tf h (by decide)
section
variable {X:Cx}
end
end L2
end
section
namespace L2
open PySem PySem.Spec PyProof.Rows
section
variable {κ:Type} [DecidableEq κ]
noncomputable def putK (kvs:List (κ×V)) (k:κ) (v:V):List (κ×V) :=
 if (kvs.any fun kv=>decide (kv.1=k))=true then kvs.map (fun kv=>if kv.1=k then (kv.1,v) else kv) else kvs++[(k,v)]
theorem pG (kvs:List (κ×V)) (k:κ) (v:V):(putK kvs k v).length<=kvs.length+1:=by
 unfold putK
 split
 ·rw[OQ];omega
 ·rw[OS,OZ,PN];omega
theorem KV.any {kvs:List (κ×V)}{vs:List (κ×Oz)} (r:KV kvs vs) (k:κ):(kvs.any fun kv=>decide (kv.1=k))=vs.any fun kv=>decide (kv.1=k):=by
 unfold KV at r
 induction r with
 | nil=>rfl
 | cons h t ih=>rw[Rz,Rz,ih,h.1]
theorem KV.repl {kvs:List (κ×V)}{vs:List (κ×Oz)} (r:KV kvs vs) (k:κ) {y:V}{u:Oz} (ry:RelV y u) :
 KV (kvs.map fun kv=>if kv.1=k then (kv.1,y) else kv) (vs.map fun kv=>if kv.1=k then (kv.1,u) else kv):=by
 unfold KV at r ⊢
 induction r with
 | nil=>exact .nil
 | @cons p q ps qs h t ih =>
  rw[O0,O0]
  refine .cons ?_ ih
  obtain ⟨h1,h2⟩:=h
  by_cases e:p.1=k
  ·rw[if_pos e,if_pos (h1.symm.trans e)];exact ⟨h1,ry⟩
  ·rw[if_neg e,if_neg (fun z=>e (h1.trans z))];exact ⟨h1,h2⟩
theorem KV.put {kvs:List (κ×V)}{vs:List (κ×Oz)} (r:KV kvs vs) (k:κ) {y:V}{u:Oz} (ry:RelV y u):KV (putK kvs k y) (stored vs k u):=by
 unfold putK stored
 rw[r.any k]
 by_cases e:(vs.any fun kv=>decide (kv.1=k))=true
 ·rw[if_pos e,if_pos e];exact r.repl k ry
 ·rw[if_neg e,if_neg e];exact Paired.snoc r ⟨rfl,ry⟩
theorem KV.length {kvs:List (κ×V)}{vs:List (κ×Oz)} (r:KV kvs vs):kvs.length=vs.length:=Paired.length r
end
theorem IB {P:OO}{w:O6}{k:Key}{u:Oz} (r:RelV (kV k) u):(aM P w).is k u=true:=by
 cases k with
 | inl i=>obtain ⟨t,e⟩:=(show ∃ t,u=RE i t from r);subst e;exact oX P w i t
 | inr x=>obtain ⟨t,e⟩:=(show ∃ t,u=UC x t from r);subst e;exact e9 P w x t
section
variable {P:OO}{w:O6}{H:Hp}{h:Heap}{a:Addr}
theorem IC {u:HO} (ok:HOk P w H h) (e:Rd H a u):cC P w H h a u:=e.ok ok
theorem ID {kvs:List (Key×V)} (ok:HOk P w H h) (e:Rd H a (.dK kvs)):kvs.length<=sizeLine/\(a==Re)=false/\∃ vs,KV kvs vs/\h.DictOf (aM P w) a vs :=
 show cC P w H h a (.dK kvs) from IC ok e
theorem xq {kvs:List (Key×V)} (ok:HOk P w H h) (e:H a=some (.dK kvs)):kvs.length<=sizeLine/\(a==Re)=false/\∃ vs,KV kvs vs/\h.DictOf (aM P w) a vs:=ID ok (.inl e)
end
section
variable {X:Cx}{pins:List (Addr×Obj)}{σ:St}{H:Hp}{s:OB}{a:Addr}{y v:V}{u r:Oz}{o:Option V}{A:PL}{E:Oz->OB->Prop}
theorem Inv.big (I:Inv X pins σ H s):Re < s.heap.objs.size:=by
 have h:OV < s.heap.objs.size:=(I.mod.glob.keeps I.bk).lt
 exact Tv (by decide) h
theorem Bc {h':Heap}{t':Nat}{ob:HO} (I:Inv X pins σ H s) (mu:Mut (H a)) (hs:PJ a s.heap h') (he:∃ q,h'.get? a=some q) (new:cC X.prog X.w (upd H a ob) h' a ob) :
 Inv X pins σ (upd H a ob) { s with heap:=h',toks:=t' } :=
 I.write (x:=a) (e:=a) mu (.inl rfl) (fun b q hb z=>(hs.2 b hb).trans z) he new
theorem EV {P:OO}{w:O6}{H':Hp}{h':Heap}{kvs:List (Key×V)}{vs:List (Key×Oz)} (z:kvs.length<=sizeLine) (hd:(a==Re)=false) (rel:KV kvs vs) (dd:h'.DictOf (aM P w) a vs) :
 cC P w H' h' a (.dK kvs):=⟨z,hd,vs,rel,dd⟩
end
theorem xr {P:OO}{w:O6}{H:Hp} (h:Heap) (hb:Re < h.objs.size):cC P w H (h.push { cls:=.type "dict",data:=.dict #[] }) h.objs.size (.dK []) :=
 ⟨Pq _,beq_eq_false_iff_ne.mpr (PD (O3 hb)),[],.nil,Heap.DictOf.new h⟩
end L2
end
section
namespace BT
open PySem PySem.W PyProof.Rows
noncomputable def IE {α:Type} (lt:Nat->Nat->Bool):KasT α->α
 | .ret a=>a
 | .ask i j k=>IE lt (k (lt i j))
noncomputable def Ends {α:Type} (n:Nat) (P:α->Prop):KasT α->Prop
 | .ret a=>P a
 | .ask i j k=>i < n/\j < n/\∀ b,Ends n P (k b)
noncomputable def ltP (ps:List (Int×Int)) (i j:Nat):Bool :=
 if (ps.getD i (0,0)).1=(ps.getD j (0,0)).1 then decide ((ps.getD i (0,0)).2 < (ps.getD j (0,0)).2) else decide ((ps.getD i (0,0)).1 < (ps.getD j (0,0)).1)
noncomputable def Mm (ps:List (Int×Int)):List Nat:=(IE (ltP ps) (kas_sort ps.length)).toList
end BT
end
section
namespace BS
open PySem PySem.W PySem.Spec PyProof.Rows
section
variable {prog:OO}{w:O6}{A:PL}{E:Oz->OB->Prop}{s:OB}
end
end BS
end
section
namespace BX
open PySem PyProof.Rows
noncomputable def Ri (xs:Array Nat):Prop:=∀ i j a b:Nat,i < j->xs[i]?=some a->xs[j]?=some b->a < b
theorem xu {xs:Array Nat} (h:Ri xs) (j:Nat):∀ (fuel lo hi:Nat),lo<=hi->hi<=xs.size->hi - lo<=fuel->(∀ i a,i < lo->xs[i]?=some a->a < j)->(∀ i a,hi<=i->xs[i]?=some a->j<=a) →
 (∀ i a,i < SetTable.below.go xs j fuel lo hi->xs[i]?=some a->a < j)/\(∀ i a,SetTable.below.go xs j fuel lo hi<=i->xs[i]?=some a->j<=a)/\SetTable.below.go xs j fuel lo hi<=xs.size:=by
 intro fuel
 induction fuel with
 | zero =>
  intro lo hi h1 h2 h3 h4 h5
  have:lo=hi:=by omega
  subst this
  exact ⟨h4,h5,h2⟩
 | succ fuel ih =>
  intro lo hi h1 h2 h3 h4 h5
  by_cases c:lo < hi
  ·have hm:(lo+hi) / 2 < xs.size:=by omega
   have em:xs[(lo+hi) / 2]?=some xs[(lo+hi) / 2]:=Pc hm
   have eg:xs.getD ((lo+hi) / 2) j=xs[(lo+hi) / 2]:=by simp[Array.getD,hm]
   have e:SetTable.below.go xs j (fuel+1) lo hi=if xs.getD ((lo+hi) / 2) j < j then SetTable.below.go xs j fuel ((lo+hi) / 2+1) hi else SetTable.below.go xs j fuel lo ((lo+hi) / 2):=by
    show (if lo < hi then _ else lo)=_
    rw[if_pos c]
   rw[e,eg]
   by_cases d:xs[(lo+hi) / 2] < j
   ·rw[if_pos d]
    refine ih _ _ (by omega) h2 (by omega) (fun i a hi' ea=>?_) h5
    rcases OR i ((lo+hi) / 2) with z | z
    ·have:=h i _ a _ z ea em;omega
    ·have:i=(lo+hi) / 2:=by omega
     subst this
     rw[em] at ea;cases ea;exact d
   ·rw[if_neg d]
    refine ih _ _ (by omega) (by omega) (by omega) h4 (fun i a hi' ea=>?_)
    rcases OR ((lo+hi) / 2) i with z | z
    ·have:=h _ i _ a z em ea;omega
    ·have:i=(lo+hi) / 2:=by omega
     subst this
     rw[em] at ea;cases ea;omega
  ·have e:SetTable.below.go xs j (fuel+1) lo hi=lo:=by
    show (if lo < hi then _ else lo)=_
    rw[if_neg c]
   have:lo=hi:=by omega
   subst this
   rw[e]
   exact ⟨h4,h5,h2⟩
theorem iE {xs:Array Nat} (h:Ri xs) (j:Nat):(∀ i a,i < SetTable.below xs j->xs[i]?=some a->a < j)/\(∀ i a,SetTable.below xs j<=i->xs[i]?=some a->j<=a)/\SetTable.below xs j<=xs.size :=
 xu h j xs.size 0 xs.size (Pq _) (OE _) (by omega) (fun i a z=>absurd z (SA _)) (fun i a z e=>by
  have:xs[i]?=none:=PX z
  rw[this] at e;cases e)
theorem iW {α:Type} (xs:Array α) {p:Nat} (hp:p<=xs.size) (x:α) (i:Nat):(SetTable.insertAt xs p x)[i]?=if i < p then xs[i]? else if i=p then some x else xs[i - 1]?:=by
 unfold SetTable.insertAt
 have s1:((xs.extract 0 p).push x).size=p+1:=by simp;omega
 by_cases c:i < p
 ·rw[if_pos c,TZ (by omega),UW,if_neg (by simp;omega),Uw]
  simp;omega
 ·rw[if_neg c]
  by_cases d:i=p
  ·subst d
   rw[if_pos rfl,TZ (by omega),UW,if_pos (by simp;omega)]
  ·rw[if_neg d,Array.getElem?_append_right (by omega),s1,Uw]
   simp
   split
   ·congr 1;omega
   ·rename_i z
    symm
    exact PX (by omega)
theorem EW {xs:Array Nat} (h:Ri xs) {j:Nat} (hn:xs[SetTable.below xs j]?≠some j):Ri (SetTable.insertAt xs (SetTable.below xs j) j):=by
 obtain ⟨b1,b2,b3⟩:=iE h j
 intro i k a b hik ea eb
 rw[iW xs b3] at ea eb
 generalize SetTable.below xs j=p at *
 have gt:∀ i a,p<=i->xs[i]?=some a->j < a:=fun i a hi e=>by
  have:=b2 i a hi e
  rcases OR j a with z | z
  ·exact z
  ·have:a=j:=by omega
   subst this
   rcases OR p i with q | q
   ·cases ep:xs[p]? with
    | none =>
     have:xs.size<=p:=by
      rcases OR p xs.size with w | w
      ·rw[Pc w] at ep;cases ep
      ·exact w
     rw[PX (by omega)] at e;cases e
    | some y =>
     have h1:=h p i y a q ep e
     have h2:=b2 p y (OE _) ep
     omega
   ·have:i=p:=by omega
    subst this
    exact absurd e hn
 by_cases c1:k < p
 ·rw[if_pos c1] at eb
  rw[if_pos (by omega)] at ea
  exact h i k a b hik ea eb
 ·rw[if_neg c1] at eb
  by_cases c2:k=p
  ·rw[if_pos c2] at eb
   cases eb
   rw[if_pos (by omega)] at ea
   exact b1 i a (by omega) ea
  ·rw[if_neg c2] at eb
   have hb:=gt (k - 1) b (by omega) eb
   by_cases d1:i < p
   ·rw[if_pos d1] at ea
    have:=b1 i a d1 ea
    omega
   ·rw[if_neg d1] at ea
    by_cases d2:i=p
    ·rw[if_pos d2] at ea;cases ea;exact hb
    ·rw[if_neg d2] at ea
     exact h (i - 1) (k - 1) a b (by omega) ea eb
theorem xw (n:Nat):Ri (Array.range n):=by
 intro i j a b hij ea eb
 rw[Array.getElem?_range] at ea eb
 split at ea
 ·split at eb
  ·cases ea;cases eb;exact hij
  ·cases eb
 ·cases ea
theorem Bd {l:List Nat} (h:l.Pairwise (· < ·)):Ri l.toArray:=by
 intro i j a b hij ea eb
 simp only[List.getElem?_toArray] at ea eb
 obtain ⟨hi,rfl⟩:=List.getElem?_eq_some_iff.mp ea
 obtain ⟨hj,rfl⟩:=List.getElem?_eq_some_iff.mp eb
 exact List.pairwise_iff_getElem.mp h i j hi hj hij
structure Tb (bt:Bool) (t:SetTable):Prop where
 led:t.led=!bt
 ri:Ri t.place
theorem xy (bt:Bool):Tb bt (SetTable.fresh 0 0 (!bt)):=⟨rfl,fun i j a b _ e=>by simp[SetTable.fresh] at e⟩
theorem i7 {bt:Bool}{t:SetTable} (h:Tb bt t) (n:Nat):Tb bt (SetTable.standIn t n):=⟨h.led,xw n⟩
noncomputable def Fre (t:SetTable) (j:Nat):Prop:=t.place[SetTable.below t.place j]?≠some j
theorem pH {t:SetTable}{j:Nat} (h:t.slot j=.empty\/t.slot j=.dummy):Fre t j:=by
 intro z
 have e:t.slot j=.live (SetTable.below t.place j):=by
  unfold SetTable.slot
  simp[z]
 rw[e] at h
 rcases h with h | h<;>cases h
theorem xA (t:SetTable) (g:Nat->Int) (h:Int):∀ (fuel:Nat) (p:SetTable.Probe) (j:Nat) (d:Option Nat),(∀ x,p.dummy=some x->Fre t x)->SetTable.probe.go t g h fuel p=some (.empty j d)->Fre t j/\∀ x,d=some x->Fre t x:=by
 intro fuel
 induction fuel with
 | zero=>intro p j d _ e;cases e
 | succ fuel ih =>
  intro p j d hp e
  have e':SetTable.probe.go t g h (fuel+1) p=(match t.slot p.j with
   | .empty=>some (.empty p.j p.dummy)
   | .dummy=>SetTable.probe.go t g h fuel (SetTable.advance t { p with dummy:=some p.j })
   | .live i=>if (g i==h)=true then some (.candidate p.j i (SetTable.advance t p)) else SetTable.probe.go t g h fuel (SetTable.advance t p)):=rfl
  rw[e'] at e
  have adv:∀ q:SetTable.Probe,(SetTable.advance t q).dummy=q.dummy:=fun q=>by
   unfold SetTable.advance
   split<;>rfl
  cases s:t.slot p.j with
  | empty =>
   rw[s] at e
   cases e
   exact ⟨pH (.inl s),hp⟩
  | dummy =>
   rw[s] at e
   exact ih _ j d (fun x hx=>by rw[adv] at hx;cases hx;exact pH (.inr s)) e
  | live i =>
   rw[s] at e
   simp only at e
   split at e
   ·cases e
   ·exact ih _ j d (fun x hx=>by rw[adv] at hx;exact hp x hx) e
theorem xB {t:SetTable}{h:Int}{j:Nat}{b:Bool} (e:SetTable.freeSlot t h=some (j,b)):Fre t j:=by
 unfold SetTable.freeSlot at e
 split at e
 ·rename_i j' d hp
  cases e
  obtain ⟨h1,h2⟩:=xA t _ h _ _ j' d (fun x hx=>by simp[SetTable.probeStart] at hx) hp
  cases d with
  | none=>exact h1
  | some x=>exact h2 x rfl
 ·cases e
theorem EX {bt:Bool}{t:SetTable} (h:Tb bt t) (es:Array (Int×Oz)) (k:Int) (x:Oz):Tb bt (layNew t es k x).2.1:=by
 unfold layNew
 split
 ·rename_i slot wd e
  have hf:=xB e
  have hp:Tb bt (SetTable.put t slot).1:=⟨h.led,EW h.ri hf⟩
  simp only
  show Tb bt (SetTable.orStandIn _ _)
  unfold SetTable.orStandIn
  split
  ·exact hp
  ·exact i7 hp _
 ·exact i7 h _
theorem xC {bt:Bool}{t:SetTable} (h:Tb bt t) (es:Array (Int×Oz)) (n:Nat):Tb bt (relayAll t es n).2.1:=by
 unfold relayAll
 split
 ·rename_i t' order e
  have ht:Tb bt t':=by
   unfold SetTable.relaid SetTable.laid at e
   cases g:SetTable.layClean (SetTable.sizeAbove n - 1) (es.map fun x=>x.1) with
   | none=>rw[g] at e;cases e
   | some owner =>
    rw[g] at e
    cases e
    refine ⟨h.led,Bd ?_⟩
    rw[List.pairwise_map]
    refine List.Pairwise.filterMap _ (fun a b hab x hx y hy=>?_) List.pairwise_lt_range
    obtain ⟨_,_,rfl⟩:=Option.map_eq_some_iff.mp hx
    obtain ⟨_,_,rfl⟩:=Option.map_eq_some_iff.mp hy
    exact hab
  simp only
  split
  ·exact ht
  ·exact i7 h _
 ·exact i7 h _
section
variable {prog:OO}{w:O6}{A:PL}{E:Oz->OB->Prop}{s:OB}
noncomputable def lV (prog:OO) (w:O6) (bt:Bool) (h:Heap) (a:Addr) (S:Int->Bool) (n:Nat):Prop :=
 ∃ o es ep t,h.get? a=some o/\o.ExactSet/\o.data=.set es ep t/\ElemsOf (intKind prog w) es.toList/\(∀ k,S k=true↔∃ e∈es.toList,(intKind prog w).is k e.2=true)/\es.size < RB/\t.fits es.size=true/\es.size=n/\Tb bt t
theorem Oi {g:Bool->Sem Unit} (hg:∀ (b:Bool) (s₁:OB) (Q:Unit->OB->Prop),Q () s₁->wpAny (OY prog w) A (g b) Q E s₁) {b:Bool}{α:Type}{f:Unit->Sem α}{Q:α->OB->Prop} (h:wpAny (OY prog w) A (f ()) Q E s):wpAny (OY prog w) A (g b >>= f) Q E s :=
 wpAny_bind (hg b s _ h)
theorem add_int {bt:Bool}{a:Addr}{S:Int->Bool}{n:Nat}{k:Int}{tk:Tok}{Q:Bool->OB->Prop} (hs:lV prog w bt s.heap a S n) (hn:n+1 < RB)
 (hQ:∀ b h',PJ a s.heap h'->lV prog w bt h' a (fun k'=>S k'||decide (k'=k)) (if S k=true then n else n+1)->Q b { s with heap:=h' }) :
 wpAny (OY prog w) A (setAddHashed a (.int k tk) ((intKind prog w).hash k)) Q E s:=by
 obtain ⟨o,es,ep,t,ho,hx,hd,he,hm,hb,hf,rfl,ht⟩:=hs
 have ik:=intKind_is prog w k tk
 unfold setAddHashed
 refine PU ?_
 rw[setAddHashedIn.eq_def]
 show wpAny _ _ (setState a >>= _) _ _ s
 refine wpAny_bind (QD ho hd hf ?_)
 simp only
 rw[if_pos (byScan_of (knd:=intKind prog w) rfl hb he)]
 refine wpAny_bind ?_
 unfold setAddByScan
 refine wpAny_bind (T5 ?_)
 refine wpAny_bind ?_
 show wpAny _ _ (setScanFrom a (.int k tk) ((intKind prog w).hash k) true es.toList 0) _ _ s
 refine wpAny_setScanFrom_of (knd:=intKind prog w) ik ho hd hf es.toList 0 he ?_
 cases g:es.toList.findIdx? fun e=>(intKind prog w).is k e.2 with
 | some j =>
  have hk:S k=true:=by
   obtain ⟨hj,h1,_⟩:=List.findIdx?_eq_some_iff_getElem.mp g
   exact (hm k).mpr ⟨_,Sh hj,h1⟩
  refine wpAny_pure (wpAny_pure (hQ _ _ (Sv _ _) ?_))
  rw[if_pos hk]
  refine ⟨o,es,ep,t,ho,hx,hd,he,fun k'=>?_,hb,hf,rfl,ht⟩
  rw[← hm k']
  by_cases c:k'=k
  ·subst c;simp[hk]
  ·simp[c]
 | none =>
  have hk:¬ S k=true:=fun z=>by
   obtain ⟨e,h1,h2⟩:=(hm k).mp z
   have:=List.findIdx?_eq_none_iff.mp g e h1
   rw[h2] at this;cases this
  rw[if_neg hk] at hQ
  have q1:=layNew_fits t es ((intKind prog w).hash k) (.int k tk)
  have q2:=layNew_perm t es ((intKind prog w).hash k) (.int k tk)
  have q3:=EX ht es ((intKind prog w).hash k) (.int k tk)
  dsimp only
  generalize layNew t es ((intKind prog w).hash k) (.int k tk)=r at q1 q2 q3 ⊢
  obtain ⟨es1,t1,wd,gv⟩:=r
  simp only at q1 q2 q3 ⊢
  have q2':es1.toList.Perm (es.toList++[((intKind prog w).hash k,.int k tk)]):=by simpa using q2
  have sz:es1.size=es.size+1:=by
   have:=q2'.length_eq
   simpa using this
  have e1:=(he.push ik rfl).perm q2'
  have m1:=mem_push_iff ik hm q2'
  have z1:es1.size < RB:=by omega
  have fin:wpAny (OY prog w) A (TF a es1 t1 >>= fun _=>if (!wd&&t1.tooFull)=true then (match relayAll t1 es1 (SetTable.grown es1.size) with | (es2,t2,gv2)=>(match gv2 with | true=>rule "set.scan.the-table-gave-way" | false=>pure ()) >>= fun _=>TF a es2 t2 >>= fun _=>pure (some true)) else pure (some true))
   (fun a_1 s'=>wpAny (OY prog w) A (match a_1 with | some added=>pure added | none=>UR a (.int k tk) ((intKind prog w).hash k) 99999) Q E s') E s:=by
   obtain ⟨ob,_⟩:=SetOf_store ho hx hd e1 m1 z1 q1
   refine wpAny_bind (wpAny_storeSet_of ho hd ?_ (by rw[sz];exact Rr hn))
   by_cases c:(!wd&&t1.tooFull)=true
   ·rw[if_pos c]
    have p1:=relayAll_fits t1 es1 (SetTable.grown es1.size)
    have p2:=relayAll_perm t1 es1 (SetTable.grown es1.size)
    have p3:=xC q3 es1 (SetTable.grown es1.size)
    generalize relayAll t1 es1 (SetTable.grown es1.size)=r at p1 p2 p3 ⊢
    obtain ⟨es2,t2,gv2⟩:=r
    simp only at p1 p2 p3 ⊢
    have sz2:es2.size=es.size+1:=by
     have:=p2.length_eq
     simp at this;omega
    have e2:=e1.perm p2
    have m2:∀ k',(S k'||decide (k'=k))=true↔∃ e∈es2.toList,(intKind prog w).is k' e.2=true:=fun k'=>(m1 k').trans ⟨fun ⟨e,h1,h2⟩=>⟨e,p2.mem_iff.mpr h1,h2⟩,fun ⟨e,h1,h2⟩=>⟨e,p2.mem_iff.mp h1,h2⟩⟩
    have nx:wpAny (OY prog w) A (TF a es2 t2 >>= fun _=>pure (some true)) (fun a_1 s'=>wpAny (OY prog w) A (match a_1 with | some added=>pure added | none=>UR a (.int k tk) ((intKind prog w).hash k) 99999) Q E s') E { s with heap:=s.heap.update a (Obj.putSet es1 t1) }:=by
     obtain ⟨ob2,_⟩:=SetOf_store (h:=s.heap.update a (Obj.putSet es1 t1)) ob ⟨hx.1,hx.2.1,hx.2.2⟩ rfl e2 m2 (by omega) p1
     refine wpAny_bind (wpAny_storeSet_of (s:={ s with heap:=s.heap.update a (Obj.putSet es1 t1) }) ob rfl ?_ (by rw[sz2];exact Rr hn))
     refine wpAny_pure (wpAny_pure (hQ true _ ((Pp ..).trans (Pp ..)) ?_))
     exact ⟨_,es2,_,t2,ob2,⟨hx.1,hx.2.1,hx.2.2⟩,rfl,e2,m2,by omega,p1,sz2,p3⟩
    refine wpAny_bind ?_
    cases gv2 with
    | true=>exact T5 nx
    | false=>exact wpAny_pure nx
   ·rw[if_neg c]
    refine wpAny_pure (wpAny_pure (hQ true _ (Pp ..) ?_))
    exact ⟨_,es1,_,t1,ob,⟨hx.1,hx.2.1,hx.2.2⟩,rfl,e1,m1,z1,q1,sz,q3⟩
  refine wpAny_bind ?_
  have nx:wpAny (OY prog w) A (if t1.plain=true then hashByValue 8 (.int k tk) >>= fun bv=>TF a es1 (if bv=true then t1 else { t1 with plain:=false }) >>= fun _=>if (!wd&&(if bv=true then t1 else { t1 with plain:=false }).tooFull)=true then (match relayAll (if bv=true then t1 else { t1 with plain:=false }) es1 (SetTable.grown es1.size) with | (es2,t2,gv2)=>(match gv2 with | true=>rule "set.scan.the-table-gave-way" | false=>pure ()) >>= fun _=>TF a es2 t2 >>= fun _=>pure (some true)) else pure (some true) else
   (pure true >>= fun bv=>TF a es1 (if bv=true then t1 else { t1 with plain:=false }) >>= fun _=>if (!wd&&(if bv=true then t1 else { t1 with plain:=false }).tooFull)=true then (match relayAll (if bv=true then t1 else { t1 with plain:=false }) es1 (SetTable.grown es1.size) with | (es2,t2,gv2)=>(match gv2 with | true=>rule "set.scan.the-table-gave-way" | false=>pure ()) >>= fun _=>TF a es2 t2 >>= fun _=>pure (some true)) else pure (some true)))
   (fun a_1 s'=>wpAny (OY prog w) A (match a_1 with | some added=>pure added | none=>UR a (.int k tk) ((intKind prog w).hash k) 99999) Q E s') E s:=by
   by_cases c:t1.plain=true
   ·rw[if_pos c]
    refine wpAny_bind ?_
    rw[hashByValue.eq_def]
    exact wpAny_pure fin
   ·rw[if_neg c]
    exact wpAny_bind (wpAny_pure fin)
  cases gv with
  | true=>refine T5 ?_;exact nx
  | false=>refine wpAny_pure ?_;exact nx
end
section
variable {prog:OO}{w:O6}{A:PL}{E:Oz->OB->Prop}{R:UD->OB->Prop}
theorem xD {bt:Bool} (hh:A.handled=none) {l it S:Addr}{items:Array Oz}{ns:List Int} (hi:RX items.toList ns) (hSi:S≠it) (hSl:S≠l) (hil:it≠l) (hb:items.size+1 < RB) :
 ∀ (k i:Nat) (s:OB),items.size - i=k->i<=items.size->s.heap.IsListIter it l i->s.heap.IsList l items->lV prog w bt s.heap S (fun k'=>(Qv (fun i=>ns.getD i 0) i).any (·==k')) (Qv (fun i=>ns.getD i 0) i).length →
  (∀ h' tk,(∀ b o,b≠S->b≠it->s.heap.get? b=some o->h'.get? b=some o)->lV prog w bt h' S (fun k'=>(Qv (fun i=>ns.getD i 0) items.size).any (·==k')) (Qv (fun i=>ns.getD i 0) items.size).length->R (.ok (.ret .none)) { s with heap:=h',toks:=tk }) →
  codeAny (OY prog w) A (.builtin "set.update.loop" ⟨[.ref S,.ref it],[]⟩) R s:=by
 intro k
 induction k with
 | zero =>
  intro i s hk hi' h1 h2 h3 hR
  have:i=items.size:=by omega
  subst this
  refine codeAny_builtin F.entry_set_update_loop ?_
  rw[Qt F.plain_set_update_loop _]
  show wpAny _ A.in1 (TH (.ref it) >>= _) _ _ _
  refine wpAny_bind (wpAny_pyNext_list_end (A:=A.in1) hh h1 h2 (PX (OE _)) fun h' hx=>?_)
  refine wpAny_pure (hR h' s.toks (fun b o _ n2 e=>hx b o n2 e) ?_)
  obtain ⟨o,es,ep,t,g1,g2⟩:=h3
  exact ⟨o,es,ep,t,hx S o hSi g1,g2⟩
 | succ k ih =>
  intro i s hk hi' h1 h2 h3 hR
  have hlt:i < items.size:=by omega
  have hx:items[i]?=some items[i]:=Pc hlt
  obtain ⟨tk,ex⟩:=hi.int_at i items[i] (by simpa using hx)
  refine codeAny_builtin F.entry_set_update_loop ?_
  rw[Qt F.plain_set_update_loop _]
  show wpAny _ A.in1 (TH (.ref it) >>= _) _ _ _
  refine wpAny_bind (wpAny_pyNext_list_item h1 h2 hx fun h' g1 g2=>?_)
  rw[ex]
  have hS':lV prog w bt h' S (fun k'=>(Qv (fun i=>ns.getD i 0) i).any (·==k')) (Qv (fun i=>ns.getD i 0) i).length:=by
   obtain ⟨o,es,ep,t,q1,q2⟩:=h3
   exact ⟨o,es,ep,t,(g2.2 S hSi).trans q1,q2⟩
  have ln:(Qv (fun i=>ns.getD i 0) i).length<=i:=firstMet_length_le _ _
  refine wpAny_bind (PU ?_)
  unfold setAdd
  refine PU (wpAny_bind (wpAny_pyHash_int ?_))
  refine add_int (bt:=bt) (s:={ s with heap:=h',toks:=s.toks+1 }) hS' (by omega) fun b h2' k1 k2=>?_
  have k2':lV prog w bt h2' S (fun k'=>(Qv (fun i=>ns.getD i 0) (i+1)).any (·==k')) (Qv (fun i=>ns.getD i 0) (i+1)).length:=by
   have e1:(fun k'=>(Qv (fun i=>ns.getD i 0) (i+1)).any (·==k'))=fun k'=>(Qv (fun i=>ns.getD i 0) i).any (·==k')||decide (k'=ns.getD i 0):=by
    funext k'
    rw[firstMet_succ,step_any]
   rw[e1,firstMet_succ,step_length]
   exact k2
  have old:∀ c o,c≠S->c≠it->s.heap.get? c=some o->h2'.get? c=some o:=fun c o n1 n2 e=>(k1.2 c n1).trans ((g2.2 c n2).trans e)
  refine wpAny_pure ⟨plainId_quiet F.plain_set_update_loop _,ih (i+1) { s with heap:=h2',toks:=s.toks+1 } (by omega) hlt ?_ ?_ k2' fun h'' tk' q1 q2=>?_⟩
  ·obtain ⟨o,e1,e2⟩:=g1
   exact ⟨o,(k1.2 it (PD hSi)).trans e1,e2⟩
  ·obtain ⟨o,e1,e2⟩:=h2
   exact ⟨o,old l o (PD hSl) (PD hil) e1,e2⟩
  ·exact hR h'' tk' (fun c o n1 n2 e=>q1 c o n1 n2 (old c o n1 n2 e)) q2
end
section
variable {prog:OO}{w:O6}{A:PL}{E:Oz->OB->Prop}{s:OB}
theorem i8 {Q:Bool->OB->Prop} (h:Q (w.params.followText "set-order") s):wpAny (OY prog w) A setsByText Q E s:=by
 unfold setsByText
 exact wpAny_bind (wpAny_askSetting (wpAny_pure h))
theorem xE {l S:Addr}{items:Array Oz}{ns:List Int}{R:UD->OB->Prop} (hh:A.handled=none) (hl:s.heap.IsList l items) (hi:RX items.toList ns) (hb:items.size+1 < RB) (hSl:S≠l)
 (hS:s.heap.get? S=some { cls:=.type "set",data:=.set #[] 0 (SetTable.fresh 0 0 (!w.params.followText "set-order")) })
 (hR:∀ h' tk,(∀ b o,b≠S->s.heap.get? b=some o->h'.get? b=some o)->lV prog w (w.params.followText "set-order") h' S (fun k'=>(Qv (fun i=>ns.getD i 0) items.size).any (·==k')) (Qv (fun i=>ns.getD i 0) items.size).length->R (.ok (.ret .none)) { s with heap:=h',toks:=tk }) :
 wpAny (OY prog w) A.in1 (Builtin.«set.__init__» ⟨[.ref S,.ref l],[]⟩)
  (fun fin s'=>match fin with | .done f=>R (.ok f) s' | .again c'=>c'.quiet=true/\codeAny (OY prog w) A c' R s') (fun e s'=>R (.error e) s') s:=by
 have hT:s.TypeIs (.ref S) "set":=⟨_,hS,rfl⟩
 unfold Builtin.«set.__init__»
 refine wpAny_bind (wpAny_pure ?_)
 dsimp only
 refine wpAny_bind ?_
 unfold typeNameOfCut shownTypeOf
 refine wpAny_bind ?_
 refine wpAny_bind (Rc hT ?_)
 rw[if_neg (by decide)]
 refine wpAny_pure ?_
 show wpAny _ _ (typeName (.type "set")) _ _ s
 refine wpAny_pure ?_
 refine wpAny_bind (wpAny_pure ?_)
 refine wpAny_bind (wpAny_pure ?_)
 refine wpAny_bind ?_
 unfold setUsed
 refine wpAny_bind (QD hS rfl rfl (wpAny_pure ?_))
 rw[if_neg (show ¬ ((SetTable.fresh 0 0 (!w.params.followText "set-order")).fill != 0)=true from Pe)]
 refine wpAny_bind ?_
 unfold Builtin.Frozenset.updateFrom
 refine wpAny_bind ?_
 have hL:s.TypeIs (.ref l) "list":=hl.typeIs
 unfold Builtin.Frozenset.isAnySet
 refine wpAny_bind (Q6 (b:=false) hL (isSubtype_of_subB (by decide +kernel)) ?_)
 show wpAny _ _ (isInstance (.ref l) (.type "frozenset")) _ _ s
 refine Q6 (b:=false) hL (isSubtype_of_subB (by decide +kernel)) ?_
 rw[if_neg Pe]
 refine wpAny_bind (Rc hL ?_)
 rw[if_neg (by decide)]
 refine wpAny_bind (wpAny_pyIter_list hl ?_)
 refine wpAny_bind (wpAny_runValue ?_)
 have lS:S < s.heap.objs.size:=OG hS
 have ll:l < s.heap.objs.size:=by obtain ⟨o,e,_⟩:=hl;exact OG e
 have up:∀ b o,s.heap.get? b=some o->(s.heap.push { cls:=.type "list_iterator",data:=.fields #[.ref l,.int 0 0] }).get? b=some o:=fun b o e=>OA _ e
 refine xD (bt:=w.params.followText "set-order") (A:=A.in1) hh hi (O3 lS) hSl (QA ll) hb items.size 0 _ rfl (Pq _) ⟨_,OI _ rfl,rfl,rfl⟩ ?_ ?_ fun h' tk k1 k2=>?_
 ·obtain ⟨o,e,r⟩:=hl
  exact ⟨o,up _ _ e,r⟩
 ·refine ⟨_,#[],0,_,up _ _ hS,⟨rfl,rfl,rfl⟩,rfl,fun e he=>(by simp at he),fun k=>⟨fun z=>by simp[firstMet_zero] at z,fun ⟨e,he,_⟩=>by simp at he⟩,by decide,rfl,by simp[firstMet_zero],xy _⟩
 ·refine wpAny_pure (wpAny_pure (hR h' tk (fun b o n1 e=>k1 b o n1 (O3 (OG e)) (up b o e)) k2))
theorem Be (v:Oz) {Q₁:Oz->OB->Prop} (h:Q₁ (.ref s.heap.objs.size) { s with heap:=s.heap.push { cls:=.type "set",data:=.set #[] 0 (SetTable.fresh 0 0 (!w.params.followText "set-order")) } }) :
 codeAny (OY prog w) A (.call (.builtin "set.__new__") { pos:=[.type "set",v] }) (wants Q₁ E) s:=by
 refine codeAny_call_builtin (by decide +kernel) PySem.F.entry_set_new ?_
 rw[PySem.F.newCall_set_1]
 refine wpAny_pure ?_
 unfold Builtin.«set.__new__»
 refine wpAny_bind (wpAny_pure ?_)
 refine wpAny_bind ?_
 unfold newSet
 refine wpAny_bind (i8 ?_)
 refine Pf ?_ (by size_fits)
 exact wpAny_pure h
theorem xF {l:Addr}{items:Array Oz}{ns:List Int}{Q:Oz->OB->Prop} (hh:A.handled=none) (hl:s.heap.IsList l items) (hi:RX items.toList ns) (hb:items.size+1 < RB)
 (hQ:∀ h' tk,lV prog w (w.params.followText "set-order") h' s.heap.objs.size (fun k'=>(Qv (fun i=>ns.getD i 0) items.size).any (·==k')) (Qv (fun i=>ns.getD i 0) items.size).length->(∀ b o,s.heap.get? b=some o->h'.get? b=some o)->Q (.ref s.heap.objs.size) { s with heap:=h',toks:=tk }) :
 wpAny (OY prog w) A (call (.type "set") [.ref l]) Q E s:=by
 have ll:l < s.heap.objs.size:=by obtain ⟨o,e,_⟩:=hl;exact OG e
 have up:∀ b o,s.heap.get? b=some o->(s.heap.push { cls:=.type "set",data:=.set #[] 0 (SetTable.fresh 0 0 (!w.params.followText "set-order")) }).get? b=some o:=fun b o e=>OA _ e
 have hS:(s.heap.push { cls:=.type "set",data:=.set #[] 0 (SetTable.fresh 0 0 (!w.params.followText "set-order")) }).get? s.heap.objs.size=some { cls:=.type "set",data:=.set #[] 0 (SetTable.fresh 0 0 (!w.params.followText "set-order")) }:=OI _ rfl
 refine Sn (codeAny_of_tree ?_)
 show wpAny _ _ (pure (Fin.again (.builtin "type.__call__" ⟨[.type "set",.ref l],[]⟩))) _ _ s
 refine wpAny_pure ⟨Code.quiet_builtin _ (by decide +kernel),codeAny_builtin PySem.F.entry_type_call ?_⟩
 rw[Around.under_plain (weight_type_call_type "set" [.ref l] []) rfl]
 unfold Builtin.«type.__call__»
 dsimp only
 rw[if_neg (by rw[PySem.F.called_set.notType];exact Pe)]
 rw[if_neg (by rw[PySem.F.called_set.canCreate];exact Pe)]
 rw[PySem.F.typeCall_set_1]
 refine wpAny_bind (wpAny_pure ?_)
 obtain ⟨c,tl,hm⟩:=PySem.F.called_set.mro
 rw[hm]
 refine wpAny_bind (wpAny_pure ?_)
 rw[if_neg (by simp)]
 rw[PySem.F.called_set.made]
 refine wpAny_bind (wpAny_pure ?_)
 refine wpAny_bind (wpAny_pure ?_)
 refine wpAny_bind (PU (Sn ?_))
 refine codeAny_mono (Be (E:=E) (Q₁:=fun obj s₁=>obj=.ref s.heap.objs.size/\s₁={ s with heap:=s.heap.push { cls:=.type "set",data:=.set #[] 0 (SetTable.fresh 0 0 (!w.params.followText "set-order")) } }) _ ⟨rfl,rfl⟩) fun r s' h=>?_
 cases r with
 | error e=>exact h
 | ok fl =>
  cases fl with
  | ret v =>
   obtain ⟨rfl,rfl⟩:=(show _/\_ from h)
   have hT:({ s with heap:=s.heap.push { cls:=.type "set",data:=.set #[] 0 (SetTable.fresh 0 0 (!w.params.followText "set-order")) } }:OB).TypeIs (.ref s.heap.objs.size) "set":=⟨_,hS,rfl⟩
   refine wpAny_bind (Q6 (b:=true) hT PySem.F.called_set.sub ?_)
   rw[if_neg (by decide)]
   refine wpAny_bind (PU (QF hT PySem.F.slot_set_init (Sn ?_)))
   have key:∀ R:UD->OB->Prop,(∀ h' tk,(∀ b o,b≠s.heap.objs.size->(s.heap.push { cls:=.type "set",data:=.set #[] 0 (SetTable.fresh 0 0 (!w.params.followText "set-order")) }).get? b=some o->h'.get? b=some o)->lV prog w (w.params.followText "set-order") h' s.heap.objs.size (fun k'=>(Qv (fun i=>ns.getD i 0) items.size).any (·==k')) (Qv (fun i=>ns.getD i 0) items.size).length->R (.ok (.ret .none)) { s with heap:=h',toks:=tk }) →
    codeAny (OY prog w) A.in1 (.call (.builtin "set.__init__") ⟨[.ref s.heap.objs.size,.ref l],[]⟩) R { s with heap:=s.heap.push { cls:=.type "set",data:=.set #[] 0 (SetTable.fresh 0 0 (!w.params.followText "set-order")) } }:=fun R hR =>
    codeAny_call_builtin (by decide +kernel) PySem.F.entry_set_init (check_set_init_1 hT (xE (prog:=prog) (w:=w) (s:={ s with heap:=s.heap.push { cls:=.type "set",data:=.set #[] 0 (SetTable.fresh 0 0 (!w.params.followText "set-order")) } }) (A:=A.in1) hh (let ⟨o,e,r⟩:=hl;⟨o,up _ _ e,r⟩) hi hb (QA ll) hS hR))
   refine key _ fun h' tk k1 k2=>?_
   show wpAny _ _ (if (Rx != Rx)=true then _ else PySem.ret (.ref s.heap.objs.size)) _ _ _
   rw[if_neg (by decide)]
   exact wpAny_pure (hQ h' tk k2 fun b o e=>k1 b o (O3 (OG e)) (up b o e))
  | next=>exact h
  | brk=>exact h
  | cont=>exact h
end
theorem i9:Slot "set_iterator" (OT "__next__") "set_iterator.__next__":=Slot.of (owner:="set_iterator") (n:="__next__") (by rw[SO,RC];kernel_rfl) (by kernel_rfl) (by kernel_rfl) (by kernel_rfl) (.inl (by kernel_rfl)) (by rw[US];kernel_rfl) (by decide +kernel)
theorem pI:entryFor table "set_iterator.__next__"=some Builtin.«set_iterator.__next__»:=by kernel_rfl
theorem qX:entryFor table "set.__iter__"=some Builtin.«frozenset.__iter__»:=by kernel_rfl
theorem sy (a:Oz):argsOk "set_iterator.__next__" { pos:=[a] }:=by kernel_rfl
noncomputable def itO (first:Oz) (i n ep:Nat) (a:Addr):Obj:={ cls:=.type "set_iterator",data:=.fields #[first,.int i 0,.ref a,.int n 0,.int ep 0] }
noncomputable def slotAt (pl:Array Nat):Nat->Nat
 | 0=>0
 | i+1=>match pl[i]? with
  | some j=>j+1
  | none=>0
inductive Md (w:O6) (h:Heap) (a:Addr) (es:Array (Int×Oz)) (ep:Nat) (t:SetTable):Oz->List Oz->Nat->Prop where
 | A {z:Int}{i:Nat} (hb:w.params.followText "set-order"=true):Md w h a es ep t (.int z 0) ((RO (w.params.setOrder a ep) es).toList.map (·.2)) i
 | B {T:Addr}{pl:List Nat}{i:Nat} (hT:h.IsTuple T (pl.map fun (p:Nat)=>RE p 0).toArray) (hp:∀ p∈pl,p < es.size):Md w h a es ep t (.ref T) (pl.filterMap fun p=>es[p]?.map (·.2)) i
 | C {i:Nat} (hb:w.params.followText "set-order"=false) (hd:(!t.plain&&decide (es.size > 1))=false) (ht:Tb false t):Md w h a es ep t (.int (slotAt t.place i) 0) (es.toList.map (·.2)) i
structure NX (w:O6) (h:Heap) (it a:Addr) (ord:List Oz) (i:Nat):Prop where
 ex:∃ o es ep t first,h.get? a=some o/\o.data=.set es ep t/\t.fits es.size=true/\h.get? it=some (itO first i es.size ep a)/\Md w h a es ep t first ord i
theorem Md.at {w:O6}{h h':Heap}{a:Addr}{es:Array (Int×Oz)}{ep:Nat}{t:SetTable}{first:Oz}{ord:List Oz}{i:Nat} (m:Md w h a es ep t first ord i) (k:∀ b o,(∃ xs n,o.data=.seq xs n)->h.get? b=some o->h'.get? b=some o):Md w h' a es ep t first ord i:=by
 cases m with
 | A hb=>exact .A hb
 | B hT hp =>
  obtain ⟨o,e,c,n,d⟩:=hT
  exact .B ⟨o,k _ o ⟨_,n,d⟩ e,c,n,d⟩ hp
 | C hb hd ht=>exact .C hb hd ht
theorem bK {α β:Type} (f:α->Option β):∀ (l:List α),(∀ x∈l,(f x).isSome=true)->∀ i:Nat,(l.filterMap f)[i]?=(l[i]?).bind f
 | [],_,i=>by simp
 | x :: l,h,i=>by
  obtain ⟨y,hy⟩:=Option.isSome_iff_exists.mp (h x ON)
  rw[O9,hy]
  cases i with
  | zero=>simp[hy]
  | succ i=>simpa using bK f l (fun z hz=>h z (OL _ hz)) i
section
variable {prog:OO}{w:O6}{A:PL}{E:Oz->OB->Prop}{s:OB}
theorem pJ {t:SetTable}{n i:Nat} (h:Ri t.place) (hn:t.place.size=n) (hi:i < n):SetTable.below t.place (slotAt t.place i)=i/\∃ j,t.place[i]?=some j/\slotAt t.place (i+1)=j+1:=by
 obtain ⟨b1,b2,b3⟩:=iE h (slotAt t.place i)
 have hp:t.place[i]?=some t.place[i]:=Pc (by omega)
 refine ⟨?_,t.place[i],hp,by show (match t.place[i]? with | some j=>j+1 | none=>0)=_;rw[hp]⟩
 have lo:∀ k v,k < i->t.place[k]?=some v->v < slotAt t.place i:=fun k v hk ev=>by
  cases i with
  | zero=>omega
  | succ i =>
   have hq:t.place[i]?=some t.place[i]:=Pc (by omega)
   have e:slotAt t.place (i+1)=t.place[i]+1:=by show (match t.place[i]? with | some j=>j+1 | none=>0)=_;rw[hq]
   rw[e]
   rcases OR k i with z | z
   ·have:=h k i v _ z ev hq;omega
   ·have:k=i:=by omega
    subst this
    rw[hq] at ev;cases ev;omega
 have hi2:slotAt t.place i<=t.place[i]:=by
  cases i with
  | zero=>exact Pq _
  | succ i =>
   have hq:t.place[i]?=some t.place[i]:=Pc (by omega)
   have e:slotAt t.place (i+1)=t.place[i]+1:=by show (match t.place[i]? with | some j=>j+1 | none=>0)=_;rw[hq]
   rw[e]
   have:=h i (i+1) _ _ (P8 _) hq hp
   omega
 rcases Qf (SetTable.below t.place (slotAt t.place i)) i with z | z | z
 ·have hq:t.place[SetTable.below t.place (slotAt t.place i)]?=some t.place[SetTable.below t.place (slotAt t.place i)]:=Pc (by omega)
  have h1:=lo _ _ z hq
  have h2:=b2 _ _ (OE _) hq
  omega
 ·exact z
 ·have:=b1 i _ z hp
  omega
theorem xG {t:SetTable}{n:Nat} (h:Ri t.place) (hn:t.place.size=n):n<=SetTable.below t.place (slotAt t.place n):=by
 obtain ⟨b1,b2,b3⟩:=iE h (slotAt t.place n)
 cases n with
 | zero=>exact Pq _
 | succ n =>
  have hq:t.place[n]?=some t.place[n]:=Pc (by omega)
  have e:slotAt t.place (n+1)=t.place[n]+1:=by show (match t.place[n]? with | some j=>j+1 | none=>0)=_;rw[hq]
  rw[e] at b1 b2 ⊢
  rcases OR n (SetTable.below t.place (t.place[n]+1)) with z | z
  ·exact z
  ·have:=b2 n _ z hq
   omega
theorem xH {h:Heap}{it:Addr}{first f':Oz}{i n ep:Nat}{a:Addr} (e:h.get? it=some (itO first i n ep a)):((h.update it (P4 fun x=>x.setIfInBounds 0 f')).update it (P4 fun x=>x.setIfInBounds 1 (.int ((i:Int)+1) 0))).get? it=some (itO f' (i+1) n ep a):=by
 have e1:=Pb (P4 fun x=>x.setIfInBounds 0 f') e rfl
 have e2:=Pb (P4 fun x=>x.setIfInBounds 1 (.int ((i:Int)+1) 0)) e1 rfl
 rw[e2]
 rfl
theorem Bf {h:Heap}{it:Addr}{first:Oz}{i n ep:Nat}{a:Addr} (e:h.get? it=some (itO first i n ep a)):(h.update it (P4 fun x=>x.setIfInBounds 1 (.int ((i:Int)+1) 0))).get? it=some (itO first (i+1) n ep a):=by
 have e2:=Pb (P4 fun x=>x.setIfInBounds 1 (.int ((i:Int)+1) 0)) e rfl
 rw[e2]
 rfl
theorem xJ {a:Addr}{o:Obj}{es:Array (Int×Oz)}{ep:Nat}{t:SetTable}{sl g:Nat}{Q:Option (Oz×Nat)->OB->Prop} (ho:s.heap.get? a=some o) (hd:o.data=.set es ep t) (hf:t.fits es.size=true) (hb:w.params.followText "set-order"=true)
 (h:Q ((RO (w.params.setOrder a ep) es)[g]?.map fun e=>(e.2,sl)) s):wpAny (OY prog w) A (setNext a sl g ep) Q E s:=by
 unfold setNext
 refine wpAny_bind (QD ho hd hf ?_)
 dsimp only
 refine wpAny_bind (i8 ?_)
 rw[if_pos hb,if_neg (by simp)]
 refine wpAny_bind ?_
 unfold setWalk
 refine wpAny_bind (QD ho hd hf ?_)
 dsimp only
 refine wpAny_bind (i8 ?_)
 rw[if_pos hb]
 refine wpAny_bind (wpAny_askSetting (wpAny_pure (wpAny_pure ?_)))
 exact h
theorem xK {a:Addr}{o:Obj}{es:Array (Int×Oz)}{ep:Nat}{t:SetTable}{sl g:Nat}{Q:Option (Oz×Nat)->OB->Prop} (ho:s.heap.get? a=some o) (hd:o.data=.set es ep t) (hf:t.fits es.size=true) (hb:w.params.followText "set-order"=false)
 (hdr:(!t.plain&&decide (es.size > 1))=false) (ht:Tb false t) (h:Q (match es[SetTable.below t.place sl]?,t.place[SetTable.below t.place sl]? with | some (_,x),some j=>some (x,j+1) | _,_=>none) s):wpAny (OY prog w) A (setNext a sl g ep) Q E s:=by
 unfold setNext
 refine wpAny_bind (QD ho hd hf ?_)
 dsimp only
 refine wpAny_bind (i8 ?_)
 rw[hb,if_neg Pe]
 show wpAny _ _ (if (!t.plain&&decide (es.size > 1))=true then _ else _) _ _ s
 rw[hdr,if_neg Pe]
 refine wpAny_bind ?_
 show wpAny _ _ (if (!t.led&&!es.isEmpty)=true then unsupported "set:maker-not-led" else pure ()) _ _ s
 rw[ht.led]
 show wpAny _ _ (if (!(!false)&&!es.isEmpty)=true then unsupported "set:maker-not-led" else pure ()) _ _ s
 rw[if_neg (by simp)]
 exact wpAny_pure (wpAny_pure h)
theorem EY {a:Addr}{o:Obj}{es:Array (Int×Oz)}{ep:Nat}{t:SetTable}{p:Nat}{e:Int×Oz}{Q:Oz->OB->Prop} (ho:s.heap.get? a=some o) (hd:o.data=.set es ep t) (hf:t.fits es.size=true) (he:es[p]?=some e) (h:Q e.2 s):wpAny (OY prog w) A (setNextDrawn a p ep) Q E s:=by
 unfold setNextDrawn
 refine wpAny_bind (QD ho hd hf ?_)
 dsimp only
 rw[if_neg (by simp),he]
 exact wpAny_pure h
theorem Bg {it a:Addr}{ord:List Oz}{i:Nat}{x:Oz}{Q:UG->OB->Prop} (N:NX w s.heap it a ord i) (hne:it≠a) (hx:ord[i]?=some x) (hQ:∀ h',NX w h' it a ord (i+1)->PJ it s.heap h'->Q (.done (.ret x)) { s with heap:=h' }) :
 wpAny (OY prog w) A (Builtin.«set_iterator.__next__» { pos:=[.ref it] }) Q E s:=by
 obtain ⟨o,es,ep,t,first,ho,hd,hf,hi,m⟩:=N.ex
 have keep:∀ {h':Heap},PJ it s.heap h'->∀ b o,(∃ xs n,o.data=Data.seq xs n)->s.heap.get? b=some o->h'.get? b=some o:=fun {h'} sb b ob hs e=>(sb.2 b (fun z=>by
  subst z
  rw[hi] at e;cases e
  obtain ⟨xs,n,hs⟩:=hs
  cases hs)).trans e
 unfold Builtin.«set_iterator.__next__»
 refine wpAny_bind (wpAny_pure ?_)
 refine wpAny_bind (wpAny_fieldsOf hi rfl ?_)
 dsimp only
 refine wpAny_bind (Tj ho hd hf ?_)
 rw[if_neg (by simp)]
 cases m with
 | @A z _ hb =>
  have hg:(RO (w.params.setOrder a ep) es)[i]?.map (fun e=>(e.2,z.toNat))=some (x,z.toNat):=by
   rw[O2] at hx
   obtain ⟨e,e1,e2⟩:=Option.map_eq_some_iff.mp hx
   have e1':(RO (w.params.setOrder a ep) es)[i]?=some e:=by simpa using e1
   rw[e1',← e2];rfl
  refine wpAny_bind (xJ ho hd hf hb ?_)
  show wpAny _ _ (match (RO (w.params.setOrder a ep) es)[i]?.map (fun e=>(e.2,z.toNat)) with | some (x,next)=>_ | none=>_) _ _ s
  rw[hg]
  refine wpAny_bind (Q5 hi rfl (by simp) ?_)
  refine wpAny_bind (Q5 (Pb _ hi rfl) rfl (by simp) ?_)
  have sb:PJ it s.heap ((s.heap.update it (P4 fun y=>y.setIfInBounds 0 (.int (z.toNat:Int) 0))).update it (P4 fun y=>y.setIfInBounds 1 (.int ((i:Int)+1) 0))):=(Pp ..).trans (Pp ..)
  exact wpAny_pure (hQ _ ⟨⟨o,es,ep,t,_,(sb.2 a (PD hne)).trans ho,hd,hf,xH hi,.A hb⟩⟩ sb)
 | @B T pl _ hT hp =>
  have hs:∀ p∈pl,((fun p:Nat=>es[p]?.map (·.2)) p).isSome=true:=fun p hm=>by
   have:=hp p hm
   simp[this]
  rw[bK _ pl hs] at hx
  obtain ⟨p,e1,e2⟩:=Option.bind_eq_some_iff.mp hx
  obtain ⟨e,e3,e4⟩:=Option.map_eq_some_iff.mp e2
  subst e4
  obtain ⟨oT,g1,g2,nT,g3⟩:=id hT
  show wpAny _ _ (seqItems? (.ref T) >>= _) _ _ s
  refine wpAny_bind (UP g1 g3 ?_)
  have e5:((pl.map fun (p:Nat)=>RE p 0).toArray)[i]?=some (.int p 0):=by simp[e1]
  dsimp only
  rw[Qz,e5]
  dsimp only
  refine wpAny_bind (EY ho hd hf (by rw[Qz];exact e3) ?_)
  refine wpAny_bind (Q5 hi rfl (by simp) ?_)
  have sb:PJ it s.heap (s.heap.update it (P4 fun y=>y.setIfInBounds 1 (.int ((i:Int)+1) 0))):=Pp ..
  refine wpAny_pure (hQ _ ⟨⟨o,es,ep,t,_,(sb.2 a (PD hne)).trans ho,hd,hf,Bf hi,?_⟩⟩ sb)
  exact (Md.B (i:=i+1) hT hp).at (keep sb)
 | C hb hdr ht =>
  have hn:t.place.size=es.size:=by
   unfold SetTable.fits at hf
   simp only[OC,beq_iff_eq] at hf
   exact hf.1
  rw[O2] at hx
  obtain ⟨e,e1,e2⟩:=Option.map_eq_some_iff.mp hx
  have e1':es[i]?=some e:=by simpa using e1
  have hlt:i < es.size:=by
   rcases OR i es.size with q | q
   ·exact q
   ·rw[PX q] at e1';cases e1'
  obtain ⟨p1,j,p2,p3⟩:=pJ ht.ri hn hlt
  subst e2
  refine wpAny_bind (xK ho hd hf hb hdr ht ?_)
  rw[Qz,p1,e1',p2]
  refine wpAny_bind (Q5 hi rfl (by simp) ?_)
  refine wpAny_bind (Q5 (Pb _ hi rfl) rfl (by simp) ?_)
  have sb:PJ it s.heap ((s.heap.update it (P4 fun y=>y.setIfInBounds 0 (.int ((j+1:Nat):Int) 0))).update it (P4 fun y=>y.setIfInBounds 1 (.int ((i:Int)+1) 0))):=(Pp ..).trans (Pp ..)
  refine wpAny_pure (hQ _ ⟨⟨o,es,ep,t,_,(sb.2 a (PD hne)).trans ho,hd,hf,xH hi,?_⟩⟩ sb)
  rw[← p3]
  exact .C hb hdr ht
theorem nE {it:Addr}{f:Nat}{first:Oz}{i n ep:Nat}{a:Addr}{Q:UG->OB->Prop} (hh:A.handled=none) {h0:Heap} (sb0:PJ it h0 s.heap) (hi:∃ o vs,s.heap.get? it=some o/\o.data=.fields vs/\vs.size=5) (hf:f < 5)
 (hE:∀ h' e,TX it h0 h'->(∃ o,h'.get? e=some o/\o.cls=.type "StopIteration")->E (.ref e) { s with heap:=h' }) :
 wpAny (OY prog w) A (setField (.ref it) f .none >>= fun _=>newExc (.type "StopIteration") [] >>= fun e=>(raiseNew e:Sem UG)) Q E s:=by
 obtain ⟨o,vs,ho,hd,hv⟩:=hi
 refine wpAny_bind (Q5 ho hd (by omega) ?_)
 refine wpAny_bind ?_
 simp only[newExc,newTuple]
 refine wpAny_bind (Pf ?_ (by size_fits))
 refine wpAny_bind (m:=firstArgMember _ _) (wpAny_of_eq (a:=Rx) (by first | rfl | (simp only[firstArgMember];rfl)) ?_)
 refine Pf ?_ (by size_fits)
 simp only[raiseNew]
 refine wpAny_bind (wpAny_handled ?_)
 rw[hh]
 refine wpAny_throw ?_
 exact hE _ _ (((sb0.trans (Pp ..)).extBut.push _).push _) ⟨_,OI _ rfl,rfl⟩
theorem EZ {it a:Addr}{ord:List Oz}{i:Nat}{Q:UG->OB->Prop} (hh:A.handled=none) (N:NX w s.heap it a ord i) (hx:i=ord.length) (hn:∀ o es ep t,s.heap.get? a=some o->o.data=.set es ep t->ord.length=es.size)
 (hE:∀ h' e,TX it s.heap h'->(∃ o,h'.get? e=some o/\o.cls=.type "StopIteration")->E (.ref e) { s with heap:=h' }) :
 wpAny (OY prog w) A (Builtin.«set_iterator.__next__» { pos:=[.ref it] }) Q E s:=by
 obtain ⟨o,es,ep,t,first,ho,hd,hf,hi,m⟩:=N.ex
 have hn':=hn o es ep t ho hd
 unfold Builtin.«set_iterator.__next__»
 refine wpAny_bind (wpAny_pure ?_)
 refine wpAny_bind (wpAny_fieldsOf hi rfl ?_)
 dsimp only
 refine wpAny_bind (Tj ho hd hf ?_)
 rw[if_neg (by simp)]
 cases m with
 | @A z _ hb =>
  have hg:(RO (w.params.setOrder a ep) es)[i]?.map (fun e=>(e.2,z.toNat))=none:=by
   rw[hx,OQ,P1,PX (OE _)];rfl
  refine wpAny_bind (xJ ho hd hf hb ?_)
  show wpAny _ _ (match (RO (w.params.setOrder a ep) es)[i]?.map (fun e=>(e.2,z.toNat)) with | some (x,next)=>_ | none=>_) _ _ s
  rw[hg]
  exact nE (first:=.none) (i:=0) (n:=0) (ep:=0) (a:=a) hh (Sv _ _) ⟨_,_,hi,rfl,rfl⟩ (by decide) hE
 | @B T pl _ hT hp =>
  have hs:∀ p∈pl,((fun p:Nat=>es[p]?.map (·.2)) p).isSome=true:=fun p hm=>by
   have:=hp p hm
   simp[this]
  have hl:i=pl.length:=by
   have h1:=bK _ pl hs pl.length
   have h2:=List.length_filterMap_le (fun p:Nat=>es[p]?.map (·.2)) pl
   rcases OR i pl.length with q | q
   ·have h3:=bK _ pl hs i
    rw[hx,OJ (OE _),OF (by omega)] at h3
    have:=hs pl[(List.filterMap (fun p:Nat=>es[p]?.map (·.2)) pl).length] (Sh _)
    rw[Ql] at h3
    dsimp only at this
    rw[← h3] at this
    cases this
   ·omega
  obtain ⟨oT,g1,g2,nT,g3⟩:=id hT
  show wpAny _ _ (seqItems? (.ref T) >>= _) _ _ s
  refine wpAny_bind (UP g1 g3 ?_)
  have e5:((pl.map fun (p:Nat)=>RE p 0).toArray)[i]?=none:=by simp[hl]
  dsimp only
  rw[Qz,e5]
  dsimp only
  refine wpAny_bind (Q5 hi rfl (by simp) ?_)
  exact nE (s:={ s with heap:=s.heap.update it (P4 fun y=>y.setIfInBounds 0 (QH 0)) }) (first:=.none) (i:=0) (n:=0) (ep:=0) (a:=a) hh (Pp ..) ⟨_,_,Pb _ hi rfl,rfl,rfl⟩ (by decide) hE
 | C hb hdr ht =>
  have hns:t.place.size=es.size:=by
   unfold SetTable.fits at hf
   simp only[OC,beq_iff_eq] at hf
   exact hf.1
  have hie:i=es.size:=by rw[hx,OQ,P1]
  have hb2:=xG ht.ri hns
  refine wpAny_bind (xK ho hd hf hb hdr ht ?_)
  have e1:es[SetTable.below t.place (slotAt t.place i)]?=none:=PX (by rw[hie];exact hb2)
  rw[Qz,e1]
  exact nE (first:=.none) (i:=0) (n:=0) (ep:=0) (a:=a) hh (Sv _ _) ⟨_,_,hi,rfl,rfl⟩ (by decide) hE
theorem Bh {it a:Addr}{ord:List Oz}{i:Nat}{x:Oz}{Q:Option Oz->OB->Prop} (N:NX w s.heap it a ord i) (hne:it≠a) (hx:ord[i]?=some x) (hQ:∀ h',NX w h' it a ord (i+1)->PJ it s.heap h'->Q (some x) { s with heap:=h' }) :
 wpAny (OY prog w) A (TH (.ref it)) Q E s:=by
 have hT:s.TypeIs (.ref it) "set_iterator":=by
  obtain ⟨o,es,ep,t,first,ho,hd,hf,hi,m⟩:=N.ex
  exact ⟨_,hi,rfl⟩
 unfold TH
 exact wpAny_bind (wpAny_attempt (QF (name:=OT "__next__") hT i9 (Q7 i9 hT pI (Bg N hne hx fun h' k1 k2=>⟨x,rfl,wpAny_pure (hQ h' k1 k2)⟩) (sy _))))
theorem E1 {it a:Addr}{ord:List Oz}{i:Nat}{Q:Option Oz->OB->Prop} (hh:A.handled=none) (N:NX w s.heap it a ord i) (hx:i=ord.length) (hn:∀ o es ep t,s.heap.get? a=some o->o.data=.set es ep t->ord.length=es.size) (hQ:∀ h',TX it s.heap h'->Q none { s with heap:=h' }) :
 wpAny (OY prog w) A (TH (.ref it)) Q E s:=by
 have hT:s.TypeIs (.ref it) "set_iterator":=by
  obtain ⟨o,es,ep,t,first,ho,hd,hf,hi,m⟩:=N.ex
  exact ⟨_,hi,rfl⟩
 unfold TH
 refine wpAny_bind (wpAny_attempt (QF (name:=OT "__next__") hT i9 (Q7 i9 hT pI (EZ (A:=A.in1) hh N hx hn fun h' e k1 k2=>?_) (sy _))))
 obtain ⟨o,ho,hc⟩:=k2
 refine wpAny_bind (Q6 (T:="StopIteration") (b:=true) ⟨o,ho,hc⟩ isSubtype_stop ?_)
 exact wpAny_pure (hQ _ k1)
theorem iF {α:Type}:∀ {l:List α}{i:Nat} (h:i < l.length),(l[i] :: l.eraseIdx i).Perm l
 | x :: l,0,_=>.refl _
 | x :: l,i+1,h=>by
  have hl:i < l.length:=by simpa using h
  have:=iF hl
  show (l[i] :: x :: l.eraseIdx i).Perm (x :: l)
  exact (List.Perm.swap _ _ _).trans (this.cons x)
theorem wp_choose {src:Source}{n:Nat}{Q:Nat->OB->Prop} (hn:n≠0) (h:∀ i d,i < n->Q i { s with drawn:=d }):wpAny (OY prog w) A (choose src n) Q E s:=by
 intro Γ p _
 unfold choose
 rw[Sem.wp_choose]
 exact ⟨hn,h _ _ (SC _ (by omega))⟩
theorem vg {α:Type}:∀ (n:Nat) (xs:List α) (s:OB) {Q:List α->OB->Prop},xs.length=n->(∀ ys d,ys.Perm xs->Q ys { s with drawn:=d })->wpAny (OY prog w) A (drawOrder n xs) Q E s:=by
 intro n
 induction n with
 | zero =>
  intro xs s Q hl h
  have:=List.length_eq_zero_iff.mp hl
  subst this
  exact wpAny_pure (h [] s.drawn .nil)
 | succ n ih =>
  intro xs s Q hl h
  cases xs with
  | nil=>cases hl
  | cons x r =>
   show wpAny _ _ (choose Source.order (x :: r).length >>= fun i=>match (x :: r)[i]? with
    | some y=>drawOrder n ((x :: r).eraseIdx i) >>= fun l=>pure (y :: l)
    | none=>unsupported "internal:drawOrder") _ _ s
   refine wpAny_bind (wp_choose (by simp) fun i d hi=>?_)
   rw[OF hi]
   dsimp only
   refine wpAny_bind (ih _ _ (by rw[Ue hi];omega) fun ys d' hp=>?_)
   refine wpAny_pure (h _ d' ?_)
   exact (hp.cons _).trans (iF hi)
theorem Bj {α:Type} (next:Nat->Nat):∀ (fuel k:Nat) (left:List α) (out:Array α),left.length<=fuel->(Rv next fuel k left out).toList.Perm (out.toList++left):=by
 intro fuel
 induction fuel with
 | zero =>
  intro k left out h
  have:=List.length_eq_zero_iff.mp (Nat.le_zero.mp h)
  subst this
  show out.toList.Perm _
  rw[Pk]
 | succ fuel ih =>
  intro k left out h
  cases left with
  | nil =>
   have e:Rv next (fuel+1) k ([]:List α) out=out:=by
    show (match ([]:List α)[next k % 0]? with | some x=>Rv next fuel (k+1) (([]:List α).eraseIdx (next k % 0)) (out.push x) | none=>out)=out
    rfl
   rw[e,Pk]
  | cons x r =>
   have hi:next k % (x :: r).length < (x :: r).length:=SC _ (by simp)
   have e:Rv next (fuel+1) k (x :: r) out=Rv next fuel (k+1) ((x :: r).eraseIdx (next k % (x :: r).length)) (out.push (x :: r)[next k % (x :: r).length]):=by
    show (match (x :: r)[next k % (x :: r).length]? with | some y=>Rv next fuel (k+1) ((x :: r).eraseIdx (next k % (x :: r).length)) (out.push y) | none=>out)=_
    rw[OF hi]
   rw[e]
   refine (ih _ _ _ (by rw[Ue hi];simp at h ⊢;omega)).trans ?_
   rw[Array.toList_push,PF]
   exact (iF hi).append_left _
theorem vh {α:Type} (next:Nat->Nat) (xs:Array α):(RO next xs).toList.Perm xs.toList:=by
 have:=Bj next xs.size 0 xs.toList #[] (by simp)
 simpa [RO] using this
theorem xM {a:Addr}{o:Obj}{es:Array (Int×Oz)}{ep:Nat}{t:SetTable}{Q:Oz->OB->Prop} (ho:s.heap.get? a=some o) (hx:o.ExactSet) (hd:o.data=.set es ep t) (hf:t.fits es.size=true) (hb:es.size < RB) (ht:Tb (w.params.followText "set-order") t)
 (hQ:∀ h' d it ord,NX w h' it a ord 0->(∀ b o,s.heap.get? b=some o->h'.get? b=some o)->s.heap.objs.size<=it->s.heap.objs.size<=h'.objs.size->ord.Perm (es.toList.map (·.2))->Q (.ref it) { s with heap:=h',drawn:=d }) :
 wpAny (OY prog w) A (pyIter (.ref a)) Q E s:=by
 have hT:s.TypeIs (.ref a) "set":=⟨o,ho,hx.1⟩
 refine wpAny_pyIter_slot hT Up (Q7 Up hT qX ?_ (PySem.F.args_set_iter_1 _))
 unfold Builtin.«frozenset.__iter__» Builtin.Frozenset.slot0
 refine wpAny_bind (wpAny_bind (wpAny_pure (wpAny_pure ?_)))
 refine wpAny_bind ?_
 unfold Builtin.Frozenset.sizeOf
 refine wpAny_bind (Tj ho hd hf (wpAny_pure ?_))
 refine wpAny_bind ?_
 unfold setDrawn
 refine wpAny_bind (QD ho hd hf ?_)
 dsimp only
 refine wpAny_bind (i8 (wpAny_pure ?_))
 have nl:T6 (.type "set_iterator") (OT "__next__")=pure (some (.builtin "set_iterator.__next__")):=i9.lookup
 show wpAny _ _ (if (!w.params.followText "set-order"&&(!t.plain&&decide (es.size > 1)))=true then _ else _) _ _ s
 have al:a < s.heap.objs.size:=OG ho
 by_cases c:(!w.params.followText "set-order"&&(!t.plain&&decide (es.size > 1)))=true
 ·rw[if_pos c]
  refine wpAny_bind (vg es.size (O8 es.size) s (by simp) fun ys d hp=>?_)
  refine wpAny_bind ?_
  simp only[newTuple]
  have hsz:ys.length=es.size:=by rw[hp.length_eq,R6]
  refine Pf ?_ (by
   have:=Rr hb
   show (List.map (fun (i:Nat)=>QH i) ys).toArray.size<=sizeLine
   rw[OD,OQ];omega)
  refine wpAny_bind (wpAny_setEpoch_of (OA _ ho) hd hf ?_)
  refine wpAny_bind ?_
  unfold newFields
  refine Pf ?_ (by size_fits)
  refine wpAny_pure ⟨_,rfl,"set_iterator",_,⟨_,OI _ rfl,rfl⟩,nl,?_⟩
  have up:∀ b o,s.heap.get? b=some o->((s.heap.push { cls:=.type "tuple",data:=.seq (ys.map fun (i:Nat)=>QH i).toArray }).push { cls:=.type "set_iterator",data:=.fields #[.ref s.heap.objs.size,QH 0,.ref a,QH es.size,QH ep] }).get? b=some o:=fun b o e=>OA _ (OA _ e)
  have lt:∀ p∈ys,p < es.size:=fun p hm=>List.mem_range.mp (hp.mem_iff.mp hm)
  refine hQ _ d _ _ ⟨⟨o,es,ep,t,_,up _ _ ho,hd,hf,OI _ rfl,.B (pl:=ys) ⟨_,OA _ (OI _ rfl),rfl,_,rfl⟩ lt⟩⟩ up (by rw[PM];exact P9 _) (by rw[PM,PM];exact Nat.le_succ_of_le (P9 _)) ?_
  have h1:=hp.filterMap fun p=>es[p]?.map (·.2)
  refine h1.trans ?_
  have h2:(O8 es.size).filterMap (fun p=>es[p]?.map (·.2))=es.toList.map (·.2):=by
   refine Tg fun i=>?_
   rw[bK _ _ (fun p hm=>by have:=List.mem_range.mp hm;simp[this])]
   rcases OR i es.size with q | q
   ·rw[QB q];simp
   ·rw[OJ (by simpa using q),OJ (by simpa using q)];rfl
  rw[h2]
 ·rw[if_neg c]
  refine wpAny_bind (wpAny_pure ?_)
  refine wpAny_bind (wpAny_setEpoch_of ho hd hf ?_)
  refine wpAny_bind ?_
  unfold newFields
  refine Pf ?_ (by size_fits)
  refine wpAny_pure ⟨_,rfl,"set_iterator",_,⟨_,OI _ rfl,rfl⟩,nl,?_⟩
  have up:∀ b o,s.heap.get? b=some o->(s.heap.push { cls:=.type "set_iterator",data:=.fields #[QH 0,QH 0,.ref a,QH es.size,QH ep] }).get? b=some o:=fun b o e=>OA _ e
  cases hbt:w.params.followText "set-order" with
  | true =>
   refine hQ _ s.drawn _ _ ⟨⟨o,es,ep,t,_,up _ _ ho,hd,hf,OI _ rfl,.A (z:=0) hbt⟩⟩ up (OE _) (by rw[PM];exact P9 _) ?_
   exact (vh _ es).map _
  | false =>
   rw[hbt] at c ht
   have hdr:(!t.plain&&decide (es.size > 1))=false:=by
    cases z:(!t.plain&&decide (es.size > 1)) with
    | false=>rfl
    | true=>rw[z] at c;exact absurd rfl c
   exact hQ _ s.drawn _ _ ⟨⟨o,es,ep,t,_,up _ _ ho,hd,hf,OI _ rfl,.C (i:=0) hbt hdr ht⟩⟩ up (OE _) (by rw[PM];exact P9 _) (.refl _)
end
end BX
end
section
namespace BT
open PySem
inductive D where
 | non | bl (b:Bool) | int (i:Int) | str (x:Str) | tup (xs:List D) | lst (xs:List D)
inductive FK where
 | f (x:Str) | m (c x:Str) | l (i:Nat)
 deriving DecidableEq
instance:Coe String FK:=⟨fun s=>.f (OT s)⟩
inductive Cp where
 | p (d:D) | o (n:Nat)
inductive W where
 | p (d:D) | r (n:Nat) | k (kvs:List (Str×D)) | o (n:Nat) | c (f:FK) (cs:List Cp)
noncomputable def Cp.w:Cp->W
 | .p d=>.p d
 | .o n=>.o n
@[simp] theorem Cp.w_p (d:D):Cp.w (.p d)=.p d:=rfl
@[simp] theorem Cp.w_o (n:Nat):Cp.w (.o n)=.o n:=rfl
noncomputable def pK:W->Option Cp
 | .p d=>some (.p d)
 | .o n=>some (.o n)
 | .r _=>none
 | .k _=>none
 | .c _ _=>none
@[simp] theorem KW (d:D):pK (.p d)=some (.p d):=rfl
@[simp] theorem KY (n:Nat):pK (.o n)=some (.o n):=rfl
noncomputable abbrev Ky:=Int ⊕ Str
inductive Cl where
 | l (xs:List D) | o (c:Str) (fs:List (Str×W)) | d (kvs:List (Ky×D))
noncomputable abbrev HH:=List Cl
noncomputable abbrev Sl:=List (Option W)
set_option genInjectivity false in
inductive Bin where
 | add | sub | mul | mod | fdiv | pow
set_option genInjectivity false in
inductive Cm where
 | eq | ne | lt | le | gt | ge | isN | notN | mem | nmem
set_option genInjectivity false in
inductive Sr where
 | seq | rng1 | rng2 | rev | enu | zip2
inductive Bi where
 | len | abs | int | str | bool | list | tuple | all | any | isInt | isBool | isStr | isTuple | isList | min2 | max2
 | sum | sorted | max1 | lzip | nset | sset
set_option genInjectivity false in
inductive Me where
 | append | pop | extend | tindex | sindex | dget
set_option genInjectivity false in
mutual
inductive E where
 | var (i:Nat) (x:Str)
 | cst (d:D)
 | glo (x:Str)
 | bin (o:Bin) (a b:E)
 | neg (a:E)
 | not (a:E)
 | and (a b:E)
 | or (a b:E)
 | cmp (o:Cm) (a b:E)
 | chain (o o':Cm) (a b c:E)
 | ite (c a b:E)
 | tup (as:Es)
 | lst (mu:Bool) (as:Es)
 | idx (a i:E)
 | slc (a:E) (lo hi:Es)
 | rvs (a:E)
 | stp (mu:Bool) (k:Int) (a:E)
 | call (f:Str) (as:Es)
 | fld (a:E) (f:Str)
 | meth (o:E) (m:Str) (as:Es)
 | make (c:Str) (as:Es)
 | bi (b:Bi) (mu:Bool) (as:Es)
 | lsr (mu:Bool) (sr:Sr) (as:Es)
 | me (m:Me) (o:E) (as:Es)
 | comp (mu:Bool) (sr:Sr) (sa:Es) (tg:List Str) (fv:List (Nat×Str)) (cond:Es) (elt:E)
 | callv (i:Nat) (x:Str) (as:Es)
 | methL (o:E) (m:Str) (as:Es) (L:Nat) (fv:List (Nat×Str))
 | dnew
 | dgt (o k d:E)
 | dsi (o:E)
 | dli (o:E)
inductive Es where
 | nil
 | cons (a:E) (as:Es)
end
set_option genInjectivity false in
inductive S where
 | nil
 | seq (a b:S)
 | set (i:Nat) (x:Str) (e:E)
 | unp (xs:List (Nat×Str)) (e:E)
 | aug (i:Nat) (x:Str) (o:Bin) (e:E)
 | put (i:Nat) (x:Str) (k e:E)
 | putd (i:Nat) (x:Str) (k e:E)
 | setf (o:E) (f:Str) (e:E)
 | augf (o:E) (f:Str) (op:Bin) (e:E)
 | ex (e:E)
 | ret (e:E)
 | ife (c:E) (a b:S)
 | whl (c:E) (b:S)
 | for (tg:List (Nat×Str)) (sr:Sr) (sa:Es) (b:S)
 | brk | cnt
 | bad
set_option genInjectivity false in
structure Fn where
 ps:List Str
 ns:List Str
 body:S
noncomputable def bnd {α β:Type} (x:Option (α×HH)) (k:α->HH->Option β):Option β :=
 match x with | some (a,h)=>k a h | none=>none
@[simp] theorem aZ {α β:Type} (a:α) (h:HH) (k:α->HH->Option β):bnd (some (a,h)) k=k a h:=rfl
@[simp] theorem IF {α β:Type} (k:α->HH->Option β):bnd none k=none:=rfl
@[simp] noncomputable def lim:Nat:=100000
mutual
@[simp] noncomputable def eqv:D->D->Bool
 | .non,.non=>true
 | .bl a,.bl b=>a==b
 | .bl a,.int j=>(if a then (1:Int) else 0)==j
 | .int i,.bl b=>i==(if b then (1:Int) else 0)
 | .int i,.int j=>i==j
 | .str x,.str y=>x==y
 | .tup xs,.tup ys=>lW xs ys
 | .lst xs,.lst ys=>lW xs ys
 | _,_=>false
@[simp] noncomputable def lW:List D->List D->Bool
 | [],[]=>true
 | x :: xs,y :: ys=>eqv x y&&lW xs ys
 | _,_=>false
end
noncomputable def nF:Cl->Option (List D)
 | .l xs=>some xs
 | .o _ _=>none
 | .d _=>none
noncomputable def pL:Cl->Option (Str×List (Str×W))
 | .l _=>none
 | .o c fs=>some (c,fs)
 | .d _=>none
noncomputable def vj:Cl->Option (List (Ky×D))
 | .l _=>none
 | .o _ _=>none
 | .d kvs=>some kvs
@[simp] theorem Mn (kvs:List (Ky×D)):nF (.d kvs)=none:=rfl
@[simp] theorem Mp (kvs:List (Ky×D)):pL (.d kvs)=none:=rfl
@[simp] theorem Mq (kvs:List (Ky×D)):vj (.d kvs)=some kvs:=rfl
@[simp] theorem Mr (xs:List D):vj (.l xs)=none:=rfl
@[simp] theorem Ms (c:Str) (fs:List (Str×W)):vj (.o c fs)=none:=rfl
@[simp] theorem Mt (xs:List D):nF (.l xs)=some xs:=rfl
@[simp] theorem Mu (c:Str) (fs:List (Str×W)):nF (.o c fs)=none:=rfl
@[simp] theorem Mv (xs:List D):pL (.l xs)=none:=rfl
@[simp] theorem E2 (c:Str) (fs:List (Str×W)):pL (.o c fs)=some (c,fs):=rfl
noncomputable def lat (h:HH) (n:Nat):Option (List D):=(h[n]?).bind nF
noncomputable def oat (h:HH) (n:Nat):Option (Str×List (Str×W)):=(h[n]?).bind pL
noncomputable def dat (h:HH) (n:Nat):Option (List (Ky×D)):=(h[n]?).bind vj
noncomputable def lX:D->Option Ky
 | .non=>none
 | .bl _=>none
 | .int i=>some (.inl i)
 | .str x=>some (.inr x)
 | .tup _=>none
 | .lst _=>none
@[simp] theorem IG (i:Int):lX (.int i)=some (.inl i):=rfl
@[simp] theorem II (x:Str):lX (.str x)=some (.inr x):=rfl
noncomputable def qY:Ky->D
 | .inl i=>.int i
 | .inr x=>.str x
@[simp] theorem Mw (i:Int):qY (.inl i)=.int i:=rfl
@[simp] theorem Mx (x:Str):qY (.inr x)=.str x:=rfl
noncomputable def DO (kvs:List (Ky×D)) (k:Ky):Option D:=(kvs.find? fun kv=>decide (kv.1=k)).map (·.2)
noncomputable def jX (kvs:List (Ky×D)) (k:Ky) (v:D):List (Ky×D) :=
 if (kvs.any fun kv=>decide (kv.1=k))=true then kvs.map (fun kv=>if kv.1=k then (kv.1,v) else kv) else kvs++[(k,v)]
noncomputable def ef (kvs:List (Ky×D)):List D:=kvs.map fun q=>.tup [qY q.1,q.2]
noncomputable def rd (w:W) (h:HH):Option D:=match w with
 | .p d=>some d
 | .r n=>(lat h n).map D.lst
 | .k _=>none
 | .o _=>none
 | .c _ _=>none
@[simp] theorem Oj (d:D) (h:HH):rd (.p d) h=some d:=rfl
noncomputable def big (i:Int):Bool:=decide (i.natAbs < 2 ^ 64)
noncomputable def rep (k:Nat) (xs:List D):List D:=(OX k xs).flatten
noncomputable def jH:Bin->D->D->Option D
 | .add,.int i,.int j=>some (.int (i+j))
 | .add,.str x,.str y=>if x.length+y.length<=lim then some (.str (x++y)) else none
 | .add,.tup xs,.tup ys=>if xs.length+ys.length<=lim then some (.tup (xs++ys)) else none
 | .add,.lst xs,.lst ys=>if xs.length+ys.length<=lim then some (.lst (xs++ys)) else none
 | .sub,.int i,.int j=>some (.int (i - j))
 | .mul,.int i,.int j=>if big i||big j then some (.int (i*j)) else none
 | .mul,.tup xs,.int k=>if 2<=k&&k<=1000&&!xs.isEmpty&&xs.length*k.toNat<=lim then some (.tup (rep k.toNat xs)) else none
 | .mul,.lst xs,.int k=>if -1000<=k&&k<=1000&&xs.length*k.toNat<=lim then some (.lst (rep k.toNat xs)) else none
 | .mod,.int i,.int j=>if 0 < j then some (.int (i % j)) else none
 | .fdiv,.int i,.int j=>if 0 < j&&j < 1073741824 then some (.int (i / j)) else none
 | .pow,.int i,.int j=>if 0<=j&&j<=100&&big i then some (.int (i ^ j.toNat)) else none
 | _,_,_=>none
noncomputable def kO:Bin->D->D->Option D
 | .add,.int i,.int j=>some (.int (i+j))
 | .sub,.int i,.int j=>some (.int (i - j))
 | .mul,.int i,.int j=>if big i||big j then some (.int (i*j)) else none
 | _,_,_=>none
@[simp] theorem IJ (i j:Int):kO .add (.int i) (.int j)=some (.int (i+j)):=rfl
@[simp] theorem IK (i j:Int):kO .sub (.int i) (.int j)=some (.int (i - j)):=rfl
@[simp] theorem pM (i j:Int):kO .mul (.int i) (.int j)=if big i||big j then some (.int (i*j)) else none:=rfl
@[simp] noncomputable def place (n:Nat) (i:Int):Option Nat :=
 if 0<=i then (if i < n then some i.toNat else none) else if -(n:Int)<=i then some (i+n).toNat else none
@[simp] noncomputable def atP {α:Type} (xs:List α) (i:Int):Option α:=(place xs.length i).bind fun j=>xs[j]?
@[simp] noncomputable def cT (k:Str):List (Str×D)->Option D
 | []=>none
 | (x,d) :: r=>if k=x then some d else cT k r
noncomputable def aD:D->D->Option D
 | .tup xs,.int i=>atP xs i
 | .lst xs,.int i=>atP xs i
 | .str x,.int i=>if x.length<=lim then (atP x.cps.toList i).map fun c=>.str ⟨#[c]⟩ else none
 | _,_=>none
@[simp] noncomputable def clip (n d:Nat):Option Int->Nat
 | none=>d
 | some v=>if v < 0 then (v+(n:Int)).toNat else if v<=(n:Int) then v.toNat else n
@[simp] noncomputable def cut (xs:List D) (lo hi:Option Int):List D:=(xs.drop (clip xs.length 0 lo)).take (clip xs.length xs.length hi - clip xs.length 0 lo)
@[simp] noncomputable def nG:List D->Option (Option Int)
 | []=>some none
 | [.int i]=>some (some i)
 | _=>none
noncomputable def qZ (x:D) (lo hi:Option Int):Option D:=match x with
 | .tup xs=>some (.tup (cut xs lo hi))
 | .lst xs=>some (.lst (cut xs lo hi))
 | _=>none
noncomputable def dok:Nat->D->Bool
 | _,.non=>true
 | _,.bl _=>true
 | _,.int _=>true
 | _,.str _=>true
 | 0,.tup _=>false
 | 0,.lst _=>false
 | n+1,.tup xs=>xs.all (dok n)
 | n+1,.lst xs=>xs.all (dok n)
@[simp] theorem KZ (n:Nat):dok n .non=true:=by cases n<;>rfl
@[simp] theorem Mz (n:Nat) (b:Bool):dok n (.bl b)=true:=by cases n<;>rfl
@[simp] theorem sA (n:Nat) (i:Int):dok n (.int i)=true:=by cases n<;>rfl
@[simp] theorem K0 (n:Nat) (x:Str):dok n (.str x)=true:=by cases n<;>rfl
@[simp] theorem sC (n:Nat) (xs:List D):dok (n+1) (.tup xs)=xs.all (dok n):=rfl
@[simp] theorem sD (n:Nat) (xs:List D):dok (n+1) (.lst xs)=xs.all (dok n):=rfl
noncomputable def bA (x y:D):Bool:=dok 100 x||dok 100 y
@[simp] theorem IL (x:D) (y:Str):bA x (.str y)=true:=by simp[bA]
@[simp] theorem IM (x:D) (y:Int):bA x (.int y)=true:=by simp[bA]
@[simp] theorem Ho (x:D) (y:Str):bA (.str y) x=true:=by simp[bA]
@[simp] theorem Hq (x:D) (y:Int):bA (.int y) x=true:=by simp[bA]
@[simp] theorem Hr (x:D):bA x (.tup [])=true:=by simp[bA,dok]
@[simp] theorem Hs (x:D):bA x (.lst [])=true:=by simp[bA,dok]
@[simp] theorem K1 (x:D) (b:Bool):bA x (.bl b)=true:=by simp[bA]
theorem gi {x y:D} (h:dok 100 y=true):bA x y=true:=by simp[bA,h]
noncomputable def gj:D->Bool
 | .non=>true
 | .bl _=>false
 | .int _=>false
 | .str _=>false
 | .tup _=>false
 | .lst _=>false
@[simp] theorem Hu:gj .non=true:=rfl
@[simp] theorem IP (z:Bool):gj (.bl z)=false:=rfl
@[simp] theorem Hv (z:Int):gj (.int z)=false:=rfl
@[simp] theorem Hw (z:Str):gj (.str z)=false:=rfl
@[simp] theorem Hx (z:List D):gj (.tup z)=false:=rfl
@[simp] theorem Hy (z:List D):gj (.lst z)=false:=rfl
noncomputable def dX:Cm->D->D->Option Bool
 | .eq,x,y=>if bA x y then some (eqv x y) else none
 | .ne,x,y=>if bA x y then some (!eqv x y) else none
 | .lt,.int i,.int j=>some (decide (i < j))
 | .le,.int i,.int j=>some (decide (i<=j))
 | .gt,.int i,.int j=>some (decide (j < i))
 | .ge,.int i,.int j=>some (decide (j<=i))
 | .isN,x,.non=>some (gj x)
 | .notN,x,.non=>some (!gj x)
 | .mem,x,.tup ys=>if ys.all fun y=>bA y x then some (ys.any fun y=>eqv y x) else none
 | .mem,x,.lst ys=>if ys.all fun y=>bA y x then some (ys.any fun y=>eqv y x) else none
 | .nmem,x,.tup ys=>if ys.all fun y=>bA y x then some (!ys.any fun y=>eqv y x) else none
 | .nmem,x,.lst ys=>if ys.all fun y=>bA y x then some (!ys.any fun y=>eqv y x) else none
 | _,_,_=>none
@[simp] noncomputable def intsOf:List D->Option (List Int)
 | []=>some []
 | .int i :: r=>(intsOf r).map (i :: ·)
 | _=>none
@[simp] noncomputable def allB:List D->Option Bool
 | []=>some true
 | .bl b :: r=>if b then allB r else some false
 | _=>none
@[simp] noncomputable def anyB:List D->Option Bool
 | []=>some false
 | .bl b :: r=>if b then some true else anyB r
 | _=>none
noncomputable def isI:D->Bool
 | .non=>false
 | .bl _=>true
 | .int _=>true
 | .str _=>false
 | .tup _=>false
 | .lst _=>false
@[simp] theorem K2:isI .non=false:=rfl
@[simp] theorem MA (z:Bool):isI (.bl z)=true:=rfl
@[simp] theorem K3 (z:Int):isI (.int z)=true:=rfl
@[simp] theorem K4 (z:Str):isI (.str z)=false:=rfl
@[simp] theorem K5 (z:List D):isI (.tup z)=false:=rfl
@[simp] theorem K6 (z:List D):isI (.lst z)=false:=rfl
noncomputable def isB:D->Bool
 | .non=>false
 | .bl _=>true
 | .int _=>false
 | .str _=>false
 | .tup _=>false
 | .lst _=>false
@[simp] theorem K7:isB .non=false:=rfl
@[simp] theorem MB (z:Bool):isB (.bl z)=true:=rfl
@[simp] theorem K8 (z:Int):isB (.int z)=false:=rfl
@[simp] theorem K9 (z:Str):isB (.str z)=false:=rfl
@[simp] theorem La (z:List D):isB (.tup z)=false:=rfl
@[simp] theorem Lb (z:List D):isB (.lst z)=false:=rfl
noncomputable def isS:D->Bool
 | .non=>false
 | .bl _=>false
 | .int _=>false
 | .str _=>true
 | .tup _=>false
 | .lst _=>false
@[simp] theorem Lc:isS .non=false:=rfl
@[simp] theorem MC (z:Bool):isS (.bl z)=false:=rfl
@[simp] theorem Ld (z:Int):isS (.int z)=false:=rfl
@[simp] theorem Lg (z:Str):isS (.str z)=true:=rfl
@[simp] theorem Lh (z:List D):isS (.tup z)=false:=rfl
@[simp] theorem Li (z:List D):isS (.lst z)=false:=rfl
noncomputable def isT:D->Bool
 | .non=>false
 | .bl _=>false
 | .int _=>false
 | .str _=>false
 | .tup _=>true
 | .lst _=>false
@[simp] theorem Lj:isT .non=false:=rfl
@[simp] theorem MD (z:Bool):isT (.bl z)=false:=rfl
@[simp] theorem Lk (z:Int):isT (.int z)=false:=rfl
@[simp] theorem Ll (z:Str):isT (.str z)=false:=rfl
@[simp] theorem Lm (z:List D):isT (.tup z)=true:=rfl
@[simp] theorem Ln (z:List D):isT (.lst z)=false:=rfl
noncomputable def isL:D->Bool
 | .non=>false
 | .bl _=>false
 | .int _=>false
 | .str _=>false
 | .tup _=>false
 | .lst _=>true
@[simp] theorem Lo:isL .non=false:=rfl
@[simp] theorem ME (z:Bool):isL (.bl z)=false:=rfl
@[simp] theorem Lp (z:Int):isL (.int z)=false:=rfl
@[simp] theorem Lq (z:Str):isL (.str z)=false:=rfl
@[simp] theorem Lr (z:List D):isL (.tup z)=false:=rfl
@[simp] theorem Ls (z:List D):isL (.lst z)=true:=rfl
noncomputable def sortI (ns:List Int):List Int:=ns.mergeSort fun a b=>decide (a<=b)
noncomputable def MF:List Int->Option Int
 | []=>none
 | n :: ns=>some (ns.foldl max n)
@[simp] noncomputable def Bk:List D->List D->List D
 | x :: xs,y :: ys=>.tup [x,y] :: Bk xs ys
 | _,_=>[]
noncomputable def ded (ns:List Int):List Int:=ns.foldl (fun σ v=>if σ.any (·==v) then σ else σ++[v]) []
noncomputable def biD:Bi->List D->Option D
 | .len,[.tup xs]=>some (.int xs.length)
 | .len,[.lst xs]=>some (.int xs.length)
 | .len,[.str x]=>if x.length<=lim then some (.int x.length) else none
 | .abs,[.int i]=>some (.int (if i < 0 then -i else i))
 | .int,[.int i]=>some (.int i)
 | .int,[.bl b]=>some (.int (if b then 1 else 0))
 | .str,[.int i]=>if big i then some (.str (toString i)) else none
 | .tuple,[.lst xs]=>some (.tup xs)
 | .tuple,[.tup xs]=>some (.tup xs)
 | .list,[.lst xs]=>some (.lst xs)
 | .list,[.tup xs]=>some (.lst xs)
 | .all,[.lst xs]=>(allB xs).map .bl
 | .any,[.lst xs]=>(anyB xs).map .bl
 | .isInt,[x]=>some (.bl (isI x))
 | .isBool,[x]=>some (.bl (isB x))
 | .isStr,[x]=>some (.bl (isS x))
 | .isTuple,[x]=>some (.bl (isT x))
 | .isList,[x]=>some (.bl (isL x))
 | .min2,[.int i,.int j]=>some (.int (if j < i then j else i))
 | .max2,[.int i,.int j]=>some (.int (if j > i then j else i))
 | .sorted,[.lst xs]=>(intsOf xs).bind fun ns=>if ns.length < 64 then some (.lst ((sortI ns).map .int)) else none
 | .max1,[.lst xs]=>(intsOf xs).bind fun ns=>(MF ns).map .int
 | .sum,[.lst xs]=>(intsOf xs).map fun ns=>.int ns.sum
 | .nset,[.lst xs]=>(intsOf xs).bind fun ns=>if ns.length < 1000 then some (.int ((ded ns).length:Nat)) else none
 | .sset,[.lst xs]=>(intsOf xs).bind fun ns=>if ns.length < 64 then some (.lst ((sortI (ded ns)).map .int)) else none
 | .lzip,[.tup xs,.tup ys]=>if 0 < xs.length/\xs.length=ys.length then some (.lst (Bk xs ys)) else none
 | _,_=>none
@[simp] noncomputable def jI:Nat->List D->List D
 | _,[]=>[]
 | k,x :: r=>.tup [.int k,x] :: jI (k+1) r
noncomputable def nH:D->Option (List D)
 | .tup xs=>some xs
 | .lst xs=>some xs
 | _=>none
noncomputable def upto (lo:Int) (n:Nat):List D:=(O8 n).map fun (k:Nat)=>D.int (lo+(k:Int))
noncomputable def dH:Sr->List D->Option (List D)
 | .seq,[x]=>nH x
 | .rng1,[.int n]=>if -100000<=n&&n<=100000 then some (upto 0 n.toNat) else none
 | .rng2,[.int a,.int b]=>if -100000<=a&&a<=100000&&-100000<=b&&b<=100000 then some (upto a (b - a).toNat) else none
 | .rev,[.lst xs]=>some xs.reverse
 | .enu,[.lst xs]=>some (jI 0 xs)
 | .zip2,[.lst xs,.lst ys]=>some (Bk xs ys)
 | _,_=>none
@[simp] noncomputable def iG (x:D):List D->Nat->Option Nat
 | [],_=>none
 | y :: r,k=>if eqv y x then some k else iG x r (k+1)
@[simp] noncomputable def IQ (c:Nat):List Nat->Nat->Option Nat
 | [],_=>none
 | y :: r,k=>if y=c then some k else IQ c r (k+1)
@[simp] noncomputable def aV:List W->Option (List D)
 | []=>some []
 | .p d :: r=>(aV r).map (d :: ·)
 | .r _ :: _=>none
 | .k _ :: _=>none
 | .o _ :: _=>none
 | .c _ _ :: _=>none
noncomputable def meD:Me->D->List D->Option D
 | .tindex,.tup xs,[x]=>if xs.all fun y=>bA y x then (iG x xs 0).map fun (q:Nat)=>D.int (q:Int) else none
 | .sindex,.str x,[.str y]=>match Builtin.Str.occurrences x y 0 x.length 1 with
  | i :: _=>some (.int (i:Int))
  | []=>none
 | _,_,_=>none
theorem xN {xs:List D}{x:D}:meD .tindex (.tup xs) [x]=if xs.all fun y=>bA y x then (iG x xs 0).map fun (q:Nat)=>D.int (q:Int) else none:=rfl
noncomputable def meW (m:Me) (o:W) (as:List W) (h:HH):Option (W×HH):=match m,o,as with
 | .append,.r n,[.p d]=>match lat h n with
  | some xs=>if xs.length < lim then some (.p .non,h.set n (.l (xs++[d]))) else none
  | none=>none
 | .pop,.r n,[]=>match lat h n with
  | some xs=>match xs.getLast? with
   | some d=>some (.p d,h.set n (.l xs.dropLast))
   | none=>none
  | none=>none
 | .extend,.r n,[w]=>match lat h n,(rd w h).bind nH with
  | some xs,some ys=>if xs.length+ys.length<=lim then some (.p .non,h.set n (.l (xs++ys))) else none
  | _,_=>none
 | .dget,.k kvs,[.p (.str x)]=>some (.p ((cT x kvs).getD .non),h)
 | .dget,.k _,[.p .non]=>some (.p .non,h)
 | .dget,.k kvs,[.p (.str x),.p d]=>some (.p ((cT x kvs).getD d),h)
 | m,.p d,as=>match aV as with
  | some ds=>(meD m d ds).map fun x=>(.p x,h)
  | none=>none
 | _,_,_=>none
section
variable (n:Nat) (d:D) (h:HH) (kvs:List (Str×D)) (x:Str) (as:List W)
@[simp] theorem q8:meW .append (.r n) [.p d] h=match lat h n with
 | some xs=>if xs.length < lim then some (.p .non,h.set n (.l (xs++[d]))) else none
 | none=>none:=rfl
@[simp] theorem Bl:meW .pop (.r n) [] h=match lat h n with
 | some xs=>match xs.getLast? with
  | some d=>some (.p d,h.set n (.l xs.dropLast))
  | none=>none
 | none=>none:=rfl
@[simp] theorem q9 (w:W):meW .extend (.r n) [w] h=match lat h n,(rd w h).bind nH with
 | some xs,some ys=>if xs.length+ys.length<=lim then some (.p .non,h.set n (.l (xs++ys))) else none
 | _,_=>none:=rfl
@[simp] theorem IR:meW .dget (.k kvs) [.p (.str x)] h=some (.p ((cT x kvs).getD .non),h):=rfl
@[simp] theorem E3:meW .dget (.k kvs) [.p .non] h=some (.p .non,h):=rfl
@[simp] theorem Hz:meW .dget (.k kvs) [.p (.str x),.p d] h=some (.p ((cT x kvs).getD d),h):=rfl
@[simp] theorem kP:meW .tindex (.p d) as h=match aV as with
 | some ds=>(meD .tindex d ds).map fun x=>(.p x,h)
 | none=>none:=rfl
@[simp] theorem E4:meW .sindex (.p d) as h=match aV as with
 | some ds=>(meD .sindex d ds).map fun x=>(.p x,h)
 | none=>none:=rfl
end
noncomputable def new (mu:Bool) (xs:List D) (h:HH):W×HH:=if mu then (.r h.length,h++[.l xs]) else (.p (.lst xs),h)
@[simp] theorem N3 (xs:List D) (h:HH):new false xs h=(.p (.lst xs),h):=rfl
@[simp] theorem N4 (xs:List D) (h:HH):new true xs h=(.r h.length,h++[.l xs]):=rfl
@[simp] noncomputable def rds (ws:List W) (h:HH):Option (List D):=match ws with
 | []=>some []
 | w :: r=>(rd w h).bind fun d=>(rds r h).map (d :: ·)
noncomputable def Ol:D->Option (List D)
 | .lst xs=>some xs
 | _=>none
noncomputable def unpack (n:Nat):D->Option (List D)
 | .tup xs=>if xs.length=n then some xs else none
 | _=>none
noncomputable def target (n:Nat) (d:D):Option (List D):=if n=1 then some [d] else unpack n d
section
variable (i j k a b:Int) (c:Bool) (x y:Str) (xs ys:List D) (kvs:List (Str×D)) (d e:D) (lo hi:Option Int)
@[simp] theorem fD:jH .add (.int i) (.int j)=some (.int (i+j)):=rfl
@[simp] theorem cW:jH .add (.str x) (.str y)=if x.length+y.length<=lim then some (.str (x++y)) else none:=rfl
@[simp] theorem cX:jH .add (.tup xs) (.tup ys)=if xs.length+ys.length<=lim then some (.tup (xs++ys)) else none:=rfl
@[simp] theorem cY:jH .add (.lst xs) (.lst ys)=if xs.length+ys.length<=lim then some (.lst (xs++ys)) else none:=rfl
@[simp] theorem fE:jH .sub (.int i) (.int j)=some (.int (i - j)):=rfl
@[simp] theorem fF:jH .mul (.int i) (.int j)=if big i||big j then some (.int (i*j)) else none:=rfl
@[simp] theorem cZ:jH .mul (.tup xs) (.int k)=if 2<=k&&k<=1000&&!xs.isEmpty&&xs.length*k.toNat<=lim then some (.tup (rep k.toNat xs)) else none:=rfl
@[simp] theorem c6:jH .mul (.lst xs) (.int k)=if -1000<=k&&k<=1000&&xs.length*k.toNat<=lim then some (.lst (rep k.toNat xs)) else none:=rfl
@[simp] theorem fG:jH .mod (.int i) (.int j)=if 0 < j then some (.int (i % j)) else none:=rfl
@[simp] theorem d7:jH .fdiv (.int i) (.int j)=if 0 < j&&j < 1073741824 then some (.int (i / j)) else none:=rfl
@[simp] theorem fH:jH .pow (.int i) (.int j)=if 0<=j&&j<=100&&big i then some (.int (i ^ j.toNat)) else none:=rfl
@[simp] theorem nI:aD (.tup xs) (.int i)=atP xs i:=rfl
@[simp] theorem aW:aD (.lst xs) (.int i)=atP xs i:=rfl
@[simp] theorem gk:aD (.str x) (.int i)=if x.length<=lim then (atP x.cps.toList i).map fun c=>.str ⟨#[c]⟩ else none:=rfl
@[simp] theorem xO:qZ (.tup xs) lo hi=some (.tup (cut xs lo hi)):=rfl
@[simp] theorem MG:qZ (.lst xs) lo hi=some (.lst (cut xs lo hi)):=rfl
@[simp] theorem ko:dX .eq d e=if bA d e then some (eqv d e) else none:=rfl
@[simp] theorem nJ:dX .ne d e=if bA d e then some (!eqv d e) else none:=rfl
@[simp] theorem ff:dX .lt (.int i) (.int j)=some (decide (i < j)):=rfl
@[simp] theorem fh:dX .le (.int i) (.int j)=some (decide (i<=j)):=rfl
@[simp] theorem fj:dX .gt (.int i) (.int j)=some (decide (j < i)):=rfl
@[simp] theorem fk:dX .ge (.int i) (.int j)=some (decide (j<=i)):=rfl
@[simp] theorem dI:dX .isN d .non=some (gj d):=rfl
@[simp] theorem cD:dX .notN d .non=some (!gj d):=rfl
@[simp] theorem bE:dX .mem d (.tup ys)=if ys.all fun y=>bA y d then some (ys.any fun y=>eqv y d) else none:=rfl
@[simp] theorem bL:dX .mem d (.lst ys)=if ys.all fun y=>bA y d then some (ys.any fun y=>eqv y d) else none:=rfl
@[simp] theorem bB:dX .nmem d (.tup ys)=if ys.all fun y=>bA y d then some (!ys.any fun y=>eqv y d) else none:=rfl
@[simp] theorem aO:dX .nmem d (.lst ys)=if ys.all fun y=>bA y d then some (!ys.any fun y=>eqv y d) else none:=rfl
@[simp] theorem jJ:biD .len [.tup xs]=some (.int xs.length):=rfl
@[simp] theorem gR:biD .len [.lst xs]=some (.int xs.length):=rfl
@[simp] theorem vm:biD .len [.str x]=if x.length<=lim then some (.int x.length) else none:=rfl
@[simp] theorem Lu:biD .abs [.int i]=some (.int (if i < 0 then -i else i)):=rfl
@[simp] theorem Lv:biD .int [.int i]=some (.int i):=rfl
@[simp] theorem HA:biD .int [.bl c]=some (.int (if c then 1 else 0)):=rfl
@[simp] theorem Ly:biD .str [.int i]=if big i then some (.str (toString i)) else none:=rfl
@[simp] theorem DP:biD .tuple [.lst xs]=some (.tup xs):=rfl
@[simp] theorem DQ:biD .tuple [.tup xs]=some (.tup xs):=rfl
theorem pN:biD .sset [.lst xs]=(intsOf xs).bind fun ns=>if ns.length < 64 then some (.lst ((sortI (ded ns)).map .int)) else none:=rfl
theorem sortI_perm (ns:List Int):(sortI ns).Perm ns:=List.mergeSort_perm _ _
theorem pO (ns:List Int):(sortI ns).Pairwise (·<=·):=by
 have:=List.pairwise_mergeSort (le:=fun (a b:Int)=>decide (a<=b)) (fun a b c h1 h2=>by simp only[decide_eq_true_eq] at *;omega) (fun a b=>by simp only[QN,decide_eq_true_eq];omega) ns
 exact this.imp fun h=>of_decide_eq_true h
@[simp] theorem E5:biD .list [.lst xs]=some (.lst xs):=rfl
@[simp] theorem E6:biD .list [.tup xs]=some (.lst xs):=rfl
@[simp] theorem Lz:biD .all [.lst xs]=(allB xs).map .bl:=rfl
@[simp] theorem LA:biD .any [.lst xs]=(anyB xs).map .bl:=rfl
@[simp] theorem HB:biD .isInt [d]=some (.bl (isI d)):=rfl
@[simp] theorem E7:biD .isBool [d]=some (.bl (isB d)):=rfl
@[simp] theorem HC:biD .isStr [d]=some (.bl (isS d)):=rfl
@[simp] theorem DR:biD .isTuple [d]=some (.bl (isT d)):=rfl
@[simp] theorem E8:biD .isList [d]=some (.bl (isL d)):=rfl
@[simp] theorem LB:biD .min2 [.int i,.int j]=some (.int (if j < i then j else i)):=rfl
@[simp] theorem LC:biD .max2 [.int i,.int j]=some (.int (if j > i then j else i)):=rfl
@[simp] theorem MH:nH (.tup xs)=some xs:=rfl
@[simp] theorem MI:nH (.lst xs)=some xs:=rfl
@[simp] theorem xP:dH .seq [d]=nH d:=rfl
@[simp] theorem bI:dH .rng1 [.int a]=if -100000<=a&&a<=100000 then some (upto 0 a.toNat) else none:=rfl
@[simp] theorem gS:dH .rng2 [.int a,.int b]=if -100000<=a&&a<=100000&&-100000<=b&&b<=100000 then some (upto a (b - a).toNat) else none:=rfl
@[simp] theorem IS:dH .rev [.lst xs]=some xs.reverse:=rfl
@[simp] theorem IT:dH .enu [.lst xs]=some (jI 0 xs):=rfl
@[simp] theorem IU:dH .zip2 [.lst xs,.lst ys]=some (Bk xs ys):=rfl
@[simp] theorem E9:meD .tindex (.tup xs) [d]=if xs.all fun y=>bA y d then (iG d xs 0).map fun (q:Nat)=>D.int (q:Int) else none:=rfl
@[simp] theorem xQ (n:Nat):unpack n (.tup xs)=if xs.length=n then some xs else none:=rfl
end
@[simp] theorem gn (d:D):target 1 d=some [d]:=rfl
@[simp] theorem IV (d:D):target 2 d=unpack 2 d:=rfl
noncomputable def sF (o:Option D) (out:List D) (h:HH):Option (List D×HH):=some (match o with | some x=>x :: out | none=>out,h)
noncomputable def vn (r:HH->Option (List D×HH)) (o:Option D) (h:HH):Option (List D×HH):=bnd (r h) (sF o)
@[simp] theorem kQ (o:Option D) (out:List D) (h:HH):sF o out h=some (match o with | some x=>x :: out | none=>out,h):=rfl
@[simp] theorem nK (r:HH->Option (List D×HH)) (o:Option D) (h:HH):vn r o h=bnd (r h) (sF o):=rfl
noncomputable def bf (f:List D->HH->Option (Option D×HH)) (n:Nat):List D->HH->Option (List D×HH)
 | [],h=>some ([],h)
 | d :: r,h=>match target n d with
  | some ds=>bnd (f ds h) (vn (bf f n r))
  | none=>none
noncomputable def c7 (d:D):Option W:=some (.p d)
noncomputable abbrev EH:=HH->Option (W×HH)
noncomputable abbrev OpW:=W->W->HH->Option (W×HH)
@[simp] noncomputable def k2 (eb:EH) (op:OpW) (x:W) (h:HH):Option (W×HH):=bnd (eb h) (op x)
@[simp] noncomputable def lY (o:Bin) (x y:W) (h:HH):Option (W×HH):=match rd x h,rd y h with
 | some d,some e=>(jH o d e).map fun z=>(.p z,h)
 | _,_=>none
noncomputable def inK (o:Cm) (x:W) (kvs:List (Str×D)):Option Bool:=match o,x with
 | .mem,.p (.str s)=>some (cT s kvs).isSome
 | .nmem,.p (.str s)=>some (!(cT s kvs).isSome)
 | _,_=>none
@[simp] noncomputable def fZ (o:Cm) (x y:W) (h:HH):Option (W×HH):=match y with
 | .k kvs=>(inK o x kvs).map fun z=>(.p (.bl z),h)
 | y=>match rd x h,rd y h with
  | some d,some e=>(dX o d e).map fun z=>(.p (.bl z),h)
  | _,_=>none
noncomputable def atK (kvs:List (Str×D)) (y:W):Option D:=match y with
 | .p (.str s)=>cT s kvs
 | _=>none
@[simp] theorem N5 (kvs:List (Str×D)) (x:Str):atK kvs (.p (.str x))=cT x kvs:=rfl
@[simp] theorem N6 (kvs:List (Str×D)) (x:Str):inK .mem (.p (.str x)) kvs=some (cT x kvs).isSome:=rfl
@[simp] theorem N7 (kvs:List (Str×D)) (x:Str):inK .nmem (.p (.str x)) kvs=some (!(cT x kvs).isSome):=rfl
@[simp] noncomputable def Bm (x y:W) (h:HH):Option (W×HH):=match x with
 | .k kvs=>(atK kvs y).map fun z=>(.p z,h)
 | x=>match rd x h,rd y h with
  | some d,some e=>(aD d e).map fun z=>(.p z,h)
  | _,_=>none
@[simp] noncomputable def Bo (x:W) (h:HH):Option (W×HH):=match x with | .p (.int i)=>some (.p (.int (-i)),h) | _=>none
@[simp] noncomputable def Bp (x:W) (h:HH):Option (W×HH):=match x with | .p (.bl b)=>some (.p (.bl (!b)),h) | _=>none
@[simp] noncomputable def Bq (eb:EH) (x:W) (h:HH):Option (W×HH):=match x with | .p (.bl c)=>if c then eb h else some (.p (.bl false),h) | _=>none
@[simp] noncomputable def kOr (eb:EH) (x:W) (h:HH):Option (W×HH):=match x with | .p (.bl c)=>if c then some (.p (.bl true),h) else eb h | _=>none
@[simp] noncomputable def Br (ea eb:EH) (x:W) (h:HH):Option (W×HH):=match x with | .p (.bl c)=>if c then ea h else eb h | _=>none
@[simp] noncomputable def IW (o':Cm) (e:D) (z:W) (h:HH):Option (W×HH):=match rd z h with
 | some f=>(dX o' e f).map fun r=>(.p (.bl r),h)
 | none=>none
@[simp] noncomputable def oCh (o o':Cm) (ec:EH) (x y:W) (h:HH):Option (W×HH):=match rd x h,y with
 | some d,.p e=>match dX o d e with
  | some true=>bnd (ec h) (IW o' e)
  | some false=>some (.p (.bl false),h)
  | none=>none
 | _,_=>none
@[simp] noncomputable def Fb (ws:List W) (h:HH):Option (W×HH):=match aV ws with | some ds=>if ds.length<=lim then some (.p (.tup ds),h) else none | none=>none
@[simp] noncomputable def Fc (mu:Bool) (ws:List W) (h:HH):Option (W×HH):=match aV ws with | some ds=>if ds.length<=lim then some (new mu ds h) else none | none=>none
@[simp] noncomputable def IX (x:W) (l u:List W) (h:HH):Option (W×HH):=match rd x h,(aV l).bind nG,(aV u).bind nG with
 | some d,some l',some u'=>(qZ d l' u').map fun z=>(.p z,h)
 | _,_,_=>none
@[simp] noncomputable def IY (eu:HH->Option (List W×HH)) (x:W) (l:List W) (h:HH):Option (W×HH):=bnd (eu h) (IX x l)
@[simp] noncomputable def IZ (el eu:HH->Option (List W×HH)) (x:W) (h:HH):Option (W×HH):=bnd (el h) (IY eu x)
@[simp] noncomputable def MJ (x:W) (h:HH):Option (W×HH):=match rd x h with
 | some (.tup xs)=>some (.p (.tup xs.reverse),h)
 | some (.lst xs)=>some (.p (.lst xs.reverse),h)
 | _=>none
noncomputable def pP (k:Int) (xs:List D):List D:=(SY (Pa none none (some k) xs.length).1 (Pa none none (some k) xs.length).2.1 (Pa none none (some k) xs.length).2.2).filterMap fun i=>xs[i]?
@[simp] noncomputable def Fd (mu:Bool) (k:Int) (x:W) (h:HH):Option (W×HH):=match rd x h with
 | some (.lst xs)=>some (new mu (pP k xs) h)
 | _=>none
@[simp] noncomputable def kBi (b:Bi) (mu:Bool) (ws:List W) (h:HH):Option (W×HH):=match rds ws h with
 | some ds=>match biD b ds with
  | some d=>if mu then (match d with | .lst xs=>some (new true xs h) | _=>none) else some (.p d,h)
  | none=>none
 | none=>none
noncomputable def pQ (x:W) (h:HH):Bool:=match x with
 | .r n=>(lat h n).isSome
 | _=>true
@[simp] theorem MK (n:Nat) (h:HH):pQ (.r n) h=(lat h n).isSome:=rfl
@[simp] theorem ML (d:D) (h:HH):pQ (.p d) h=true:=rfl
@[simp] theorem MM (d:List (Str×D)) (h:HH):pQ (.k d) h=true:=rfl
@[simp] noncomputable def kMe (m:Me) (ea:HH->Option (List W×HH)) (x:W) (h:HH):Option (W×HH):=if pQ x h then bnd (ea h) (meW m x) else none
@[simp] noncomputable def kLs (mu:Bool) (sr:Sr) (ws:List W) (h:HH):Option (W×HH):=match (rds ws h).bind (dH sr) with
 | some ds=>if ds.length<=lim then some (new mu ds h) else none
 | none=>none
@[simp] noncomputable def lZ (w:W) (h:HH):Option (Option D×HH):=match w with | .p d=>some (some d,h) | _=>none
noncomputable def sG (ee:EH) (cs:List W) (h:HH):Option (Option D×HH):=match cs with
 | []=>bnd (ee h) lZ
 | [.p (.bl true)]=>bnd (ee h) lZ
 | [.p (.bl false)]=>some (none,h)
 | _=>none
@[simp] theorem LD (ee:EH) (h:HH):sG ee [] h=bnd (ee h) lZ:=rfl
@[simp] theorem LG (ee:EH) (h:HH):sG ee [.p (.bl true)] h=bnd (ee h) lZ:=rfl
@[simp] theorem LH (ee:EH) (h:HH):sG ee [.p (.bl false)] h=some (none,h):=rfl
@[simp] noncomputable def dZ (ec:Sl->HH->Option (List W×HH)) (ee:Sl->EH) (fs:Sl) (xs:List D) (h:HH):Option (Option D×HH) :=
 bnd (ec (xs.map c7++fs) h) (sG (ee (xs.map c7++fs)))
@[simp] noncomputable def kR (mu:Bool) (out:List D) (h:HH):Option (W×HH):=if out.length<=lim then some (new mu out h) else none
noncomputable def aX (f:Str):List (Str×W)->Option W
 | []=>none
 | (x,w) :: r=>if f=x then some w else aX f r
noncomputable def bz (f:Str) (w:W):List (Str×W)->List (Str×W)
 | []=>[(f,w)]
 | (x,u) :: r=>if f=x then (f,w) :: r else (x,u) :: bz f w r
@[simp] theorem Ja (f:Str):aX f []=none:=rfl
@[simp] theorem mU (f x:Str) (w:W) (r:List (Str×W)):aX f ((x,w) :: r)=if f=x then some w else aX f r:=rfl
@[simp] theorem Jb (f:Str) (w:W):bz f w []=[(f,w)]:=rfl
@[simp] theorem vo (f x:Str) (w u:W) (r:List (Str×W)):bz f w ((x,u) :: r)=if f=x then (f,w) :: r else (x,u) :: bz f w r:=rfl
noncomputable def attrOk:W->Bool
 | .p _=>true
 | .r _=>true
 | .k _=>false
 | .o _=>true
 | .c _ _=>false
@[simp] theorem Jc (d:D):attrOk (.p d)=true:=rfl
@[simp] theorem Jd (n:Nat):attrOk (.r n)=true:=rfl
@[simp] theorem Je (n:Nat):attrOk (.o n)=true:=rfl
noncomputable def Bs (f:Str) (x:W) (h:HH):Option (W×HH):=match x with
 | .o n=>match oat h n with
  | some (_,fs)=>(aX f fs).map fun w=>(w,h)
  | none=>none
 | _=>none
@[simp] theorem Fe (f:Str) (n:Nat) (h:HH):Bs f (.o n) h=match oat h n with
 | some (_,fs)=>(aX f fs).map fun w=>(w,h)
 | none=>none:=rfl
noncomputable def rf (F:FK->List W->HH->Option (W×HH)) (q:FK) (n:Nat) (ws:List W) (h:HH):Option (W×HH):=F q (.o n :: ws) h
@[simp] theorem HD (F:FK->List W->HH->Option (W×HH)) (q:FK) (n:Nat) (ws:List W) (h:HH):rf F q n ws h=F q (.o n :: ws) h:=rfl
noncomputable def xR (F:FK->List W->HH->Option (W×HH)) (m:Str) (ea:HH->Option (List W×HH)) (x:W) (h:HH):Option (W×HH):=match x with
 | .o n=>match oat h n with
  | some (c,fs)=>if (aX m fs).isNone then bnd (ea h) (rf F (.m c m) n) else none
  | none=>none
 | _=>none
@[simp] theorem Bt (F:FK->List W->HH->Option (W×HH)) (m:Str) (ea:HH->Option (List W×HH)) (n:Nat) (h:HH):xR F m ea (.o n) h=match oat h n with
 | some (c,fs)=>if (aX m fs).isNone then bnd (ea h) (rf F (.m c m) n) else none
 | none=>none:=rfl
noncomputable def sH (n:Nat) (x:W) (h:HH):Option (W×HH):=match x with
 | .p .non=>some (.o n,h)
 | _=>none
@[simp] theorem LJ (n:Nat) (h:HH):sH n (.p .non) h=some (.o n,h):=rfl
noncomputable def DS (F:FK->List W->HH->Option (W×HH)) (c:Str) (ws:List W) (h:HH):Option (W×HH):=bnd (F (.m c "__init__") (.o h.length :: ws) (h++[.o c []])) (sH h.length)
@[simp] theorem xS (F:FK->List W->HH->Option (W×HH)) (c:Str) (ws:List W) (h:HH):DS F c ws h=bnd (F (.m c "__init__") (.o h.length :: ws) (h++[.o c []])) (sH h.length):=rfl
noncomputable def f6:List W->Bool
 | []=>true
 | .p _ :: r=>f6 r
 | _=>false
@[simp] noncomputable def xT (mu:Bool) (sr:Sr) (n:Nat) (fs:Option Sl) (ec:Sl->HH->Option (List W×HH)) (ee:Sl->EH) (ws:List W) (h:HH):Option (W×HH) :=
 match (rds ws h).bind (dH sr),fs with
 | some ds,some fs=>if f6 ws then bnd (bf (dZ ec ee fs) n ds h) (kR mu) else none
 | _,_=>none
@[simp] noncomputable def iH (w:W) (ws:List W) (h:HH):Option (List W×HH):=some (w :: ws,h)
@[simp] noncomputable def kT (er:HH->Option (List W×HH)) (w:W) (h:HH):Option (List W×HH):=bnd (er h) (iH w)
@[simp] noncomputable def frees (s:Sl):List (Nat×Str)->Option Sl
 | []=>some []
 | q :: r=>match s[q.1]? with
  | some w=>(frees s r).map (w :: ·)
  | none=>none
noncomputable def caps (s:Sl):List (Nat×Str)->Option (List Cp)
 | []=>some []
 | q :: r=>match s[q.1]? with
  | some (some w)=>(pK w).bind fun x=>(caps s r).map (x :: ·)
  | _=>none
@[simp] theorem Jf (s:Sl):caps s []=some []:=rfl
@[simp] theorem vp (s:Sl) (q:Nat×Str) (r:List (Nat×Str)):caps s (q :: r)=match s[q.1]? with
 | some (some w)=>(pK w).bind fun x=>(caps s r).map (x :: ·)
 | _=>none:=rfl
noncomputable def noC:List W->Bool
 | []=>true
 | .p _ :: r=>noC r
 | .r _ :: r=>noC r
 | .k _ :: r=>noC r
 | .o _ :: r=>noC r
 | .c _ _ :: _=>false
@[simp] theorem LK:noC []=true:=rfl
@[simp] theorem N8 (d:D) (r:List W):noC (.p d :: r)=noC r:=rfl
@[simp] theorem N9 (d:Nat) (r:List W):noC (.r d :: r)=noC r:=rfl
@[simp] theorem Oa (d:Nat) (r:List W):noC (.o d :: r)=noC r:=rfl
noncomputable def nL (F:FK->List W->HH->Option (W×HH)) (o:Option (Option W)) (ws:List W) (h:HH):Option (W×HH):=match o with
 | some (some (.c k cs))=>if noC ws then F k (ws++cs.map Cp.w) h else none
 | _=>none
@[simp] theorem Jg (F:FK->List W->HH->Option (W×HH)) (k:FK) (cs:List Cp) (ws:List W) (h:HH):nL F (some (some (.c k cs))) ws h=if noC ws then F k (ws++cs.map Cp.w) h else none:=rfl
noncomputable def xU (w:W) (h:HH):Option (W×HH):=match w with
 | .c _ _=>none
 | w=>some (w,h)
@[simp] theorem MN (d:D) (h:HH):xU (.p d) h=some (.p d,h):=rfl
@[simp] theorem MO (n:Nat) (h:HH):xU (.r n) h=some (.r n,h):=rfl
@[simp] theorem MP (n:Nat) (h:HH):xU (.o n) h=some (.o n,h):=rfl
noncomputable def nM (F:FK->List W->HH->Option (W×HH)) (q:FK) (n:Nat) (L:Nat) (cs:Option (List Cp)) (ws:List W) (h:HH):Option (W×HH):=match cs with
 | some cs=>bnd (F q (.o n :: (ws++[.c (.l L) cs])) h) xU
 | none=>none
@[simp] theorem vq (F:FK->List W->HH->Option (W×HH)) (q:FK) (n:Nat) (L:Nat) (cs:List Cp) (ws:List W) (h:HH):nM F q n L (some cs) ws h=bnd (F q (.o n :: (ws++[.c (.l L) cs])) h) xU:=rfl
noncomputable def rj (F:FK->List W->HH->Option (W×HH)) (m:Str) (ea:HH->Option (List W×HH)) (L:Nat) (cs:Option (List Cp)) (x:W) (h:HH):Option (W×HH):=match x with
 | .o n=>match oat h n with
  | some (c,fs)=>if (aX m fs).isNone then bnd (ea h) (nM F (.m c m) n L cs) else none
  | none=>none
 | _=>none
@[simp] theorem xV (F:FK->List W->HH->Option (W×HH)) (m:Str) (ea:HH->Option (List W×HH)) (L:Nat) (cs:Option (List Cp)) (n:Nat) (h:HH):rj F m ea L cs (.o n) h=match oat h n with
 | some (c,fs)=>if (aX m fs).isNone then bnd (ea h) (nM F (.m c m) n L cs) else none
 | none=>none:=rfl
noncomputable def Ff (n:Nat) (y z:W) (h:HH):Option (W×HH):=match y,z with
 | .p k,.p d=>(dat h n).bind fun kvs=>(lX k).map fun q=>(.p ((DO kvs q).getD d),h)
 | _,_=>none
@[simp] theorem MQ (n:Nat) (k d:D) (h:HH):Ff n (.p k) (.p d) h=(dat h n).bind fun kvs=>(lX k).map fun q=>(.p ((DO kvs q).getD d),h):=rfl
noncomputable def Fg (ed:EH) (n:Nat) (y:W) (h:HH):Option (W×HH):=bnd (ed h) (Ff n y)
@[simp] theorem LM (ed:EH) (n:Nat) (y:W) (h:HH):Fg ed n y h=bnd (ed h) (Ff n y):=rfl
noncomputable def Jh (ek ed:EH) (x:W) (h:HH):Option (W×HH):=match x with
 | .r n=>if (dat h n).isSome then bnd (ek h) (Fg ed n) else none
 | _=>none
@[simp] theorem MR (ek ed:EH) (n:Nat) (h:HH):Jh ek ed (.r n) h=if (dat h n).isSome then bnd (ek h) (Fg ed n) else none:=rfl
noncomputable def xW:List (Ky×D)->Option (List (Int×Int))
 | []=>some []
 | (.inl k,.int v) :: r=>(xW r).map ((k,v) :: ·)
 | _=>none
noncomputable def xX (kvs:List (Ky×D)):Option (List D):=if kvs.length<=1 then some (ef kvs) else (xW kvs).bind fun ps=>if ps.length < 64 then some ((Mm ps).filterMap fun i=>(ef kvs)[i]?) else none
@[simp] theorem LN (kv:Ky×D):xX [kv]=some (ef [kv]):=rfl
noncomputable def Ji (x:W) (h:HH):Option (W×HH):=match x with
 | .r n=>(dat h n).bind fun kvs=>(xX kvs).map fun l=>(.p (.lst l),h)
 | _=>none
@[simp] theorem MS (n:Nat) (h:HH):Ji (.r n) h=(dat h n).bind fun kvs=>(xX kvs).map fun l=>(.p (.lst l),h):=rfl
noncomputable def Fi (x:W) (h:HH):Option (W×HH):=match x with
 | .r n=>(dat h n).bind fun kvs=>if kvs.length<=lim then some (.p (.lst (ef kvs)),h) else none
 | _=>none
@[simp] theorem Fj (n:Nat) (h:HH):Fi (.r n) h=(dat h n).bind fun kvs=>if kvs.length<=lim then some (.p (.lst (ef kvs)),h) else none:=rfl
section
variable (F:FK->List W->HH->Option (W×HH)) (G:Str->Option W)
mutual
@[simp] noncomputable def ev:E->Sl->HH->Option (W×HH)
 | .var i _,s,h=>match s[i]? with | some (some w)=>some (w,h) | _=>none
 | .cst d,_,h=>some (.p d,h)
 | .glo x,_,h=>(G x).map fun w=>(w,h)
 | .bin o a b,s,h=>bnd (ev a s h) (k2 (ev b s) (lY o))
 | .neg a,s,h=>bnd (ev a s h) Bo
 | .not a,s,h=>bnd (ev a s h) Bp
 | .and a b,s,h=>bnd (ev a s h) (Bq (ev b s))
 | .or a b,s,h=>bnd (ev a s h) (kOr (ev b s))
 | .cmp o a b,s,h=>bnd (ev a s h) (k2 (ev b s) (fZ o))
 | .chain o o' a b c,s,h=>bnd (ev a s h) (k2 (ev b s) (oCh o o' (ev c s)))
 | .ite c a b,s,h=>bnd (ev c s h) (Br (ev a s) (ev b s))
 | .tup as,s,h=>bnd (evs as s h) Fb
 | .lst mu as,s,h=>bnd (evs as s h) (Fc mu)
 | .idx a i,s,h=>bnd (ev a s h) (k2 (ev i s) Bm)
 | .slc a lo hi,s,h=>bnd (ev a s h) (IZ (evs lo s) (evs hi s))
 | .rvs a,s,h=>bnd (ev a s h) MJ
 | .stp mu k a,s,h=>bnd (ev a s h) (Fd mu k)
 | .call f as,s,h=>bnd (evs as s h) (F (.f f))
 | .fld a f,s,h=>bnd (ev a s h) (Bs f)
 | .meth o m as,s,h=>bnd (ev o s h) (xR F m (evs as s))
 | .make c as,s,h=>bnd (evs as s h) (DS F c)
 | .bi b mu as,s,h=>bnd (evs as s h) (kBi b mu)
 | .lsr mu sr as,s,h=>bnd (evs as s h) (kLs mu sr)
 | .me m o as,s,h=>bnd (ev o s h) (kMe m (evs as s))
 | .comp mu sr sa tg fv cond elt,s,h=>bnd (evs sa s h) (xT mu sr tg.length (frees s fv) (evs cond) (ev elt))
 | .callv i _ as,s,h=>bnd (evs as s h) (nL F s[i]?)
 | .methL o m as L fv,s,h=>bnd (ev o s h) (rj F m (evs as s) L (caps s fv))
 | .dnew,_,h=>some (.r h.length,h++[.d []])
 | .dgt o k d,s,h=>bnd (ev o s h) (Jh (ev k s) (ev d s))
 | .dsi o,s,h=>bnd (ev o s h) Ji
 | .dli o,s,h=>bnd (ev o s h) Fi
@[simp] noncomputable def evs:Es->Sl->HH->Option (List W×HH)
 | .nil,_,h=>some ([],h)
 | .cons a as,s,h=>bnd (ev a s h) (kT (evs as s))
end
inductive Fl where
 | nx (s:Sl) (h:HH) | rt (w:W) (h:HH) | bk (s:Sl) (h:HH) | ct (s:Sl) (h:HH)
noncomputable def Jj (k:Bool->HH->Option Fl) (w:W) (h:HH):Option Fl:=match w with | .p (.bl b)=>k b h | _=>none
noncomputable def tst (x:Option (W×HH)) (k:Bool->HH->Option Fl):Option Fl:=bnd x (Jj k)
@[simp] theorem cg (b:Bool) (h:HH) (k:Bool->HH->Option Fl):tst (some (.p (.bl b),h)) k=k b h:=rfl
noncomputable def jY (x:Option Fl) (k:Sl->HH->Option Fl):Option Fl:=match x with
 | some (.nx s h)=>k s h
 | y=>y
@[simp] theorem ja (s:Sl) (h:HH) (k:Sl->HH->Option Fl):jY (some (.nx s h)) k=k s h:=rfl
@[simp] theorem Jk (w:W) (h:HH) (k:Sl->HH->Option Fl):jY (some (.rt w h)) k=some (.rt w h):=rfl
@[simp] theorem Jl (s:Sl) (h:HH) (k:Sl->HH->Option Fl):jY (some (.bk s h)) k=some (.bk s h):=rfl
@[simp] theorem Jm (s:Sl) (h:HH) (k:Sl->HH->Option Fl):jY (some (.ct s h)) k=some (.ct s h):=rfl
@[simp] theorem Fk (k:Sl->HH->Option Fl):jY none k=none:=rfl
noncomputable def fJ (x:Option Fl) (k:Sl->HH->Option Fl):Option Fl:=match x with
 | some (.nx s h)=>k s h
 | some (.ct s h)=>k s h
 | some (.bk s h)=>some (.nx s h)
 | y=>y
@[simp] theorem bM (s:Sl) (h:HH) (k:Sl->HH->Option Fl):fJ (some (.nx s h)) k=k s h:=rfl
@[simp] theorem Jo (s:Sl) (h:HH) (k:Sl->HH->Option Fl):fJ (some (.ct s h)) k=k s h:=rfl
@[simp] theorem Jp (s:Sl) (h:HH) (k:Sl->HH->Option Fl):fJ (some (.bk s h)) k=some (.nx s h):=rfl
@[simp] theorem xY (w:W) (h:HH) (k:Sl->HH->Option Fl):fJ (some (.rt w h)) k=some (.rt w h):=rfl
@[simp] theorem Fo (k:Sl->HH->Option Fl):fJ none k=none:=rfl
@[simp] noncomputable def sets:List (Nat×Str)->List D->Sl->Sl
 | (i,_) :: r,d :: ds,s=>sets r ds (s.set i (some (.p d)))
 | _,_,s=>s
noncomputable def Fp (b:Sl->HH->Option Fl) (again:Sl->HH->Option Fl) (s:Sl) (t:Bool) (h:HH):Option Fl:=if t then fJ (b s h) again else some (.nx s h)
@[simp] theorem gq (b again:Sl->HH->Option Fl) (s:Sl) (h:HH):Fp b again s true h=fJ (b s h) again:=rfl
@[simp] theorem fV (b again:Sl->HH->Option Fl) (s:Sl) (h:HH):Fp b again s false h=some (.nx s h):=rfl
noncomputable def aP (c:Sl->HH->Option (W×HH)) (b:Sl->HH->Option Fl):Nat->Sl->HH->Option Fl
 | 0,_,_=>none
 | n+1,s,h=>tst (c s h) (Fp b (aP c b n) s)
@[simp] noncomputable def aQ (b:Sl->HH->Option Fl) (tg:List (Nat×Str)):List D->Sl->HH->Option Fl
 | [],s,h=>some (.nx s h)
 | d :: r,s,h=>match target tg.length d with
  | some ds=>fJ (b (sets tg ds s) h) (aQ b tg r)
  | none=>none
noncomputable def turns:Nat:=100000
@[simp] noncomputable def rA (s:Sl) (i:Nat) (w:W) (h:HH):Option Fl:=some (.nx (s.set i (some w)) h)
@[simp] noncomputable def MT (s:Sl) (xs:List (Nat×Str)) (w:W) (h:HH):Option Fl:=match w with
 | .p d=>match unpack xs.length d with | some ds=>some (.nx (sets xs ds s) h) | none=>none
 | _=>none
@[simp] noncomputable def Jq (s:Sl) (i:Nat) (o:Bin) (w:W) (h:HH):Option Fl:=match s[i]?,w with
 | some (some (.p d)),.p d'=>(kO o d d').map fun z=>.nx (s.set i (some (.p z))) h
 | _,_=>none
@[simp] noncomputable def DT (s:Sl) (n:Nat) (d:D) (q:W) (h:HH):Option Fl:=match q,lat h n with
 | .p (.int j),some xs=>match place xs.length j with
  | some m=>some (.nx s (h.set n (.l (xs.set m d))))
  | none=>none
 | _,_=>none
@[simp] noncomputable def Fq (ek:EH) (s:Sl) (i:Nat) (w:W) (h:HH):Option Fl:=match w,s[i]? with
 | .p d,some (some (.r n))=>bnd (ek h) (DT s n d)
 | _,_=>none
noncomputable def rB (s:Sl) (n:Nat) (d:D) (q:W) (h:HH):Option Fl:=match q with
 | .p k=>(dat h n).bind fun kvs=>(lX k).bind fun y=>if kvs.length < lim then some (.nx s (h.set n (.d (jX kvs y d)))) else none
 | _=>none
@[simp] theorem xZ (s:Sl) (n:Nat) (d k:D) (h:HH):rB s n d (.p k) h=(dat h n).bind fun kvs=>(lX k).bind fun y=>if kvs.length < lim then some (.nx s (h.set n (.d (jX kvs y d)))) else none:=rfl
noncomputable def sI (ek:EH) (s:Sl) (i:Nat) (w:W) (h:HH):Option Fl:=match w,s[i]? with
 | .p d,some (some (.r n))=>bnd (ek h) (rB s n d)
 | _,_=>none
@[simp] theorem Bu (ek:EH) (s:Sl) (i:Nat) (d:D) (h:HH):sI ek s i (.p d) h=match s[i]? with
 | some (some (.r n))=>bnd (ek h) (rB s n d)
 | _=>none:=by
 unfold sI
 cases s[i]? with
 | none=>rfl
 | some o=>cases o with
  | none=>rfl
  | some w=>cases w<;>rfl
noncomputable def nN (s:Sl) (f:Str) (v:W) (x:W) (h:HH):Option Fl:=match x with
 | .o n=>match oat h n with
  | some (c,fs)=>if attrOk v&&fs.length < 1000 then some (.nx s (h.set n (.o c (bz f v fs)))) else none
  | none=>none
 | _=>none
@[simp] theorem ya (s:Sl) (f:Str) (v:W) (n:Nat) (h:HH):nN s f v (.o n) h=match oat h n with
 | some (c,fs)=>if attrOk v&&fs.length < 1000 then some (.nx s (h.set n (.o c (bz f v fs)))) else none
 | none=>none:=rfl
noncomputable def yb (eo:EH) (s:Sl) (f:Str) (v:W) (h:HH):Option Fl:=bnd (eo h) (nN s f v)
@[simp] theorem yc (eo:EH) (s:Sl) (f:Str) (v:W) (h:HH):yb eo s f v h=bnd (eo h) (nN s f v):=rfl
noncomputable def nO (s:Sl) (f:Str) (op:Bin) (n:Nat) (c:Str) (d:D) (v:W) (h:HH):Option Fl:=match v,oat h n with
 | .p e,some (c',fs)=>match kO op d e with
  | some z=>if c'=c/\fs.length < 1000 then some (.nx s (h.set n (.o c' (bz f (.p z) fs)))) else none
  | none=>none
 | _,_=>none
@[simp] theorem yd (s:Sl) (f:Str) (op:Bin) (n:Nat) (c:Str) (d e:D) (h:HH):nO s f op n c d (.p e) h=match oat h n with
 | some (c',fs)=>match kO op d e with
  | some z=>if c'=c/\fs.length < 1000 then some (.nx s (h.set n (.o c' (bz f (.p z) fs)))) else none
  | none=>none
 | none=>none:=by unfold nO;cases oat h n<;>rfl
noncomputable def sJ (ee:EH) (s:Sl) (f:Str) (op:Bin) (x:W) (h:HH):Option Fl:=match x with
 | .o n=>match oat h n with
  | some (c,fs)=>match aX f fs with
   | some (.p d)=>bnd (ee h) (nO s f op n c d)
   | _=>none
  | none=>none
 | _=>none
@[simp] theorem Bv (ee:EH) (s:Sl) (f:Str) (op:Bin) (n:Nat) (h:HH):sJ ee s f op (.o n) h=match oat h n with
 | some (c,fs)=>match aX f fs with
  | some (.p d)=>bnd (ee h) (nO s f op n c d)
  | _=>none
 | none=>none:=rfl
@[simp] noncomputable def kEx (s:Sl) (_:W) (h:HH):Option Fl:=some (.nx s h)
@[simp] noncomputable def ye (w:W) (h:HH):Option Fl:=some (.rt w h)
@[simp] noncomputable def kIf (fa fb:HH->Option Fl) (t:Bool) (h:HH):Option Fl:=if t then fa h else fb h
@[simp] noncomputable def kFor (b:Sl->HH->Option Fl) (tg:List (Nat×Str)) (sr:Sr) (s:Sl) (ws:List W) (h:HH):Option Fl:=match (rds ws h).bind (dH sr) with
 | some ds=>if f6 ws then aQ b tg ds s h else none
 | none=>none
@[simp] noncomputable def evS:S->Sl->HH->Option Fl
 | .nil,s,h=>some (.nx s h)
 | .seq a b,s,h=>jY (evS a s h) (evS b)
 | .set i _ e,s,h=>bnd (ev F G e s h) (rA s i)
 | .unp xs e,s,h=>bnd (ev F G e s h) (MT s xs)
 | .aug i _ o e,s,h=>bnd (ev F G e s h) (Jq s i o)
 | .put i _ k e,s,h=>bnd (ev F G e s h) (Fq (ev F G k s) s i)
 | .putd i _ k e,s,h=>bnd (ev F G e s h) (sI (ev F G k s) s i)
 | .setf o f e,s,h=>bnd (ev F G e s h) (yb (ev F G o s) s f)
 | .augf o f op e,s,h=>bnd (ev F G o s h) (sJ (ev F G e s) s f op)
 | .ex e,s,h=>bnd (ev F G e s h) (kEx s)
 | .ret e,s,h=>bnd (ev F G e s h) ye
 | .ife c a b,s,h=>tst (ev F G c s h) (kIf (evS a s) (evS b s))
 | .whl c b,s,h=>aP (ev F G c) (evS b) turns s h
 | .for tg sr sa b,s,h=>bnd (evs F G sa s h) (kFor (evS b) tg sr s)
 | .brk,s,h=>some (.bk s h)
 | .cnt,s,h=>some (.ct s h)
 | .bad,_,_=>none
open Classical in
noncomputable def fin (h:HH) (w:W) (h':HH):Option (W×HH) :=
 if h'.length=h.length then some (w,h')
 else if h'.take h.length=h then (match w with
  | .p d=>some (.p d,h)
  | .r n=>if n < h.length then some (.r n,h) else (lat h' n).map fun xs=>(.p (.lst xs),h)
  | .o n=>if n < h.length then some (.o n,h) else some (.o n,h')
  | .k _=>none
  | .c _ _=>none)
 else some (w,h')
@[simp] noncomputable def fB (n:Nat) (ws:List W):Sl:=ws.map some++OX (n - ws.length) none
noncomputable def j6 (x:Option Fl) (k:W->HH->Option (W×HH)):Option (W×HH):=match x with
 | some (.rt w h)=>k w h
 | some (.nx _ h)=>k (.p .non) h
 | _=>none
@[simp] theorem LO (w:W) (h:HH) (k:W->HH->Option (W×HH)):j6 (some (.rt w h)) k=k w h:=rfl
@[simp] theorem LP (s:Sl) (h:HH) (k:W->HH->Option (W×HH)):j6 (some (.nx s h)) k=k (.p .non) h:=rfl
@[simp] theorem HE (k:W->HH->Option (W×HH)):j6 none k=none:=rfl
end
section
variable (T:FK->Option Fn) (G:Str->Option W)
noncomputable def runN:Nat->FK->List W->HH->Option (W×HH)
 | 0,_,_,_=>none
 | k+1,f,ws,h=>match T f with
  | some fn=>if ws.length=fn.ps.length then j6 (evS (runN k) G fn.body (fB fn.ns.length ws) h) (fin h) else none
  | none=>none
theorem run_eq {T:FK->Option Fn}{G:Str->Option W}{f:FK}{fn:Fn}{ws:List W}{h:HH}{k:Nat} (hT:T f=some fn) (hl:ws.length=fn.ps.length) :
 runN T G (k+1) f ws h=j6 (evS (runN T G k) G fn.body (fB fn.ns.length ws) h) (fin h):=by
 rw[runN,hT];exact if_pos hl
end
end BT
end
section
namespace BT
open PySem
noncomputable def MU:Fn:=⟨["state","thing"],["state","thing"],.ret (.call "worth_in" (.cons (.var 0 "state") (.cons (.var 1 "thing") .nil)))⟩
noncomputable def MV:Fn:=⟨["state","thing","worth"],["state","thing","worth"],.ret (.cmp .ne (.call "worth_in" (.cons (.var 0 "state") (.cons (.var 1 "thing") .nil))) (.var 2 "worth"))⟩
noncomputable def MW:Fn:=⟨["state","thing","worth"],["state","thing","worth"],.ret (.cmp .ne (.call "worth_in" (.cons (.var 0 "state") (.cons (.var 1 "thing") .nil))) (.var 2 "worth"))⟩
noncomputable def MX:Fn:=⟨["state","term"],["state","term"],.ret (.call "reckoned" (.cons (.var 1 "term") (.cons (.var 0 "state") .nil)))⟩
noncomputable def MY:Fn:=⟨["state","term"],["state","term"],.ret (.cmp .ne (.call "reckoned" (.cons (.var 1 "term") (.cons (.var 0 "state") .nil))) (.cst (.int 0)))⟩
noncomputable def MZ:Fn:=⟨["state","term"],["state","term"],.ret (.cmp .ne (.call "reckoned" (.cons (.var 1 "term") (.cons (.var 0 "state") .nil))) (.cst (.int 0)))⟩
noncomputable def M0:Fn:=⟨["state"],["state"],.ret (.idx (.var 0 "state") (.glo "ROW"))⟩
noncomputable def M1:Fn:=⟨["state","row"],["state","row"],.ret (.cmp .eq (.idx (.var 0 "state") (.glo "ROW")) (.var 1 "row"))⟩
noncomputable def M3:Fn:=⟨["state","number"],["state","number"],.ret (.cmp .gt (.bi .len false (.cons (.idx (.var 0 "state") (.glo "SAID")) .nil)) (.var 1 "number"))⟩
noncomputable def Bw:Fn:=⟨["state","bound"],["state","bound"],.ret (.cmp .le (.call "open_in" (.cons (.var 0 "state") .nil)) (.var 1 "bound"))⟩
noncomputable def sL:Fn:=⟨["state","bound"],["state","bound"],.ret (.cmp .le (.call "open_in" (.cons (.var 0 "state") .nil)) (.var 1 "bound"))⟩
noncomputable def Jr:Fn:=⟨["state","wanted"],["state","wanted"],.ret (.and (.cmp .eq (.idx (.var 0 "state") (.glo "NAMES")) (.idx (.var 1 "wanted") (.glo "NAMES"))) (.cmp .eq (.idx (.var 0 "state") (.glo "CELLS")) (.idx (.var 1 "wanted") (.glo "CELLS"))))⟩
noncomputable def Js:Fn:=⟨["state","tape","thing"],["state","tape","thing"],.ret (.cmp .eq (.call "written_next" (.cons (.var 1 "tape") (.cons (.var 0 "state") .nil))) (.var 2 "thing"))⟩
noncomputable def Jt:Fn:=⟨[],[],.ret (.cst .non)⟩
noncomputable def Ju:Fn:=⟨[],[],.ret (.cst .non)⟩
noncomputable def nQ (i:Nat):Option Fn:=([MU,MV,MW,MX,MY,MZ,M0,M1,M3,Bw,sL,Jr,Js,Jt,Ju]:List Fn)[i]?
noncomputable def dD:List Str:=["worths_of","last_change","next_change","moments_so","last_so","next_so","visits","last_visit","when_said","next_within","last_within","first_other","writer_of","judged","remade"]
noncomputable def yf (i:Nat):Str:=dD.getD i ""
noncomputable def cj (x:Str):Str:="<"++x++">"
end BT
end
section
namespace BS
open PySem PySem.Spec PyProof.Rows L2
theorem aj {β:Type}{a:β}{P:Prop} (h:(none:Option β)=some a):P:=nomatch h
noncomputable def attrName (f:Str):Bool:=(["program","asked","gap","most","kept","farthest","front","now","origins","branches","tape","named"]:List Str).contains f
noncomputable def pR:BT.Bi->Option (String×(BT.D->Bool))
 | .isInt=>some ("int",BT.isI)
 | .isBool=>some ("bool",BT.isB)
 | .isStr=>some ("str",BT.isS)
 | .isTuple=>some ("tuple",BT.isT)
 | .isList=>some ("list",BT.isL)
 | _=>none
noncomputable def jZ (sc:OW) (x:Str):Bool:=match sc.names.lookup x with
 | some .local=>true
 | some .cell=>true
 | some .free=>true
 | _=>false
noncomputable def aF (sc:OW) (x:Str):Bool:=sc.names.lookup x==some .globalImplicit
noncomputable def cu (x:Str):Bool:=!(x=="__debug__")&&!(x=="__classdict__")&&!(x=="__name__")
noncomputable def noStar:Ox->Bool
 | .Starred _ _=>false
 | _=>true
noncomputable def jc:Ox->Bool
 | .Slice _ _ _ _=>false
 | _=>true
noncomputable def aE:Ox->Bool
 | .Name _ _=>true
 | .Constant _ _ _=>true
 | .Subscript _ _ _=>true
 | .Attribute _ _ _=>true
 | .Call (.Attribute _ _ _) _ _ _=>true
 | _=>false
noncomputable def DU:BT.Bin->Ry->Bool
 | .add,.Add=>true
 | .sub,.Sub=>true
 | .mul,.Mult=>true
 | .mod,.Mod=>true
 | .fdiv,.FloorDiv=>true
 | .pow,.Pow=>true
 | _,_=>false
noncomputable def Bx:BT.Cm->CmpOp->Bool
 | .eq,.Eq=>true
 | .ne,.NotEq=>true
 | .lt,.Lt=>true
 | .le,.LtE=>true
 | .gt,.Gt=>true
 | .ge,.GtE=>true
 | .isN,.Is=>true
 | .notN,.IsNot=>true
 | .mem,.In=>true
 | .nmem,.NotIn=>true
 | _,_=>false
noncomputable def DV:BT.D->Const->Bool
 | .non,.none=>true
 | .bl a,.bool b=>a==b
 | .int i,.int j=>i==j
 | .str x,.str y=>x==y&&PyData.strOk x
 | _,_=>false
noncomputable def yh:BT.Bi->Bool->Option Str
 | .len,false=>some "len"
 | .abs,false=>some "abs"
 | .int,false=>some "int"
 | .list,_=>some "list"
 | .tuple,false=>some "tuple"
 | _,_=>none
noncomputable def DW (b:BT.Bi) (mu:Bool) (x:Str):Bool:=yh b mu==some x
noncomputable def yi:BT.Bi->Str->Bool
 | .min2,x=>x=="min"
 | .max2,x=>x=="max"
 | _,_=>false
noncomputable def By:Ox->Option Const
 | .Constant c _ _=>some c
 | _=>none
noncomputable def cInt:Const->Option Int
 | .int j=>some j
 | _=>none
noncomputable def unE:Ox->Option Ox
 | .UnaryOp o e _=>if o=.USub then some e else none
 | _=>none
noncomputable def nR (k:Int) (e:Ox):Bool:=((By e).bind cInt==some k&&decide (0 < k))||(((unE e).bind By).bind cInt==some (-k)&&decide (k < 0))
noncomputable def yj:BT.Me->Str
 | .append=>"append"
 | .pop=>"pop"
 | .extend=>"extend"
 | .tindex=>"index"
 | .sindex=>"index"
 | .dget=>"get"
noncomputable def yk:BT.E->Bool
 | .glo _=>true
 | _=>false
noncomputable def yl (m:BT.Me) (o:BT.E):Bool:=match m with
 | .append=>true
 | .pop=>true
 | .extend=>true
 | .sindex=>false
 | .tindex=>yk o
 | .dget=>false
noncomputable def tOK:BT.E->Bool
 | .ite _ _ _=>false
 | .not a=>tOK a
 | .and a b=>tOK a&&tOK b
 | .or a b=>tOK a&&tOK b
 | .tup _=>false
 | .lst _ _=>false
 | .comp _ _ _ _ _ _ _=>false
 | _=>true
noncomputable def iI:Ox->Bool
 | .Set _ _ _=>false
 | _=>true
noncomputable def pS:BT.Sr->Ox->Bool
 | .zip2,.Tuple _ _ _=>true
 | .enu,.Tuple _ _ _=>true
 | .zip2,_=>false
 | .enu,_=>false
 | _,_=>true
noncomputable def aY (scope sc:OW):OW :=
 { scope with names:=scope.names.map fun (n,k)=>if (k==.free&&sc.kind==.function&&sc.names.lookup n==some .cell) then (n,.cell) else (n,k) }
noncomputable def nmE:Ox->Option Str
 | .Name y _=>some y
 | _=>none
noncomputable def Ft:Ox->List Ox
 | .Tuple xs _ _=>xs
 | _=>[]
noncomputable def pT (sc:OW) (tg:List Str) (te:Ox):Bool:=((tg.map some==[nmE te])||(tg.length==2&&tg.map some==(Ft te).map nmE))&&tg.all fun x=>sc.names.lookup x==some .local
noncomputable def iJ:List Str->Bool
 | []=>true
 | x :: r=>!r.contains x&&iJ r
noncomputable def iK (sc:OW) (N:List Str) (tg:List Str) (fv:List (Nat×Str)) (scope:OW):Bool :=
 scope.kind==.function&&sc.kind==.function&&scope.names.all (fun y=>!(y.2==.cell))&&scope.names.all (fun y=>!(y.2==.local)||scope.names.lookup y.1==some .local) &&
 scope.names.all (fun y=>!(y.2==.free)||sc.names.lookup y.1==some .cell) &&
 fv.all (fun q=>N[q.1]?==some q.2&&scope.names.contains (q.2,.free)&&sc.names.lookup q.2==some .cell&&(aY scope sc).names.lookup q.2==some .cell)&&iJ (tg++fv.map (·.2))
mutual
inductive CE':OW->List Str->BT.E->Ox->Prop where
 | var {sc:OW}{N:List Str}{i:Nat}{x:Str}{p:Pos} (h1:N[i]?=some x) (h2:jZ sc x=true) (h3:cu x=true):CE' sc N (.var i x) (.Name x p)
 | cst {sc:OW}{N:List Str}{d:BT.D}{c:Const}{k:Nat}{p:Pos} (h:DV d c=true):CE' sc N (.cst d) (.Constant c k p)
 | glo {sc:OW}{N:List Str}{x:Str}{p:Pos} (h2:aF sc x=true) (h3:cu x=true):CE' sc N (.glo x) (.Name x p)
 | bin {sc:OW}{N:List Str}{o:BT.Bin}{op:Ry}{a b:BT.E}{l r:Ox}{p:Pos} (h:DU o op=true) (ha:CE' sc N a l) (hb:CE' sc N b r):CE' sc N (.bin o a b) (.BinOp l op r p)
 | neg {sc:OW}{N:List Str}{a:BT.E}{x:Ox}{p:Pos} (ha:CE' sc N a x):CE' sc N (.neg a) (.UnaryOp .USub x p)
 | not {sc:OW}{N:List Str}{a:BT.E}{x:Ox}{p:Pos} (ha:CE' sc N a x):CE' sc N (.not a) (.UnaryOp .Not x p)
 | and2 {sc:OW}{N:List Str}{a b:BT.E}{x y:Ox}{p:Pos} (ha:CE' sc N a x) (hb:CE' sc N b y):CE' sc N (.and a b) (.BoolOp .And [x,y] p)
 | and3 {sc:OW}{N:List Str}{a b:BT.E}{x y z:Ox}{r:List Ox}{p:Pos} (ha:CE' sc N a x) (hb:CE' sc N b (.BoolOp .And (y :: z :: r) p)):CE' sc N (.and a b) (.BoolOp .And (x :: y :: z :: r) p)
 | or2 {sc:OW}{N:List Str}{a b:BT.E}{x y:Ox}{p:Pos} (ha:CE' sc N a x) (hb:CE' sc N b y):CE' sc N (.or a b) (.BoolOp .Or [x,y] p)
 | or3 {sc:OW}{N:List Str}{a b:BT.E}{x y z:Ox}{r:List Ox}{p:Pos} (ha:CE' sc N a x) (hb:CE' sc N b (.BoolOp .Or (y :: z :: r) p)):CE' sc N (.or a b) (.BoolOp .Or (x :: y :: z :: r) p)
 | cmp {sc:OW}{N:List Str}{o:BT.Cm}{op:CmpOp}{a b:BT.E}{l r:Ox}{p:Pos} (h:Bx o op=true) (ha:CE' sc N a l) (hb:CE' sc N b r) (hm:TL op r=false):CE' sc N (.cmp o a b) (.Compare l [op] [r] p)
 | chain {sc:OW}{N:List Str}{o o':BT.Cm}{op op':CmpOp}{a b c:BT.E}{l r r':Ox}{p:Pos} (h:Bx o op=true) (h':Bx o' op'=true) (ha:CE' sc N a l) (hb:CE' sc N b r) (hc:CE' sc N c r') (hm:lastMarks [op,op'] [r,r']=false):CE' sc N (.chain o o' a b c) (.Compare l [op,op'] [r,r'] p)
 | ite {sc:OW}{N:List Str}{c a b:BT.E}{t x y:Ox}{p:Pos} (h:tOK c=true) (hc:CE' sc N c t) (ha:CE' sc N a x) (hb:CE' sc N b y):CE' sc N (.ite c a b) (.IfExp t x y p)
 | tup {sc:OW}{N:List Str}{as:BT.Es}{es:List Ox}{k:Nat}{p:Pos} (h:CEs sc N as es):CE' sc N (.tup as) (.Tuple es k p)
 | lst {sc:OW}{N:List Str}{mu:Bool}{as:BT.Es}{es:List Ox}{p:Pos} (h:CEs sc N as es):CE' sc N (.lst mu as) (.List es p)
 | idx {sc:OW}{N:List Str}{a i:BT.E}{x sl:Ox}{p:Pos} (ha:CE' sc N a x) (hi:CE' sc N i sl) (hs:jc sl=true):CE' sc N (.idx a i) (.Subscript x sl p)
 | slc {sc:OW}{N:List Str}{a:BT.E}{lo hi:BT.Es}{x:Ox}{l u:Option Ox}{p2 p:Pos} (ha:CE' sc N a x) (hl:CO sc N lo l) (hu:CO sc N hi u):CE' sc N (.slc a lo hi) (.Subscript x (.Slice l u none p2) p)
 | call {sc:OW}{N:List Str}{f:Str}{as:BT.Es}{es:List Ox}{np p:Pos} (hg:aF sc f=true) (hn:cu f=true) (ha:CEs sc N as es):CE' sc N (.call f as) (.Call (.Name f np) es [] p)
 | sset {sc:OW}{N:List Str}{a:BT.E}{e:Ox}{np zp p pos:Pos} (hg:aF sc "sorted"=true) (hg2:aF sc "set"=true) (hs:noStar e=true) (h:CE' sc N a e) :
  CE' sc N (.bi .sset false (.cons a .nil)) (.Call (.Name "sorted" np) [.Call (.Name "set" zp) [e] [] pos] [] p)
 | lrng {sc:OW}{N:List Str}{mu:Bool}{a:BT.E}{e:Ox}{np zp p pos:Pos} (hg:aF sc "list"=true) (hg2:aF sc "range"=true) (hs:noStar e=true) (h:CE' sc N a e) :
  CE' sc N (.lsr mu .rng1 (.cons a .nil)) (.Call (.Name "list" np) [.Call (.Name "range" zp) [e] [] pos] [] p)
 | lrev {sc:OW}{N:List Str}{mu:Bool}{a:BT.E}{e:Ox}{np zp p pos:Pos} (hg:aF sc "list"=true) (hg2:aF sc "reversed"=true) (hs:noStar e=true) (h:CE' sc N a e) :
  CE' sc N (.lsr mu .rev (.cons a .nil)) (.Call (.Name "list" np) [.Call (.Name "reversed" zp) [e] [] pos] [] p)
 | bi {sc:OW}{N:List Str}{b:BT.Bi}{mu:Bool}{x:Str}{a:BT.E}{e:Ox}{np p:Pos} (hb:DW b mu x=true) (hg:aF sc x=true) (hs:noStar e=true) (ha:CE' sc N a e):CE' sc N (.bi b mu (.cons a .nil)) (.Call (.Name x np) [e] [] p)
 | inst {sc:OW}{N:List Str}{b:BT.Bi}{c:String}{f:BT.D->Bool}{a:BT.E}{e:Ox}{np p2 p:Pos} (hb:pR b=some (c,f)) (hg:aF sc "isinstance"=true) (hg2:aF sc (OT c)=true) (hs:noStar e=true) (ha:CE' sc N a e) :
  CE' sc N (.bi b false (.cons a .nil)) (.Call (.Name "isinstance" np) [e,.Name (OT c) p2] [] p)
 | me {sc:OW}{N:List Str}{m:BT.Me}{o:BT.E}{as:BT.Es}{oe:Ox}{name:Str}{apos cpos:Pos}{es:List Ox} (h1:yl m o=true) (h2:name=yj m) (h3:aE oe=true) (h6:(apos.endLine==cpos.line)=true) (h7:es.length < 20) (ho:CE' sc N o oe) (ha:CEs sc N as es) :
  CE' sc N (.me m o as) (.Call (.Attribute oe name apos) es [] cpos)
 | comp {sc:OW}{N:List Str}{mu:Bool}{sr:BT.Sr}{sa:BT.Es}{tg:List Str}{fv:List (Nat×Str)}{cond:BT.Es}{elt:BT.E}{te iter elt':Ox}{ifs:List Ox}{scope:OW}{pos:Pos}
  (hk:iK sc N tg fv scope=true) (ht:pT (aY scope sc) tg te=true) (hz:pS sr te=true) (hs:iI iter=true) (hi:CI sc N sr sa iter)
  (hc:CC (aY scope sc) (tg++fv.map (·.2)) cond ifs) (he:CE' (aY scope sc) (tg++fv.map (·.2)) elt elt'):CE' sc N (.comp mu sr sa tg fv cond elt) (.ListComp elt' [⟨te,iter,ifs,0⟩] scope pos)
 | fld {sc:OW}{N:List Str}{a:BT.E}{f:Str}{x:Ox}{p:Pos} (hb:aE x=true) (hf:attrName f=true) (ha:CE' sc N a x):CE' sc N (.fld a f) (.Attribute x f p)
 | meth {sc:OW}{N:List Str}{o:BT.E}{m:Str}{as:BT.Es}{oe:Ox}{apos cpos:Pos}{es:List Ox} (h3:aE oe=true) (h6:(apos.endLine==cpos.line)=true) (h7:es.length < 20) (ho:CE' sc N o oe) (ha:CEs sc N as es) :
  CE' sc N (.meth o m as) (.Call (.Attribute oe m apos) es [] cpos)
 | stp {sc:OW}{N:List Str}{mu:Bool}{k:Int}{a:BT.E}{x se:Ox}{p2 p:Pos} (hk:nR k se=true) (ha:CE' sc N a x):CE' sc N (.stp mu k a) (.Subscript x (.Slice none none (some se) p2) p)
 | bi2 {sc:OW}{N:List Str}{b:BT.Bi}{x:Str}{a1 a2:BT.E}{e1 e2:Ox}{np p:Pos} (hb:yi b x=true) (hg:aF sc x=true) (hs1:noStar e1=true) (hs2:noStar e2=true) (h1:CE' sc N a1 e1) (h2:CE' sc N a2 e2) :
  CE' sc N (.bi b false (.cons a1 (.cons a2 .nil))) (.Call (.Name x np) [e1,e2] [] p)
 | make {sc:OW}{N:List Str}{c:Str}{as:BT.Es}{es:List Ox}{np p:Pos} (hg:aF sc c=true) (hn:cu c=true) (ha:CEs sc N as es):CE' sc N (.make c as) (.Call (.Name c np) es [] p)
 | callv {sc:OW}{N:List Str}{i:Nat}{x:Str}{as:BT.Es}{e:Ox}{es:List Ox}{np p:Pos} (h1:N[i]?=some x) (h2:jZ sc x=true) (h3:cu x=true) (ha:CEs sc N as (e :: es)):CE' sc N (.callv i x as) (.Call (.Name x np) (e :: es) [] p)
 | dnew {sc:OW}{N:List Str}{p:Pos}:CE' sc N .dnew (.Dict [] [] p)
 | dli {sc:OW}{N:List Str}{o:BT.E}{oe:Ox}{np p apos pos:Pos} (hg:aF sc "list"=true) (h3:aE oe=true) (h6:(apos.endLine==pos.line)=true) (ho:CE' sc N o oe):CE' sc N (.dli o) (.Call (.Name "list" np) [.Call (.Attribute oe "items" apos) [] [] pos] [] p)
inductive CEs:OW->List Str->BT.Es->List Ox->Prop where
 | nil {sc:OW}{N:List Str}:CEs sc N .nil []
 | cons {sc:OW}{N:List Str}{a:BT.E}{as:BT.Es}{e:Ox}{es:List Ox} (hs:noStar e=true) (ha:CE' sc N a e) (hr:CEs sc N as es):CEs sc N (.cons a as) (e :: es)
inductive CO:OW->List Str->BT.Es->Option Ox->Prop where
 | nil {sc:OW}{N:List Str}:CO sc N .nil none
 | one {sc:OW}{N:List Str}{a:BT.E}{e:Ox} (ha:CE' sc N a e):CO sc N (.cons a .nil) (some e)
inductive CC:OW->List Str->BT.Es->List Ox->Prop where
 | nil {sc:OW}{N:List Str}:CC sc N .nil []
 | one {sc:OW}{N:List Str}{a:BT.E}{e:Ox} (ht:tOK a=true) (ha:CE' sc N a e):CC sc N (.cons a .nil) [e]
inductive CI:OW->List Str->BT.Sr->BT.Es->Ox->Prop where
 | rng1 {sc:OW}{N:List Str}{a:BT.E}{e:Ox}{p pos:Pos} (hg:aF sc "range"=true) (hs:noStar e=true) (h:CE' sc N a e):CI sc N .rng1 (.cons a .nil) (.Call (.Name "range" p) [e] [] pos)
 | rng2 {sc:OW}{N:List Str}{a b:BT.E}{x y:Ox}{p pos:Pos} (hg:aF sc "range"=true) (hs:noStar x=true) (hs2:noStar y=true) (ha:CE' sc N a x) (hb:CE' sc N b y):CI sc N .rng2 (.cons a (.cons b .nil)) (.Call (.Name "range" p) [x,y] [] pos)
 | rev {sc:OW}{N:List Str}{a:BT.E}{e:Ox}{p pos:Pos} (hg:aF sc "reversed"=true) (hs:noStar e=true) (h:CE' sc N a e):CI sc N .rev (.cons a .nil) (.Call (.Name "reversed" p) [e] [] pos)
 | seq {sc:OW}{N:List Str}{a:BT.E}{x:Ox} (h:CE' sc N a x):CI sc N .seq (.cons a .nil) x
end
inductive LPa:QI->List Str->Prop where
 | one {p:Pos}:LPa ⟨[],[⟨"state",none,p⟩],none,[],[],none,[]⟩ ["state"]
 | two {p q:Pos}:LPa ⟨[],[⟨"row",none,p⟩,⟨"state",none,q⟩],none,[],[],none,[]⟩ ["row","state"]
noncomputable def mV (ps fs:List Str) (sc:OW):Bool :=
 sc.kind==.function&&!sc.isCoroutine&&!sc.isGenerator&&sc.names.all (fun y=>!(y.2==.cell))&&ps.all (fun x=>sc.names.lookup x==some .local) &&
 fs.all (fun x=>sc.names.lookup x==some .free&&sc.names.contains (x,.free))&&sc.names.all (fun y=>!(y.2==.free)||fs.contains y.1)&&iJ (ps++fs)
noncomputable def ym (sc:OW) (N:List Str) (fv:List (Nat×Str)):Bool:=fv.all fun q=>N[q.1]?==some q.2&&sc.names.lookup q.2==some .cell
inductive CL (sc:OW) (N:List Str):BT.E->Str->BT.Es->Nat->List (Nat×Str)->Ox->Prop where
 | zero {o bt:BT.E}{m:Str}{L:Nat}{fv:List (Nat×Str)}{oe be:Ox}{apos cpos lp:Pos}{pa:QI}{scope:OW}{ns ps:List Str} (hl:BT.nQ L=some ⟨ns,ns,.ret bt⟩) (hp:LPa pa ps) (hn:ns=ps++fv.map (·.2)) (hk:mV ps (fv.map (·.2)) scope=true) (hv:ym sc N fv=true)
  (ht:N.contains (BT.cj (BT.yf L))=true) (hc:CE' scope ns bt be) (h3:aE oe=true) (h6:(apos.endLine==cpos.line)=true) (ho:CE' sc N o oe):CL sc N o m .nil L fv (.Call (.Attribute oe m apos) [.Lambda pa be scope lp] [] cpos)
 | one {o bt a:BT.E}{m:Str}{L:Nat}{fv:List (Nat×Str)}{oe be e:Ox}{apos cpos lp:Pos}{pa:QI}{scope:OW}{ns ps:List Str} (hl:BT.nQ L=some ⟨ns,ns,.ret bt⟩) (hp:LPa pa ps) (hn:ns=ps++fv.map (·.2)) (hk:mV ps (fv.map (·.2)) scope=true) (hv:ym sc N fv=true)
  (ht:N.contains (BT.cj (BT.yf L))=true) (hc:CE' scope ns bt be) (h3:aE oe=true) (h6:(apos.endLine==cpos.line)=true) (ho:CE' sc N o oe) (hs:noStar e=true) (ha:CE' sc N a e):CL sc N o m (.cons a .nil) L fv (.Call (.Attribute oe m apos) [e,.Lambda pa be scope lp] [] cpos)
end BS
end
section
namespace BS
open PySem PySem.Spec PyProof.Rows L2
noncomputable def KT (K:Ow) (a:Addr) (xs:List V):Prop :=
 ∃ (o:Obj) (its:Array Oz) (n:Nat),(K.lookup a=some o/\o.cls=.type "tuple"/\o.data=.seq its n/\its.size<=sizeLine/\aq xs its.toList)/\o.dict=none
noncomputable def KL (K:Ow) (a:Addr) (xs:List V):Prop:=∃ (its:List Oz) (n:Nat),K.lookup a=some { cls:=.type "list",data:=.seq its.toArray n }/\its.length<=sizeLine/\aq xs its
noncomputable def LL (K:Ow) (H:Hp) (a:Addr) (xs:List V):Prop:=Rd H a (.lst xs)\/KL K a xs
theorem LL.sq {K:Ow}{H:Hp}{a:Addr}{xs:List V} (h:LL K H a xs):SqL K H a xs:=by
 rcases h with h | ⟨its,n,h1,h2,h3⟩
 ·exact .inl h
 ·exact .inr ⟨_,its.toArray,n,h1,rfl,rfl,rfl,by simpa using h2,by simpa using h3⟩
noncomputable def KD (P:OO) (w:O6) (K:Ow) (a:Addr) (es:List (Str×V)):Prop :=
 (a==Re)=false/\∃ vs:List (Key×Oz),KV (es.map fun q=>(Sum.inr q.1,q.2)) vs/\∀ h:Heap,K.In h->h.DictOf (aM P w) a vs
mutual
inductive RD (K:Ow) (m:List Addr) (H:Hp):V->BT.D->Prop where
 | non:RD K m H .non .non
 | bl (b:Bool):RD K m H (.bl b) (.bl b)
 | int (i:Int):RD K m H (.int i) (.int i)
 | str (x:Str) (h:PyData.strOk x=true):RD K m H (.str x) (.str x)
 | tup {a:Addr}{vs:List V}{ds:List BT.D} (h:(Rd H a (.tup vs)/\a∉m)\/KT K a vs) (r:RDs K m H vs ds):RD K m H (.ref a) (.tup ds)
 | lst {a:Addr}{vs:List V}{ds:List BT.D} (h:(Rd H a (.lst vs)/\a∉m)\/KL K a vs) (r:RDs K m H vs ds):RD K m H (.ref a) (.lst ds)
inductive RDs (K:Ow) (m:List Addr) (H:Hp):List V->List BT.D->Prop where
 | nil:RDs K m H [] []
 | cons {v:V}{d:BT.D}{vs:List V}{ds:List BT.D} (r:RD K m H v d) (t:RDs K m H vs ds):RDs K m H (v :: vs) (d :: ds)
end
inductive RDk (K:Ow):List (Str×V)->List (Str×BT.D)->Prop where
 | nil:RDk K [] []
 | cons {x:Str}{v:V}{d:BT.D}{es:List (Str×V)}{kvs:List (Str×BT.D)} (r:∀ m H,RD K m H v d) (t:RDk K es kvs):RDk K ((x,v) :: es) ((x,d) :: kvs)
inductive RA (K:Ow) (m:List Addr) (H:Hp):V->BT.W->Prop where
 | p {v:V}{d:BT.D} (r:RD K m H v d):RA K m H v (.p d)
 | r {a:Addr}{n:Nat} (h:m[n]?=some a):RA K m H (.ref a) (.r n)
 | o {a:Addr}{n:Nat} (h:m[n]?=some a):RA K m H (.ref a) (.o n)
noncomputable def Tr (m:List Addr) (H:Hp) (a:Addr) (o:Obj):Prop:=H a=some (.frz o (.own 0))/\a∉m
noncomputable def vv (x:Str):Str:=x++".<locals>."++"<lambda>"
inductive f7 (m:List Addr) (H:Hp) (cl:List (Str×Addr)):List Str->List V->Prop where
 | nil:f7 m H cl [] []
 | cons {x:Str}{c:Addr}{o:Obj}{u:Oz}{v:V}{xs:List Str}{vs:List V} (h1:cl.lookup x=some c) (h2:Tr m H c o) (h3:o.data=.cell (some u)) (r:RelV v u) (t:f7 m H cl xs vs):f7 m H cl (x :: xs) (v :: vs)
noncomputable def gr (m:List Addr) (H:Hp) (f:Addr) (L:Nat) (vs:List V):Prop :=
 ∃ bt ps fs pa be sc cl pm ctv c' oc os t q,BT.nQ L=some ⟨ps++fs,ps++fs,.ret bt⟩/\LPa pa ps/\mV ps fs sc=true/\CE' sc (ps++fs) bt be/\(∀ x y c,cl.lookup x=some c->cl.lookup y=some c->x=y)/\(∀ x c,cl.lookup x=some c->x∈fs) ∧
  Tr m H f (Sg "<lambda>" q pa be sc cl pm c' ctv)/\Tr m H c' oc/\oc.data=.fields os/\os[1]?=some (.str q t)/\f7 m H cl fs vs
inductive RCs (K:Ow) (m:List Addr) (H:Hp):List V->List BT.Cp->Prop where
 | nil:RCs K m H [] []
 | cons {v:V}{x:BT.Cp}{vs:List V}{xs:List BT.Cp} (r:RA K m H v x.w) (t:RCs K m H vs xs):RCs K m H (v :: vs) (x :: xs)
noncomputable def TB (K:Ow) (H:Hp):Prop:=∀ x∈BT.dD,∀ c P,Pw K x=some (c,P)->∃ ps,H P=some (.tbl ps)/\TriplesOk ps.toList ∧
 ∀ pos v,RP pos ps.toList=some v->∃ c' oc os t,v=.ref c'/\H c'=some (.frz oc (.own 0))/\oc.data=.fields os/\os[1]?=some (.str (vv x) t)
theorem TB.mono {K:Ow}{H H':Hp} (h:TB K H) (h1:∀ P ps,H P=some (.tbl ps)->H' P=some (.tbl ps)) (h2:∀ a o vs,o.data=.fields vs->H a=some (.frz o (.own 0))->H' a=some (.frz o (.own 0))):TB K H':=fun x hx c P e=>by
 obtain ⟨ps,e1,e2,e3⟩:=h x hx c P e
 refine ⟨ps,h1 _ _ e1,e2,fun pos v q=>?_⟩
 obtain ⟨c',oc,os,t,q1,q2,q3⟩:=e3 pos v q
 exact ⟨c',oc,os,t,q1,h2 _ _ _ q3.1 q2,q3⟩
inductive RW (P:OO) (w:O6) (K:Ow) (m:List Addr) (H:Hp):V->BT.W->Prop where
 | p {v:V}{d:BT.D} (r:RD K m H v d):RW P w K m H v (.p d)
 | r {a:Addr}{n:Nat} (h:m[n]?=some a):RW P w K m H (.ref a) (.r n)
 | k {a:Addr}{es:List (Str×V)}{kvs:List (Str×BT.D)} (h:KD P w K a es) (r:RDk K es kvs):RW P w K m H (.ref a) (.k kvs)
 | o {a:Addr}{n:Nat} (h:m[n]?=some a):RW P w K m H (.ref a) (.o n)
 | c {f:Addr}{L:Nat}{vs:List V}{cs:List BT.Cp} (h:gr m H f L vs) (r:RCs K m H vs cs):RW P w K m H (.ref f) (.c (.l L) cs)
 | g {f:Addr}{x:Str} (h:Pj K OV x=some (some (.ref f))) (r:PZ K (.ref f)=true):RW P w K m H (.ref f) (.c (.f x) [])
inductive RFs (K:Ow) (m:List Addr) (H:Hp):List (Str×V)->List (Str×BT.W)->Prop where
 | nil:RFs K m H [] []
 | cons {f:Str}{v:V}{x:BT.W}{vs:List (Str×V)}{fs:List (Str×BT.W)} (r:RA K m H v x) (t:RFs K m H vs fs):RFs K m H ((f,v) :: vs) ((f,x) :: fs)
inductive RKs (K:Ow) (m:List Addr) (H:Hp):List (Key×V)->List (BT.Ky×BT.D)->Prop where
 | nil:RKs K m H [] []
 | cons {k:Key}{v:V}{d:BT.D}{vs:List (Key×V)}{kvs:List (BT.Ky×BT.D)} (hk:RD K m H (kV k) (BT.qY k)) (r:RD K m H v d) (t:RKs K m H vs kvs):RKs K m H ((k,v) :: vs) ((k,d) :: kvs)
noncomputable def CN (K:Ow) (c:Str) (C:Addr):Prop:=Pj K OV c=some (some (.ref C))
theorem CN.inj {K:Ow}{c:Str}{C C':Addr} (h:CN K c C) (h':CN K c C'):C=C':=by
 have e:=h.symm.trans h'
 simpa using e
structure kU (K:Ow) (c:Str) (C:Addr):Prop where
 cn:CN K c C
 cls:Cls K C
 no:∀ f,attrName f=true->gc K C f
noncomputable def gu (K:Ow) (m:List Addr) (H:Hp) (a:Addr):BT.Cl->Prop
 | .l xs=>∃ vs,H a=some (.lst vs)/\RDs K m H vs xs
 | .o c fs=>∃ C dx vs,H a=some (.ins C dx vs)/\kU K c C/\RFs K m H vs fs
 | .d kvs=>∃ vs,H a=some (.dK vs)/\RKs K m H vs kvs
inductive RWs (P:OO) (w:O6) (K:Ow) (m:List Addr) (H:Hp):List V->List BT.W->Prop where
 | nil:RWs P w K m H [] []
 | cons {v:V}{x:BT.W}{vs:List V}{xs:List BT.W} (r:RW P w K m H v x) (t:RWs P w K m H vs xs):RWs P w K m H (v :: vs) (x :: xs)
structure RH (K:Ow) (m:List Addr) (H:Hp) (h:BT.HH):Prop where
 nd:m.Nodup
 len:m.length=h.length
 cl:∀ (i:Nat) (a:Addr) (c:BT.Cl),m[i]?=some a->h[i]?=some c->gu K m H a c
 tb:TB K H
theorem yo {h:BT.HH}{n:Nat}{xs:List BT.D} (e:BT.lat h n=some xs):h[n]?=some (.l xs):=by
 unfold BT.lat at e
 cases g:h[n]? with
 | none=>rw[g] at e;cases e
 | some c=>rw[g] at e;cases c<;>simp[BT.nF] at e;rw[e]
theorem yp {h:BT.HH}{n:Nat}{c:Str}{fs:List (Str×BT.W)} (e:BT.oat h n=some (c,fs)):h[n]?=some (.o c fs):=by
 unfold BT.oat at e
 cases g:h[n]? with
 | none=>rw[g] at e;cases e
 | some c=>rw[g] at e;cases c<;>simp[BT.pL] at e;rw[e.1,e.2]
theorem yq {h:BT.HH}{n:Nat}{kvs:List (BT.Ky×BT.D)} (e:BT.dat h n=some kvs):h[n]?=some (.d kvs):=by
 unfold BT.dat at e
 cases g:h[n]? with
 | none=>rw[g] at e;cases e
 | some c=>rw[g] at e;cases c<;>simp[BT.vj] at e;rw[e]
theorem RH.DX {K:Ow}{m:List Addr}{H:Hp}{h:BT.HH} (R:RH K m H h) (i:Nat) (a:Addr) (kvs:List (BT.Ky×BT.D)) (e:m[i]?=some a) (g:BT.dat h i=some kvs):∃ vs,H a=some (.dK vs)/\RKs K m H vs kvs:=R.cl i a _ e (yq g)
theorem RH.cell {K:Ow}{m:List Addr}{H:Hp}{h:BT.HH} (R:RH K m H h) (i:Nat) (a:Addr) (xs:List BT.D) (e:m[i]?=some a) (g:BT.lat h i=some xs):∃ vs,H a=some (.lst vs)/\RDs K m H vs xs:=R.cl i a _ e (yo g)
theorem RH.mW {K:Ow}{m:List Addr}{H:Hp}{h:BT.HH} (R:RH K m H h) (i:Nat) (a:Addr) (c:Str) (fs:List (Str×BT.W)) (e:m[i]?=some a) (g:BT.oat h i=some (c,fs)):∃ C dx vs,H a=some (.ins C dx vs)/\kU K c C/\RFs K m H vs fs:=R.cl i a _ e (yp g)
structure RS (P:OO) (w:O6) (K:Ow) (m:List Addr) (H:Hp) (σ:L2.St) (s:BT.Sl):Prop where
 len:σ.length=s.length
 get:∀ (i:Nat) (x:BT.W),s[i]?=some (some x)->∃ v,σ[i]?=some (some v)/\RW P w K m H v x
noncomputable def yr:HO->Bool
 | .tbl _=>true
 | _=>false
structure Ext (m:List Addr) (H:Hp) (m':List Addr) (H':Hp):Prop where
 pre:∃ e,m'=m++e/\∀ a∈e,H a=none
 keep:∀ a o,H a=some o->a∉m->yr o=false->H' a=some o
 live:∀ a,H' a=none->H a=none
theorem Ext.refl (m:List Addr) (H:Hp):Ext m H m H:=⟨⟨[],by simp,by simp⟩,fun _ _ h _ _=>h,fun _ h=>h⟩
theorem Ext.fm {m m':List Addr}{H H':Hp} (x:Ext m H m' H') {a:Addr}{o:HO} (h:H a=some o) (n:a∉m):a∉m':=by
 obtain ⟨e,rfl,he⟩:=x.pre
 intro q
 rcases List.mem_append.mp q with q | q
 ·exact n q
 ·rw[he a q] at h;cases h
theorem Ext.trans {m m1 m2:List Addr}{H H1 H2:Hp} (x:Ext m H m1 H1) (y:Ext m1 H1 m2 H2):Ext m H m2 H2:=by
 obtain ⟨e,rfl,he⟩:=x.pre
 obtain ⟨e',rfl,he'⟩:=y.pre
 refine ⟨⟨e++e',by rw[PF],fun a ha=>?_⟩,fun a o h n t=>y.keep a o (x.keep a o h n t) (x.fm h n) t,fun a h=>x.live a (y.live a h)⟩
 rcases List.mem_append.mp ha with q | q
 ·exact he a q
 ·exact x.live a (he' a q)
theorem Rd.ext {m m':List Addr}{H H':Hp} (x:Ext m H m' H') {a:Addr}{u:HO} (h:Rd H a u) (n:a∉m) (t:yr u=false:=by rfl):Rd H' a u/\a∉m':=by
 rcases h with h | ⟨o,h⟩
 ·exact ⟨.inl (x.keep _ _ h n t),x.fm h n⟩
 ·exact ⟨.inr ⟨o,x.keep _ _ h n rfl⟩,x.fm h n⟩
theorem Tr.ext {m m':List Addr}{H H':Hp} (x:Ext m H m' H') {a:Addr}{o:Obj} (h:Tr m H a o):Tr m' H' a o:=⟨x.keep _ _ h.1 h.2 rfl,x.fm h.1 h.2⟩
theorem f7.ext {m m':List Addr}{H H':Hp} (x:Ext m H m' H') {cl:List (Str×Addr)}{xs:List Str}{vs:List V} (r:f7 m H cl xs vs):f7 m' H' cl xs vs:=by
 induction r with
 | nil=>exact .nil
 | cons h1 h2 h3 r t ih=>exact .cons h1 (h2.ext x) h3 r ih
theorem gr.ext {m m':List Addr}{H H':Hp} (x:Ext m H m' H') {f:Addr}{L:Nat}{vs:List V} (h:gr m H f L vs):gr m' H' f L vs:=by
 obtain ⟨bt,ps,fs,pa,be,sc,cl,pm,ctv,c',oc,os,t,q,h0,h1,h2,h3,h4,h5,h6,h7,h8,h9,h10⟩:=h
 exact ⟨bt,ps,fs,pa,be,sc,cl,pm,ctv,c',oc,os,t,q,h0,h1,h2,h3,h4,h5,h6.ext x,h7.ext x,h8,h9,h10.ext x⟩
section
variable {P:OO}{w:O6}{K:Ow}{m m':List Addr}{H H':Hp}
mutual
theorem RD.ext (x:Ext m H m' H'):∀ {v:V}{d:BT.D},RD K m H v d->RD K m' H' v d
 | _,_,.non=>.non
 | _,_,.bl b=>.bl b
 | _,_,.int i=>.int i
 | _,_,.str y h=>.str y h
 | _,_,.tup h r=>.tup (h.elim (fun q=>.inl (Rd.ext x q.1 q.2)) .inr) (RDs.ext x r)
 | _,_,.lst h r=>.lst (h.elim (fun q=>.inl (Rd.ext x q.1 q.2)) .inr) (RDs.ext x r)
theorem RDs.ext (x:Ext m H m' H'):∀ {vs:List V}{ds:List BT.D},RDs K m H vs ds->RDs K m' H' vs ds
 | _,_,.nil=>.nil
 | _,_,.cons r t=>.cons (RD.ext x r) (RDs.ext x t)
end
theorem RA.rw {v:V}{d:BT.W} (r:RA K m H v d):RW P w K m H v d:=by
 cases r with
 | p r=>exact .p r
 | r h=>exact .r h
 | o h=>exact .o h
theorem RW.ra {v:V}{d:BT.W} (r:RW P w K m H v d) (h0:BT.attrOk d=true):RA K m H v d:=by
 cases r with
 | p r=>exact .p r
 | r h=>exact .r h
 | o h=>exact .o h
 | k _ _=>cases h0
 | c _ _=>cases h0
 | g _ _=>cases h0
theorem Ext.ix (x:Ext m H m' H') {n:Nat}{a:Addr} (h:m[n]?=some a):m'[n]?=some a:=by
 obtain ⟨e,rfl,_⟩:=x.pre
 rw[OH (by rcases OR _ m.length with q | q;exact q;rw[OJ q] at h;cases h)]
 exact h
theorem RA.ext (x:Ext m H m' H') {v:V}{d:BT.W} (r:RA K m H v d):RA K m' H' v d:=by
 cases r with
 | p r=>exact .p (r.ext x)
 | r h=>exact .r (x.ix h)
 | o h=>exact .o (x.ix h)
theorem RCs.ext (x:Ext m H m' H') {vs:List V}{cs:List BT.Cp} (r:RCs K m H vs cs):RCs K m' H' vs cs:=by
 induction r with
 | nil=>exact .nil
 | cons r t ih=>exact .cons (r.ext x) ih
theorem RW.ext (x:Ext m H m' H') {v:V}{d:BT.W} (r:RW P w K m H v d):RW P w K m' H' v d:=by
 cases r with
 | p r=>exact .p (r.ext x)
 | r h =>
  obtain ⟨e,rfl,_⟩:=x.pre
  refine .r ?_
  rw[OH (by rcases OR _ m.length with q | q;exact q;rw[OJ q] at h;cases h)]
  exact h
 | k h r=>exact .k h r
 | c h r=>exact .c (h.ext x) (r.ext x)
 | g h r=>exact .g h r
 | o h =>
  obtain ⟨e,rfl,_⟩:=x.pre
  refine .o ?_
  rw[OH (by rcases OR _ m.length with q | q;exact q;rw[OJ q] at h;cases h)]
  exact h
theorem RFs.ext (x:Ext m H m' H') {vs:List (Str×V)}{fs:List (Str×BT.W)} (r:RFs K m H vs fs):RFs K m' H' vs fs:=by
 induction r with
 | nil=>exact .nil
 | cons r t ih=>exact .cons (r.ext x) ih
theorem RKs.ext (x:Ext m H m' H') {vs:List (Key×V)}{kvs:List (BT.Ky×BT.D)} (r:RKs K m H vs kvs):RKs K m' H' vs kvs:=by
 induction r with
 | nil=>exact .nil
 | cons hk r t ih=>exact .cons (hk.ext x) (r.ext x) ih
theorem gu.ext (x:Ext m H m' H') {a:Addr} (e:H' a=H a) {c:BT.Cl} (r:gu K m H a c):gu K m' H' a c:=by
 cases c with
 | l xs=>obtain ⟨vs,h1,h2⟩:=r;exact ⟨vs,e.trans h1,h2.ext x⟩
 | o c fs=>obtain ⟨C,dx,vs,h1,h2,h3⟩:=r;exact ⟨C,dx,vs,e.trans h1,h2,h3.ext x⟩
 | d kvs=>obtain ⟨vs,h1,h2⟩:=r;exact ⟨vs,e.trans h1,h2.ext x⟩
theorem gu.some {a:Addr}{c:BT.Cl} (r:gu K m H a c):∃ o,H a=some o:=by
 cases c with
 | l xs=>obtain ⟨vs,h1,h2⟩:=r;exact ⟨_,h1⟩
 | o c fs=>obtain ⟨C,dx,vs,h1,h2,h3⟩:=r;exact ⟨_,h1⟩
 | d kvs=>obtain ⟨vs,h1,h2⟩:=r;exact ⟨_,h1⟩
theorem RWs.ext (x:Ext m H m' H') {vs:List V}{ds:List BT.W} (r:RWs P w K m H vs ds):RWs P w K m' H' vs ds:=by
 induction r with
 | nil=>exact .nil
 | cons r t ih=>exact .cons (r.ext x) ih
theorem RS.ext (x:Ext m H m' H') {σ:L2.St}{s:BT.Sl} (r:RS P w K m H σ s):RS P w K m' H' σ s :=
 ⟨r.len,fun i y e=>by obtain ⟨v,h,q⟩:=r.get i y e;exact ⟨v,h,q.ext x⟩⟩
theorem RDs.length:∀ {vs:List V}{ds:List BT.D},RDs K m H vs ds->vs.length=ds.length
 | _,_,.nil=>rfl
 | _,_,.cons _ t=>by rw[OZ,OZ,RDs.length t]
theorem RWs.length:∀ {vs:List V}{ds:List BT.W},RWs P w K m H vs ds->vs.length=ds.length
 | _,_,.nil=>rfl
 | _,_,.cons _ t=>by rw[OZ,OZ,RWs.length t]
theorem RDs.get:∀ {vs:List V}{ds:List BT.D}{i:Nat}{d:BT.D},RDs K m H vs ds->ds[i]?=some d->∃ v,vs[i]?=some v/\RD K m H v d
 | _,_,_,_,.nil,e=>by simp at e
 | _,_,0,_,.cons r _,e=>by simp at e;subst e;exact ⟨_,rfl,r⟩
 | _,_,i+1,d,.cons _ t,e=>by
  obtain ⟨u,h1,h2⟩:=RDs.get (i:=i) (d:=d) t (by simpa using e)
  exact ⟨u,by simpa using h1,h2⟩
theorem RDs.append:∀ {vs ws:List V}{ds es:List BT.D},RDs K m H vs ds->RDs K m H ws es->RDs K m H (vs++ws) (ds++es)
 | _,_,_,_,.nil,s=>s
 | _,_,_,_,.cons r t,s=>.cons r (RDs.append t s)
theorem RDs.take:∀ {vs:List V}{ds:List BT.D} (n:Nat),RDs K m H vs ds->RDs K m H (vs.take n) (ds.take n)
 | _,_,0,_=>.nil
 | _,_,_+1,.nil=>.nil
 | _,_,n+1,.cons r t=>.cons r (RDs.take n t)
theorem RDs.drop:∀ {vs:List V}{ds:List BT.D} (n:Nat),RDs K m H vs ds->RDs K m H (vs.drop n) (ds.drop n)
 | _,_,0,r=>r
 | _,_,_+1,.nil=>.nil
 | _,_,n+1,.cons _ t=>RDs.drop n t
theorem RDs.set {v:V}{d:BT.D} (r:RD K m H v d):∀ {vs:List V}{ds:List BT.D} (i:Nat),RDs K m H vs ds->RDs K m H (vs.set i v) (ds.set i d)
 | _,_,_,.nil=>.nil
 | _,_,0,.cons _ t=>.cons r t
 | _,_,i+1,.cons q t=>.cons q (RDs.set r i t)
theorem RDs.reverse {vs:List V}{ds:List BT.D} (r:RDs K m H vs ds):RDs K m H vs.reverse ds.reverse:=by
 match r with
 | .nil=>exact .nil
 | .cons r t=>rw[R0,R0];exact RDs.append (RDs.reverse t) (.cons r .nil)
theorem RDs.pick {vs:List V}{ds:List BT.D} (r:RDs K m H vs ds):∀ l:List Nat,RDs K m H (l.filterMap fun i=>vs[i]?) (l.filterMap fun i=>ds[i]?)
 | []=>.nil
 | i :: l=>by
  rw[O9,O9]
  cases g:ds[i]? with
  | none =>
   have:vs[i]?=none:=by
    have h:=r.length
    rw[Uj] at g ⊢
    omega
   rw[this]
   exact RDs.pick r l
  | some d =>
   obtain ⟨v,e,q⟩:=r.get g
   rw[e]
   exact .cons q (RDs.pick r l)
theorem RDs.dropLast:∀ {vs:List V}{ds:List BT.D},RDs K m H vs ds->RDs K m H vs.dropLast ds.dropLast
 | _,_,.nil=>.nil
 | _,_,.cons _ .nil=>.nil
 | _,_,.cons r (.cons q t)=>.cons r (RDs.dropLast (.cons q t))
theorem RDs.rep {vs:List V}{ds:List BT.D} (r:RDs K m H vs ds):∀ k:Nat,RDs K m H (OX k vs).flatten (OX k ds).flatten
 | 0=>.nil
 | k+1=>by
  rw[Qg,Qg,QT,QT]
  exact RDs.append r (RDs.rep r k)
theorem mX {N:List Addr} (hN:N.Nodup) {i j:Nat}{x:Addr} (a:N[i]?=some x) (b:N[j]?=some x):i=j:=by
 have hi:i < N.length:=by
  rcases OR i N.length with z | z
  ·exact z
  ·rw[OJ z] at a;cases a
 have hj:j < N.length:=by
  rcases OR j N.length with z | z
  ·exact z
  ·rw[OJ z] at b;cases b
 rw[OF hi] at a
 rw[OF hj] at b
 exact (List.getElem_inj hN).mp ((OP a).trans (OP b).symm)
inductive RR (K:Ow) (m:List Addr) (H:Hp):V->BT.D->Prop where
 | d {v:V}{d:BT.D} (r:RD K m H v d):RR K m H v d
 | l {a:Addr}{vs:List V}{ds:List BT.D} (h:H a=some (.lst vs)) (r:RDs K m H vs ds):RR K m H (.ref a) (.lst ds)
theorem aC {h:BT.HH} (RHh:RH K m H h) {v:V}{x:BT.W}{d:BT.D} (r:RW P w K m H v x) (e:BT.rd x h=some d):RR K m H v d:=by
 cases r with
 | p r=>cases e;exact .d r
 | @r a n q =>
  simp only[BT.rd] at e
  cases g:BT.lat h n with
  | none=>rw[g] at e;cases e
  | some xs =>
   rw[g] at e
   cases e
   obtain ⟨vs,h1,h2⟩:=RHh.cell n a xs q g
   exact .l h1 h2
 | k _ _=>cases e
 | o _=>cases e
 | c _ _=>cases e
 | g _ _=>cases e
theorem RR.lst {v:V}{ds:List BT.D} (r:RR K m H v (.lst ds)):∃ a vs,v=.ref a/\LL K H a vs/\RDs K m H vs ds:=by
 cases r with
 | d r=>cases r with | lst h r=>exact ⟨_,_,rfl,h.elim (fun q=>.inl q.1) .inr,r⟩
 | l h r=>exact ⟨_,_,rfl,.inl (.inl h),r⟩
theorem RR.tup {v:V}{ds:List BT.D} (r:RR K m H v (.tup ds)):∃ a vs,v=.ref a/\SqT K H a vs/\RDs K m H vs ds:=by
 cases r with
 | d r=>cases r with | tup h r=>exact ⟨_,_,rfl,h.elim (fun q=>.inl q.1) (fun ⟨o,its,n,q,_⟩=>.inr ⟨o,its,n,q⟩),r⟩
theorem RR.int {v:V}{i:Int} (r:RR K m H v (.int i)):v=.int i:=by
 cases r with | d r=>cases r;rfl
theorem RR.str {v:V}{x:Str} (r:RR K m H v (.str x)):v=.str x/\PyData.strOk x=true:=by
 cases r with | d r=>cases r with | str _ h=>exact ⟨rfl,h⟩
theorem RR.bl {v:V}{b:Bool} (r:RR K m H v (.bl b)):v=.bl b:=by
 cases r with | d r=>cases r;rfl
theorem RR.non {v:V} (r:RR K m H v .non):v=.non:=by
 cases r with | d r=>cases r;rfl
theorem TB.new {p:Addr}{o:HO} (hp:H p=none) {K:Ow} (h:TB K H):TB K (upd H p o) :=
 h.mono (fun P ps e=>by rw[au (az e hp)];exact e) fun a o _ _ e=>by rw[au (az e hp)];exact e
theorem fW {p:Addr}{o:HO} (hp:H p=none):Ext m H m (upd H p o) :=
 ⟨⟨[],by simp,by simp⟩,fun a q h _ _=>by rw[au (az h hp)];exact h,fun a h=>by
  by_cases e:a=p
  ·rw[e];exact hp
  ·rw[au e] at h;exact h⟩
theorem RH.fm {h:BT.HH} (R:RH K m H h) {p:Addr} (hp:H p=none):p∉m:=by
 intro q
 obtain ⟨i,hi⟩:=Po q
 have hl:i < h.length:=by
  rw[← R.len]
  rcases OR i m.length with z | z
  ·exact z
  ·rw[OJ z] at hi;cases hi
 obtain ⟨o,e⟩:=(R.cl i p h[i] hi (OF hl)).some
 rw[e] at hp;cases hp
noncomputable def Le (H H':Hp):Prop:=∀ a u,H a=some u->H' a=some u
theorem Le.tb (q:Le H H') {K:Ow} (t:TB K H):TB K H':=t.mono (fun _ _ e=>q _ _ e) fun _ _ _ _ e=>q _ _ e
theorem yt {p:Addr}{o:HO} (hp:H p=none):Le H (upd H p o):=fun a u e=>by rw[au (az e hp)];exact e
theorem RH.ext {h:BT.HH} (R:RH K m H h) (x:Ext m H m H') (k:Le H H'):RH K m H' h :=
 ⟨R.nd,R.len,fun i a c e1 e2=>by
  obtain ⟨o,e⟩:=(R.cl i a c e1 e2).some
  exact (R.cl i a c e1 e2).ext x (by rw[e];exact k _ _ e),k.tb R.tb⟩
noncomputable def Fv:HO->Bool
 | .lst _=>true
 | .ins _ _ _=>true
 | .dK _=>true
 | _=>false
theorem RH.mu {h:BT.HH} (R:RH K m H h) {a:Addr} (ha:a∈m):∃ o,H a=some o/\Fv o=true:=by
 obtain ⟨i,hi⟩:=Po ha
 have hl:i < h.length:=by
  rw[← R.len]
  rcases OR i m.length with z | z
  ·exact z
  ·rw[OJ z] at hi;cases hi
 have z:=R.cl i a h[i] hi (OF hl)
 cases g:h[i] with
 | l xs=>rw[g] at z;obtain ⟨vs,h1,h2⟩:=z;exact ⟨_,h1,rfl⟩
 | o c fs=>rw[g] at z;obtain ⟨C,dx,vs,h1,h2,h3⟩:=z;exact ⟨_,h1,rfl⟩
 | d kvs=>rw[g] at z;obtain ⟨vs,h1,h2⟩:=z;exact ⟨_,h1,rfl⟩
theorem RH.nin {h:BT.HH} (R:RH K m H h) {a:Addr}{o:HO} (e:H a=some o) (n:Fv o=false):a∉m:=fun z=>by
 obtain ⟨u,h1,h2⟩:=R.mu z
 rw[e] at h1;cases h1
 rw[n] at h2;cases h2
theorem RH.new {h:BT.HH} (R:RH K m H h) {p:Addr}{o:HO} (hp:H p=none):RH K m (upd H p o) h :=
 R.ext (fW hp) (yt hp)
theorem gw {p:Addr}{o:HO} (hp:H p=none):Ext m H (m++[p]) (upd H p o) :=
 ⟨⟨[p],rfl,by simpa using hp⟩,fun a q h _ _=>by rw[au (az h hp)];exact h,fun a h=>by
  by_cases e:a=p
  ·rw[e];exact hp
  ·rw[au e] at h;exact h⟩
theorem RH.Fw {h:BT.HH} (R:RH K m H h) {p:Addr}{o:HO}{c:BT.Cl} (hp:H p=none) (r:gu K (m++[p]) (upd H p o) p c):RH K (m++[p]) (upd H p o) (h++[c]):=by
 have np:=R.fm hp
 have x:Ext m H (m++[p]) (upd H p o):=gw hp
 refine ⟨List.nodup_append.mpr ⟨R.nd,by simp,fun a ha b hb=>by simp at hb;subst hb;exact fun e=>np (e ▸ ha)⟩,by simp[R.len],fun i a ys e1 e2=>?_,R.tb.new hp⟩
 by_cases c:i < m.length
 ·rw[OH c] at e1
  rw[OH (by rw[← R.len];exact c)] at e2
  have ne:a≠p:=by
   intro e
   subst e
   exact np (OM e1)
  exact (R.cl i a ys e1 e2).ext x (au ne)
 ·have e:i=m.length:=by
   rcases OR i (m++[p]).length with z | z
   ·simp at z;omega
   ·rw[OJ z] at e1;cases e1
  subst e
  simp at e1
  rw[R.len] at e2
  simp at e2
  subst e1 e2
  exact r
theorem RH.M4 {h:BT.HH} (R:RH K m H h) {p:Addr}{vs:List V}{xs:List BT.D} (hp:H p=none) (r:RDs K m H vs xs):RH K (m++[p]) (upd H p (.lst vs)) (h++[.l xs]) :=
 R.Fw hp ⟨vs,aB,r.ext (gw hp)⟩
theorem TB.set {a:Addr}{o:HO} (hm:∃ u,H a=some u/\Fv u=true) {K:Ow} (h:TB K H):TB K (upd H a o):=by
 obtain ⟨w,hw,hu⟩:=hm
 refine h.mono (fun P ps e=>?_) fun b ob _ _ e=>?_
 ·rw[au (fun z=>by subst z;rw[hw] at e;cases e;cases hu)];exact e
 ·rw[au (fun z=>by subst z;rw[hw] at e;cases e;cases hu)];exact e
theorem jd {a:Addr}{o:HO} (ha:a∈m):Ext m H m (upd H a o) :=
 ⟨⟨[],by simp,by simp⟩,fun b u q n _=>by
  have ne:b≠a:=by
   intro e
   subst e
   exact n ha
  rw[au ne];exact q,fun b q=>by
  by_cases e:b=a
  ·subst e;rw[aB] at q;cases q
  ·rw[au e] at q;exact q⟩
theorem fK {a:Addr}{vs us:List V} (ha:a∈m) (h:H a=some (.lst us)):Ext m H m (upd H a (.lst vs)):=jd ha
theorem RH.setC {h:BT.HH} (R:RH K m H h) {n:Nat}{a:Addr}{o:HO}{c:BT.Cl} (hn:m[n]?=some a) (r:gu K m (upd H a o) a c):RH K m (upd H a o) (h.set n c):=by
 have x:Ext m H m (upd H a o):=jd (OM hn)
 refine ⟨R.nd,by simp[R.len],fun i b ys e1 e2=>?_,R.tb.set (R.mu (OM hn))⟩
 by_cases c:i=n
 ·subst c
  rw[hn] at e1;cases e1
  have hl:i < h.length:=by
   rw[← R.len]
   rcases OR i m.length with z | z
   ·exact z
   ·rw[OJ z] at hn;cases hn
  rw[PY hl] at e2
  cases e2
  exact r
 ·rw[Pd (PD c)] at e2
  have ne:b≠a:=by
   intro e
   subst e
   exact c (mX R.nd e1 hn)
  exact (R.cl i b ys e1 e2).ext x (au ne)
theorem RH.set {h:BT.HH} (R:RH K m H h) {n:Nat}{a:Addr}{vs us:List V}{xs:List BT.D} (hn:m[n]?=some a) (hH:H a=some (.lst us)) (r:RDs K m H vs xs):RH K m (upd H a (.lst vs)) (h.set n (.l xs)) :=
 R.setC hn ⟨vs,aB,r.ext (fK (OM hn) hH)⟩
end
end BS
end
section
namespace BS
open PySem PySem.Spec PyProof.Rows L2 PySem.SeqAt
theorem j7 {M:Model}{A:PL}{E:Oz->OB->Prop}{s:OB}{β:Type} (f:Nat->β->Sem (ForInStep β)) (n:Nat) (I:Nat->β->OB->Prop) (Q:β->OB->Prop)
 (turn:∀ i b s,i < n->I i b s->wpAny M A (f i b) (fun r s'=>match r with | .yield b'=>I (i+1) b' s' | .done b'=>Q b' s') E s)
 (fin:∀ b s,I n b s->Q b s) (b:β) (h:I 0 b s):wpAny M A (forIn [:n] b f) Q E s:=by
 rw[Std.Legacy.Range.forIn_eq_forIn_range']
 have e:U4 [:n].start [:n].size [:n].step=U4 0 (n - 0):=by simp[Std.Legacy.Range.size]
 rw[e]
 refine wpAny_forIn_list f (fun rest b s=>∃ i,i<=n/\rest=U4 i (n - i)/\I i b s) Q (fun x rest b s ⟨i,hi,hr,q⟩=>?_) (fun b s ⟨i,hi,hr,q⟩=>?_) _ b ⟨0,Pq _,rfl,h⟩
 ·have hlt:i < n:=by
   rcases OR i n with z | z
   ·exact z
   ·rw[show n - i=0 by omega] at hr;simp at hr
  rw[show n - i=(n - (i+1))+1 by omega,List.range'_succ] at hr
  injection hr with e1 e2
  subst e1
  refine wpAny_mono (turn x b s hlt q) (fun r s' z=>?_) fun _ _ z=>z
  cases r with
  | yield b'=>exact ⟨x+1,hlt,e2,z⟩
  | done b'=>exact z
 ·have:i=n:=by
   rcases OR i n with z | z
   ·rw[show n - i=(n - (i+1))+1 by omega,List.range'_succ] at hr;simp at hr
   ·omega
  subst this
  exact fin b s q
theorem mh (l:Addr) (items:Array Oz) (n:Nat) (dd:Option Addr) (sl:Array (Option Oz)) (x:Oz) (e:Oz->Bool) (j:Nat) (hj:j < items.size)
 (hit:e items[j]=true) (hno:∀ m (hm:m < items.size),m < j->e items[m]=false) :
 Meets (Builtin.«tuple.index» ⟨[.ref l,x],[]⟩)
  (fun A R s=>s.heap.get? l=some { cls:=.type "tuple",dict:=dd,data:=.seq items n,slots:=sl }/\(∀ y,y∈items->EqAt A.in1 s y x (e y))/\R (.ok (.ret (.int j s.toks))) { s with toks:=s.toks+1 }) :=
 .of_wp fun prog w A R s h=>by
 obtain ⟨hp,g,d,tk,os⟩:=s;obtain ⟨hl,he,h⟩:=h
 wp_walk using Rj hl,j7 _ _ (fun i b s'=>i<=j/\b.1=none/\s'=⟨hp,g,d,tk,os⟩) _
 case turn =>
  rintro i b s' hi ⟨hij,hb,rfl⟩
  have hi':i < items.size:=by omega
  rw[Pc hi']
  refine wpAny_bind (he _ (Array.getElem_mem hi') prog w _ _ ?_)
  by_cases c:i=j
  ·subst c
   rw[hit]
   wp_walk
   exact ⟨_,rfl,h⟩
  ·rw[hno i hi' (by omega)]
   wp_walk
   exact ⟨by omega,rfl,rfl⟩
 case fin =>
  rintro b s' ⟨hij,_,_⟩
  omega
 case h=>exact ⟨Pq _,rfl,rfl⟩
theorem rC (l:Addr) (items:Array Oz) (n:Nat) (dd:Option Addr) (sl:Array (Option Oz)) (k:Int) (t:Tok) (h1:-1000<=k) (h2:k<=1000) (c1:¬ items.isEmpty=true) (c2:k≠1) (c3:0 < k) (hz:items.size*k.toNat<=sizeLine) :
 Meets (Builtin.«tuple.__mul__» ⟨[.ref l,.int k t],[]⟩)
  (fun A R s=>s.heap.get? l=some { cls:=.type "tuple",dict:=dd,data:=.seq items n,slots:=sl }/\R (.ok (.ret (.ref s.heap.objs.size))) { s with heap:=s.heap.push { cls:=.type "tuple",data:=.seq ((OX k.toNat items).foldl (fun x1 x2=>x1++x2) #[]) } }) :=
 .of_wp fun prog w A R s h=>by
 obtain ⟨hp,g,d,tk,os⟩:=s;obtain ⟨hl,h⟩:=h
 have f1:=UV
 have a1:¬ (decide (k < -2 ^ 63)||decide (k ≥ 2 ^ 63))=true:=by simp;omega
 have a2:¬ (items.isEmpty||k==1)=true:=by simp at c1 ⊢;exact ⟨c1,c2⟩
 have a3:¬ (decide (k<=0)||items.isEmpty)=true:=by simp at c1 ⊢;exact ⟨by omega,c1⟩
 have kk:(k.toNat:Int)=k:=by omega
 have a4:¬ ((items.size:Int)*k > (2 ^ 63 - 1) / 8):=by
  have z:((items.size*k.toNat:Nat):Int)<=(sizeLine:Nat):=Int.ofNat_le.mpr hz
  rw[Int.natCast_mul,kk] at z
  have z2:((sizeLine:Nat):Int)<=(2 ^ 63 - 1) / 8:=by decide
  omega
 have a5:¬ SI ((items.size:Int)*k)=true:=by
  have z:((items.size*k.toNat:Nat):Int)<=(sizeLine:Nat):=Int.ofNat_le.mpr hz
  rw[Int.natCast_mul,kk] at z
  simp only[SI,decide_eq_true_eq]
  omega
 have hsz:sizeOk (.seq ((OX k.toNat items).foldl (fun x1 x2=>x1++x2) #[])):=by
  show ((OX k.toNat items).foldl (fun x1 x2=>x1++x2) #[]).size<=sizeLine
  rw[AutoListH.size_joined,Array.size_empty,Q4];omega
 wp_walk using Rj hl
 rw[if_neg a1]
 wp_walk using Rj hl
 refine SM (fun c=>absurd c ?_) (fun _=>?_)
 ·intro c;have a6:=a4;simp at a6 c;omega
 wp_walk using Rj hl
 refine wpAny_ite_false (decide_eq_false (Nat.not_lt.mpr hsz)) ?_
 wp_walk
 exact ⟨_,rfl,h⟩
theorem jK:fillsNumberSlot (.type "tuple") "mul"=pure false :=
 PySem.fillsNumberSlot_seq (id:="tuple.__mul__") (r:=some (.builtin "tuple.__rmul__")) F.slot_tuple_mul.lookup (by decide +kernel) F.slot_tuple_rmul.lookup (by decide +kernel)
theorem nU:seqRepeat? (.type "tuple")=pure (some (.builtin "tuple.__mul__")):=by
 unfold seqRepeat?
 rw[PySem.seqSlot_of (T:="tuple") (name:="__mul__") (id:="tuple.__mul__") F.slot_tuple_mul.lookup (by decide +kernel),PySem.seqSlot_of (T:="tuple") (name:="__rmul__") (id:="tuple.__rmul__") F.slot_tuple_rmul.lookup (by decide +kernel)]
 rfl
theorem kW (a:Int) (t:Tok) (l:Addr) (items:Array Oz) (n:Nat) (dd:Option Addr) (sl:Array (Option Oz)) :
 Meets (Builtin.«int.__rmul__» ⟨[.int a t,.ref l],[]⟩) (fun _ R s=>s.heap.get? l=some { cls:=.type "tuple",dict:=dd,data:=.seq items n,slots:=sl }/\R (.ok (.ret Value.notImplemented)) s) :=
 .of_wp fun prog w A R s h=>by obtain ⟨hp,g,d,tk,os⟩:=s;obtain ⟨hl,h⟩:=h;wp_walk;exact ⟨_,rfl,h⟩
theorem j8 (l:Addr) (items:Array Oz) (n:Nat) (b:Addr) (items2:Array Oz) (n2:Nat) (dd:Option Addr) (sl:Array (Option Oz)) (hs0:¬(!items.isEmpty&&P0 (items.size+items2.size))=true) (hs1:items.size<=sizeLine) (hs2:items.size+items2.size<=sizeLine+1) :
 Meets (Builtin.«list.extend» ⟨[.ref l,.ref b],[]⟩) (fun _ R s=>s.heap.get? l=some { cls:=.type "list",dict:=none,data:=.seq items n,slots:=#[] }/\s.heap.get? b=some { cls:=.type "tuple",dict:=dd,data:=.seq items2 n2,slots:=sl }/\R (.ok (.ret Rx)) { s with heap:=s.heap.update l (Qe fun x=>x++items2),toks:=s.toks }) :=
 .of_wp fun prog w A R s h=>by
  obtain ⟨hp,g,d,tk,os⟩:=s;obtain ⟨hl,hb,h⟩:=h;have f1:=UV;have f2:=AutoSeq1.sub_tuple_tuple;have f3:=AutoSeq1.sub_list_list;have f4:=AutoSeq1.sub_tuple_list;have f5:=AutoSeq1.sub_list_tuple
  have hz':(items++items2).size<=sizeLine+1:=by rw[Array.size_append];exact hs2
  wp_walk using (RM hl rfl (hz:=hs1) (_hz':=hz')),Rj hl,Rj hb;exact ⟨_,rfl,h⟩
end BS
end
section
namespace BS
open PySem PySem.Spec PyProof.Rows L2
theorem ak {α β:Type}{x:Option (α×BT.HH)}{k:α->BT.HH->Option β}{r:β} (h:BT.bnd x k=some r):∃ a g,x=some (a,g)/\k a g=some r:=by
 cases x with
 | none=>cases h
 | some q=>exact ⟨q.1,q.2,rfl,h⟩
theorem aG {α β:Type}{x:Option α}{f:α->β}{r:β} (h:x.map f=some r):∃ a,x=some a/\f a=r:=by
 cases x with
 | none=>cases h
 | some a=>exact ⟨a,rfl,OP h⟩
noncomputable def Post (P:OO) (w:O6) (K:Ow) (m:List Addr) (H:Hp) (z:BT.W) (h':BT.HH) (Q:VK):Prop :=
 ∀ v H' m',Ext m H m' H'->RH K m' H' h'->RW P w K m' H' v z->Q v H'
noncomputable def rOp (P:OO) (w:O6) (K:Ow) (f:BT.W->BT.W->BT.HH->Option (BT.W×BT.HH)):R2:=fun v u H Q =>
 ∃ m h x y z h',RH K m H h/\RW P w K m H v x/\RW P w K m H u y/\f x y h=some (z,h')/\Post P w K m H z h' Q
theorem gT {o:BT.Bin}{x y:BT.W}{h:BT.HH}{z:BT.W}{h':BT.HH} (e:BT.lY o x y h=some (z,h')):∃ d d' q,BT.rd x h=some d/\BT.rd y h=some d'/\BT.jH o d d'=some q/\z=.p q/\h'=h:=by
 unfold BT.lY at e
 cases e1:BT.rd x h with
 | none=>rw[e1] at e;cases e
 | some d =>
  cases e2:BT.rd y h with
  | none=>rw[e1,e2] at e;cases e
  | some d' =>
   rw[e1,e2] at e
   obtain ⟨q,eq,er⟩:=aG e
   cases er
   exact ⟨d,d',q,rfl,rfl,eq,rfl,rfl⟩
section
variable {X:Cx}
theorem cJ:BT.lim<=sizeLine:=by decide
theorem rdL {pins:List (Addr×Obj)}{σ:L2.St}{H:Hp}{s:OB}{a:Addr}{xs:List V} (I:Inv X pins σ H s) (r:LL X.K H a xs) :
 xs.length<=sizeLine/\∃ (its:List Oz) (n:Nat),aq xs its/\xs.length=its.length/\s.heap.get? a=some { cls:=.type "list",data:=.seq its.toArray n }:=by
 rcases r with r | ⟨its,n,h1,h2,h3⟩
 ·obtain ⟨z,its,n,r,e⟩:=r.ok I.hok
  exact ⟨z,its,n,r,r.length,e⟩
 ·exact ⟨by rw[h3.length];exact h2,its,n,h3,h3.length,I.kIn a _ h1⟩
theorem yu {pins:List (Addr×Obj)}{s:OB}{σ:L2.St}{H:Hp}{a b:Addr}{xs ys:List V}{Q:VK} (I:Inv X pins σ H s) (ha:LL X.K H a xs) (hb:LL X.K H b ys) (hz:xs.length+ys.length<=sizeLine)
 (q:∀ p,H p=none->Q (.ref p) (upd H p (.lst (xs++ys)))):wpAny (OY X.prog X.w) X.A (Qi .Add (.ref a) (.ref b)) (EP X pins σ Q) X.xe s:=by
 obtain ⟨z,its,n,r,hl,e⟩:=rdL I ha
 obtain ⟨z2,its2,n2,r2,hl2,e2⟩:=rdL I hb
 refine PySem.P.add_list e e2 ?_ (by rw[OD,OD];omega)
 have ea:its.toArray++its2.toArray=(its++its2).toArray:=by simp
 rw[ea]
 exact ⟨.ref _,_,I.IA (t':=s.toks) (r.append r2) (by rw[OS];omega),rfl,q _ I.fresh⟩
theorem vz {pins:List (Addr×Obj)}{s:OB}{σ:L2.St}{H:Hp}{a b:Addr}{xs ys:List V}{Q:VK} (I:Inv X pins σ H s) (ha:SqT X.K H a xs) (hb:SqT X.K H b ys) (hz:xs.length+ys.length<=sizeLine)
 (q0:xs=[]->Q (.ref b) H) (q1:ys=[]->Q (.ref a) H) (q:∀ p,H p=none->Q (.ref p) (upd H p (.tup (xs++ys)))):wpAny (OY X.prog X.w) X.A (Qi .Add (.ref a) (.ref b)) (EP X pins σ Q) X.xe s:=by
 by_cases c:xs=[]
 ·obtain ⟨its,r1,p1,_⟩:=I.tuple ha
  obtain ⟨its2,r2,p2,_⟩:=I.tuple hb
  obtain ⟨⟨cls,dd,data,sl⟩,ho,hc,n,hd⟩:=id p1
  obtain ⟨⟨cls2,dd2,data2,sl2⟩,ho2,hc2,n2,hd2⟩:=id p2
  simp only at hc hd hc2 hd2
  subst hc hd hc2 hd2
  have z:its=[]:=r1.iY.mpr c
  exact concat_meets ⟨_,ho,rfl⟩ ⟨_,ho2,rfl⟩ Um Vb R8 RV (RL _ _)
   (tuple_addW0 a b its.toArray its2.toArray n n2 dd dd2 sl sl2 (by simp[z])) ⟨ho,ho2,⟨.ref b,H,I,rfl,q0 c⟩⟩
 ·exact A5 pins s σ H (.ref a) (.ref b) _ _ Q I rfl rfl ⟨a,b,xs,ys,rfl,rfl,ha,hb,c,hz,q1,fun _=>q⟩
theorem jf {m:List Addr}{H:Hp}{h:BT.HH}{p:Addr}{vs:List V}{ds:List BT.D}{Q:VK} (R:RH X.K m H h) (hp:H p=none) (r:RDs X.K m H vs ds) (post:Post X.prog X.w X.K m H (.p (.tup ds)) h Q):Q (.ref p) (upd H p (.tup vs)) :=
 post _ _ m (fW hp) (R.new hp) (.p (.tup (.inl ⟨.inl aB,R.fm hp⟩) (r.ext (fW hp))))
theorem gU {m:List Addr}{H:Hp}{h:BT.HH}{p:Addr}{vs:List V}{ds:List BT.D}{Q:VK} (R:RH X.K m H h) (hp:H p=none) (r:RDs X.K m H vs ds) (post:Post X.prog X.w X.K m H (.p (.lst ds)) h Q):Q (.ref p) (upd H p (.lst vs)) :=
 post _ _ m (fW hp) (R.new hp) (.p (.lst (.inl ⟨.inl aB,R.fm hp⟩) (r.ext (fW hp))))
theorem sM {m:List Addr}{H:Hp}{h:BT.HH}{p:Addr}{vs:List V}{ds:List BT.D}{Q:VK} (R:RH X.K m H h) (hp:H p=none) (r:RDs X.K m H vs ds) (post:Post X.prog X.w X.K m H (.r h.length) (h++[.l ds]) Q):Q (.ref p) (upd H p (.lst vs)) :=
 post _ _ (m++[p]) (gw hp) (R.M4 hp r) (.r (by rw[← R.len];simp))
theorem jg {m:List Addr}{H:Hp}{h:BT.HH}{p:Addr}{vs:List V}{ds:List BT.D}{Q:VK}{mu:Bool} (R:RH X.K m H h) (hp:H p=none) (r:RDs X.K m H vs ds) (post:Post X.prog X.w X.K m H (BT.new mu ds h).1 (BT.new mu ds h).2 Q):Q (.ref p) (upd H p (.lst vs)):=by
 cases mu with
 | false=>exact gU R hp r post
 | true=>exact sM R hp r post
theorem Post.here {m:List Addr}{H:Hp}{h:BT.HH}{Q:VK}{v:V}{d:BT.D} (R:RH X.K m H h) (post:Post X.prog X.w X.K m H (.p d) h Q) (r:RD X.K m H v d):Q v H:=post v H m (.refl _ _) R (.p r)
theorem nV {x y:Str} (hx:PyData.strOk x=true) (hy:PyData.strOk y=true):PyData.strOk (x++y)=true:=by
 show (x.cps++y.cps).all _=true
 rw[Array.all_append]
 simp only[PyData.strOk] at hx hy
 rw[hx,hy];rfl
theorem Fx:OpR X (Qi .Add) (rOp X.prog X.w X.K (BT.lY .add)):=by
 intro pins s σ H v u v' u' Q I rv ru h
 obtain ⟨m,h,x,y,z,h',R,rx,ry,e,post⟩:=h
 obtain ⟨d,d',q,e1,e2,e3,rfl,rfl⟩:=gT e
 have r1:=aC R rx e1
 have r2:=aC R ry e2
 cases d<;>cases d'<;>first | (cases e3;done) | simp only[BT.fD,BT.cW,BT.cX,BT.cY,BT.fE,BT.fF,BT.cZ,BT.c6,BT.fG,BT.d7,BT.fH] at e3
 ·cases e3
  cases r1.int;cases r2.int
  exact Ez pins s σ H _ _ _ _ Q I rv ru ⟨_,_,rfl,rfl,post.here R (.int _)⟩
 ·split at e3
  ·rename_i c
   cases e3
   obtain ⟨ev,ov⟩:=r1.str
   obtain ⟨eu,ou⟩:=r2.str
   subst ev;subst eu
   have:=cJ
   exact qN pins s σ H _ _ _ _ Q I rv ru ⟨_,_,rfl,rfl,by omega,post.here R (.str _ (nV ov ou))⟩
  ·cases e3
 ·split at e3
  ·rename_i c
   cases e3
   obtain ⟨a,vs,rfl,ha,ra⟩:=r1.tup
   obtain ⟨b,us,rfl,hb,rb⟩:=r2.tup
   cases rv;cases ru
   have l1:=ra.length
   have l2:=rb.length
   have:=cJ
   refine vz I ha hb (by omega) (fun z=>?_) (fun z=>?_) fun p hp=>jf R hp (ra.append rb) post
   ·subst z;cases ra
    cases r2 with | d r=>exact post.here R r
   ·subst z;cases rb
    rw[Pk] at post
    cases r1 with | d r=>exact post.here R r
  ·cases e3
 ·split at e3
  ·rename_i c
   cases e3
   obtain ⟨a,vs,rfl,ha,ra⟩:=r1.lst
   obtain ⟨b,us,rfl,hb,rb⟩:=r2.lst
   cases rv;cases ru
   have l1:=ra.length
   have l2:=rb.length
   have:=cJ
   exact yu I ha hb (by omega) fun p hp=>gU R hp (ra.append rb) post
  ·cases e3
theorem Fy:OpR X (Qi .Sub) (rOp X.prog X.w X.K (BT.lY .sub)):=by
 intro pins s σ H v u v' u' Q I rv ru h
 obtain ⟨m,h,x,y,z,h',R,rx,ry,e,post⟩:=h
 obtain ⟨d,d',q,e1,e2,e3,rfl,rfl⟩:=gT e
 have r1:=aC R rx e1
 have r2:=aC R ry e2
 cases d<;>cases d'<;>first | (cases e3;done) | simp only[BT.fD,BT.cW,BT.cX,BT.cY,BT.fE,BT.fF,BT.cZ,BT.c6,BT.fG,BT.d7,BT.fH] at e3
 cases e3
 cases r1.int;cases r2.int
 exact EA pins s σ H _ _ _ _ Q I rv ru ⟨_,_,rfl,rfl,post.here R (.int _)⟩
theorem Fz:OpR X (Qi .Mod) (rOp X.prog X.w X.K (BT.lY .mod)):=by
 intro pins s σ H v u v' u' Q I rv ru h
 obtain ⟨m,h,x,y,z,h',R,rx,ry,e,post⟩:=h
 obtain ⟨d,d',q,e1,e2,e3,rfl,rfl⟩:=gT e
 have r1:=aC R rx e1
 have r2:=aC R ry e2
 cases d<;>cases d'<;>first | (cases e3;done) | simp only[BT.fD,BT.cW,BT.cX,BT.cY,BT.fE,BT.fF,BT.cZ,BT.c6,BT.fG,BT.d7,BT.fH] at e3
 split at e3
 ·rename_i c
  cases e3
  cases r1.int;cases r2.int
  exact EC pins s σ H _ _ _ _ Q I rv ru ⟨_,_,rfl,rfl,c,post.here R (.int _)⟩
 ·cases e3
theorem BA:OpR X (Qi .FloorDiv) (rOp X.prog X.w X.K (BT.lY .fdiv)):=by
 intro pins s σ H v u v' u' Q I rv ru h
 obtain ⟨m,h,x,y,z,h',R,rx,ry,e,post⟩:=h
 obtain ⟨d,d',q,e1,e2,e3,rfl,rfl⟩:=gT e
 have r1:=aC R rx e1
 have r2:=aC R ry e2
 cases d<;>cases d'<;>first | (cases e3;done) | simp only[BT.fD,BT.cW,BT.cX,BT.cY,BT.fE,BT.fF,BT.cZ,BT.c6,BT.fG,BT.d7,BT.fH] at e3
 split at e3
 ·rename_i c
  simp only[OC,decide_eq_true_eq] at c
  cases e3
  cases r1.int;cases r2.int
  exact AQ pins s σ H _ _ _ _ Q I rv ru ⟨_,_,rfl,rfl,⟨c.1,c.2⟩,post.here R (.int _)⟩
 ·cases e3
theorem nW {i:Int} (h:BT.big i=true):-(2 ^ 64) < i/\i < 2 ^ 64:=by
 unfold BT.big at h
 have:=of_decide_eq_true h
 omega
theorem FA:OpR X (Qi .Pow) (rOp X.prog X.w X.K (BT.lY .pow)):=by
 intro pins s σ H v u v' u' Q I rv ru h
 obtain ⟨m,h,x,y,z,h',R,rx,ry,e,post⟩:=h
 obtain ⟨d,d',q,e1,e2,e3,rfl,rfl⟩:=gT e
 have r1:=aC R rx e1
 have r2:=aC R ry e2
 cases d<;>cases d'<;>first | (cases e3;done) | simp only[BT.fD,BT.cW,BT.cX,BT.cY,BT.fE,BT.fF,BT.cZ,BT.c6,BT.fG,BT.d7,BT.fH] at e3
 split at e3
 ·rename_i c
  simp only[OC,decide_eq_true_eq] at c
  cases e3
  cases r1.int;cases r2.int
  refine ED pins s σ H _ _ _ _ Q I rv ru ⟨_,_,rfl,rfl,⟨c.1.1,by omega,?_⟩,post.here R (.int _)⟩
  exact of_decide_eq_true c.2
 ·cases e3
theorem vA {pins:List (Addr×Obj)}{s:OB}{σ:L2.St}{H:Hp}{a:Addr}{xs:List V}{k:Int}{t:Tok}{Q:VK} (I:Inv X pins σ H s) (ha:SqT X.K H a xs) (h1:2<=k) (h2:k<=1000) (hne:xs≠[]) (hz:xs.length*k.toNat<=sizeLine)
 (q:∀ p,H p=none->Q (.ref p) (upd H p (.tup (OX k.toNat xs).flatten))):wpAny (OY X.prog X.w) X.A (Qi .Mult (.ref a) (.int k t)) (EP X pins σ Q) X.xe s:=by
 obtain ⟨its,r,p,_⟩:=I.tuple ha
 obtain ⟨⟨cls,dd,data,sl⟩,e,hc,n,hd⟩:=id p
 simp only at hc hd
 subst hc hd
 have hl:=r.length
 have hlen:its.toArray.size*k.toNat<=sizeLine:=by rw[OD,← hl];exact hz
 have f0:Uq (fun x1 x2=>x1++x2) #[] (OX k.toNat its.toArray)=(OX k.toNat its).flatten.toArray:=by
  have:=foldl_rep its k.toNat []
  rw[Q8] at this
  exact this
 have hi:¬ its.toArray.isEmpty=true:=by
  intro z
  have z2:its=[]:=by simpa using z
  exact hne (r.iY.mp z2)
 refine UQ (T:="tuple") (U:="int") (by decide) ⟨_,e,rfl⟩ (fun s'=>typeIs_int s' k t) jK F.fills_int_mul F.slot_int_rmul nU F.slot_int_index.lookup
  (Rt F.slot_int_rmul (typeIs_int s k t) F.entry_int_rmul (F.args_int_rmul_2 _ _) (kW k t a its.toArray n dd sl)
   ⟨e,rfl,⟨_,e,rfl⟩,Rt F.slot_tuple_mul ⟨_,e,rfl⟩ F.entry_tuple_mul (F.args_tuple_mul_2 _ _) (rC a its.toArray n dd sl k t (by omega) h2 hi (by omega) (by omega) hlen) ⟨e,?_⟩⟩)
 rw[f0]
 have hf:H s.heap.objs.size=none:=I.hok.fresh (OE _)
 refine ⟨.ref s.heap.objs.size,_,I.laid (t':=s.toks) (o:=.tup (OX k.toNat xs).flatten) (fun b ob q=>OA _ q) (OE _) ?_,rfl,q _ hf⟩
 exact ⟨by rw[len_rep,Q4];exact hz,_,r.rep k.toNat,IsTup.new _ _⟩
theorem yv {pins:List (Addr×Obj)}{s:OB}{σ:L2.St}{H:Hp}{l:Addr}{xs:List V}{k:Int}{t:Tok}{Q:VK} (I:Inv X pins σ H s) (hH:LL X.K H l xs) (h1:-(2 ^ 63)<=k) (h2:k<=1000) (hz:xs.length*k.toNat<=sizeLine)
 (q:∀ p,H p=none->Q (.ref p) (upd H p (.lst (OX k.toNat xs).flatten))):wpAny (OY X.prog X.w) X.A (Qi .Mult (.ref l) (.int k t)) (EP X pins σ Q) X.xe s:=by
 have h2':k < 2 ^ 63:=by omega
 obtain ⟨z,its,n,r,hl,e⟩:=rdL I hH
 have hlen:its.toArray.size*k.toNat<=sizeLine:=by rw[OD,← hl];exact hz
 have hcap:¬ its.toArray.size*k.toNat > (2 ^ 63 - 1) / 8:=by
  have:(sizeLine:Nat)<=(2 ^ 63 - 1) / 8:=by decide
  omega
 have hfit:¬ (!Builtin.List.listFitsIndex k)=true:=by
  rw[fitsIndex_both h1 h2']
  exact Pe
 have hlong:¬ P0 (its.toArray.size*k.toNat)=true:=by
  rw[kM hlen]
  exact Pe
 have hnew:Uq (fun x1 x2=>x1++x2) #[] (OX (if its.toArray.isEmpty=true then 0 else k.toNat) its.toArray)=(OX k.toNat its).flatten.toArray:=by
  have f0:∀ m:Nat,Uq (fun x1 x2=>x1++x2) #[] (OX m its.toArray)=(OX m its).flatten.toArray:=fun m=>by
   have:=foldl_rep its m []
   rw[Q8] at this
   exact this
  rw[f0]
  cases its with
  | nil=>simp
  | cons a r'=>rw[if_neg (by simp)]
 refine UQ (T:="list") (U:="int") (by decide) ⟨_,e,rfl⟩ (fun s'=>typeIs_int s' k t) noFill_list_mul F.fills_int_mul F.slot_int_rmul repeat_list F.slot_int_index.lookup
  (Rt F.slot_int_rmul (typeIs_int s k t) F.entry_int_rmul (F.args_int_rmul_2 _ _) (int___rmul___int_list k t l its.toArray n)
   ⟨e,rfl,⟨_,e,rfl⟩,Rt F.slot_list_mul ⟨_,e,rfl⟩ F.entry_list_mul (F.args_list_mul_2 _ _) (AutoListH.list___mul___list_int_3 l its.toArray n k t hfit hcap hlong) ⟨e,?_⟩⟩)
 rw[hnew]
 exact ⟨.ref _,_,I.IA (t':=s.toks) (r.rep k.toNat) (by rw[len_rep,Q4];exact hz),rfl,q _ I.fresh⟩
theorem FD:OpR X (Qi .Mult) (rOp X.prog X.w X.K (BT.lY .mul)):=by
 intro pins s σ H v u v' u' Q I rv ru h
 obtain ⟨m,h,x,y,z,h',R,rx,ry,e,post⟩:=h
 obtain ⟨d,d',q,e1,e2,e3,rfl,rfl⟩:=gT e
 have r1:=aC R rx e1
 have r2:=aC R ry e2
 cases d<;>cases d'<;>first | (cases e3;done) | simp only[BT.fD,BT.cW,BT.cX,BT.cY,BT.fE,BT.fF,BT.cZ,BT.c6,BT.fG,BT.d7,BT.fH] at e3
 ·split at e3
  ·rename_i c
   cases e3
   cases r1.int;cases r2.int
   refine EB pins s σ H _ _ _ _ Q I rv ru ⟨_,_,rfl,rfl,?_,post.here R (.int _)⟩
   rcases QN _ _ ▸ c with c | c
   ·exact .inl (nW c)
   ·exact .inr (nW c)
  ·cases e3
 ·split at e3
  ·rename_i c
   simp only[OC,decide_eq_true_eq] at c
   cases e3
   obtain ⟨a,vs,rfl,ha,ra⟩:=r1.tup
   cases r2.int
   obtain ⟨t,rfl⟩:=ru
   cases rv
   have l1:=ra.length
   have:=cJ
   simp only[Rh,List.isEmpty_eq_false_iff] at c
   refine vA I ha (by omega) (by omega) (fun z=>?_) (by rw[l1];omega) fun p hp=>jf R hp (ra.rep _) post
   subst z
   cases ra
   exact c.1.2 rfl
  ·cases e3
 ·split at e3
  ·rename_i c
   simp only[OC,decide_eq_true_eq] at c
   cases e3
   obtain ⟨a,vs,rfl,ha,ra⟩:=r1.lst
   cases r2.int
   obtain ⟨t,rfl⟩:=ru
   cases rv
   have l1:=ra.length
   have:=cJ
   refine yv I ha (by omega) (by omega) (by rw[l1];omega) fun p hp=>gU R hp (ra.rep _) post
  ·cases e3
end
end BS
end
section
namespace BS
open PySem PySem.Spec PyProof.Rows L2
mutual
noncomputable def pd:BT.D->PyData
 | .non=>.none
 | .bl b=>.bool b
 | .int i=>.int i
 | .str x=>.str x
 | .tup xs=>.tuple (pds xs)
 | .lst xs=>.list (pds xs)
noncomputable def pds:List BT.D->List PyData
 | []=>[]
 | x :: r=>pd x :: pds r
end
mutual
theorem kX:∀ x y:BT.D,PyData.eqv (pd x) (pd y)=BT.eqv x y
 | .non,.non=>rfl
 | .non,.bl _=>rfl
 | .non,.int _=>rfl
 | .non,.str _=>rfl
 | .non,.tup _=>by simp[pd,PyData.eqv,BT.eqv]
 | .non,.lst _=>by simp[pd,PyData.eqv,BT.eqv]
 | .bl _,.non=>rfl
 | .bl _,.bl _=>rfl
 | .bl _,.int _=>rfl
 | .bl _,.str _=>rfl
 | .bl _,.tup _=>by simp[pd,PyData.eqv,BT.eqv]
 | .bl _,.lst _=>by simp[pd,PyData.eqv,BT.eqv]
 | .int _,.non=>rfl
 | .int _,.bl _=>rfl
 | .int _,.int _=>rfl
 | .int _,.str _=>rfl
 | .int _,.tup _=>by simp[pd,PyData.eqv,BT.eqv]
 | .int _,.lst _=>by simp[pd,PyData.eqv,BT.eqv]
 | .str _,.non=>rfl
 | .str _,.bl _=>rfl
 | .str _,.int _=>rfl
 | .str _,.str _=>rfl
 | .str _,.tup _=>by simp[pd,PyData.eqv,BT.eqv]
 | .str _,.lst _=>by simp[pd,PyData.eqv,BT.eqv]
 | .tup _,.non=>by simp[pd,PyData.eqv,BT.eqv]
 | .tup _,.bl _=>by simp[pd,PyData.eqv,BT.eqv]
 | .tup _,.int _=>by simp[pd,PyData.eqv,BT.eqv]
 | .tup _,.str _=>by simp[pd,PyData.eqv,BT.eqv]
 | .tup xs,.tup ys=>by simp only[pd,PyData.eqv,BT.eqv];exact nX xs ys
 | .tup _,.lst _=>by simp[pd,PyData.eqv,BT.eqv]
 | .lst _,.non=>by simp[pd,PyData.eqv,BT.eqv]
 | .lst _,.bl _=>by simp[pd,PyData.eqv,BT.eqv]
 | .lst _,.int _=>by simp[pd,PyData.eqv,BT.eqv]
 | .lst _,.str _=>by simp[pd,PyData.eqv,BT.eqv]
 | .lst _,.tup _=>by simp[pd,PyData.eqv,BT.eqv]
 | .lst xs,.lst ys=>by simp only[pd,PyData.eqv,BT.eqv];exact nX xs ys
theorem nX:∀ xs ys:List BT.D,PyData.eqvAll (pds xs) (pds ys)=BT.lW xs ys
 | [],[]=>by simp[pds,PyData.eqvAll,BT.lW]
 | [],_ :: _=>by simp[pds,PyData.eqvAll,BT.lW]
 | _ :: _,[]=>by simp[pds,PyData.eqvAll,BT.lW]
 | x :: xs,y :: ys=>by simp only[pds,PyData.eqvAll,BT.lW];rw[kX x y,nX xs ys]
end
theorem gx {n:Nat}:∀ {xs:List BT.D},(∀ x∈xs,(pd x).depth<=n)->PyData.depthAll (pds xs)<=n
 | [],_=>by simp[pds,PyData.depthAll]
 | x :: xs,h=>by
  simp only[pds,PyData.depthAll]
  exact Nat.max_le.mpr ⟨h x ON,gx fun y hy=>h y (OL _ hy)⟩
theorem gW:∀ (n:Nat) (d:BT.D),BT.dok n d=true->(pd d).depth<=n
 | n,.non,_=>by simp[pd,PyData.depth]
 | n,.bl _,_=>by simp[pd,PyData.depth]
 | n,.int _,_=>by simp[pd,PyData.depth]
 | n,.str _,_=>by simp[pd,PyData.depth]
 | 0,.tup _,h=>by simp[BT.dok] at h
 | 0,.lst _,h=>by simp[BT.dok] at h
 | n+1,.tup xs,h=>by
  simp only[pd,PyData.depth]
  rw[BT.sC,P7] at h
  exact Nat.succ_le_succ (gx fun x hx=>gW n x (h x hx))
 | n+1,.lst xs,h=>by
  simp only[pd,PyData.depth]
  rw[BT.sD,P7] at h
  exact Nat.succ_le_succ (gx fun x hx=>gW n x (h x hx))
section
variable {X:Cx}{pins:List (Addr×Obj)}{σ:L2.St}{s:OB}{K:Ow}{m:List Addr}{H:Hp}
mutual
theorem d8:∀ {v:V}{d:BT.D},RD K m H v d->(pd d).canLay0=true
 | _,_,.non=>rfl
 | _,_,.bl _=>rfl
 | _,_,.int _=>rfl
 | _,_,.str _ h=>by simpa [pd,PyData.canLay0] using h
 | _,_,.tup _ r=>by simp only[pd,PyData.canLay0];exact fX r
 | _,_,.lst _ r=>by simp only[pd,PyData.canLay0];exact fX r
theorem fX:∀ {vs:List V}{ds:List BT.D},RDs K m H vs ds->PyData.canLayAll0 (pds ds)=true
 | _,_,.nil=>by simp[pds,PyData.canLayAll0]
 | _,_,.cons r t=>by simp only[pds,PyData.canLayAll0];rw[d8 r,fX t];rfl
end
mutual
theorem gy (I:Inv X pins σ H s):∀ {v:V}{d:BT.D}{u:Oz},RD X.K m H v d->RelV v u->∃ as,Reads s.heap u (pd d) as
 | _,_,_,.non,r=>by cases r;exact ⟨_,.none⟩
 | _,_,_,.bl b,r=>by cases r;exact ⟨_,.bool b⟩
 | _,_,_,.int i,r=>by obtain ⟨t,rfl⟩:=r;exact ⟨_,.int i t⟩
 | _,_,_,.str x _,r=>by obtain ⟨t,rfl⟩:=r;exact ⟨_,.str x t⟩
 | _,_,_,.tup h r,q=>by
  cases q
  obtain ⟨its,r1,⟨o,e1,e2,n,e3⟩,_⟩:=I.tuple (h.elim (fun q=>.inl q.1) (fun ⟨o,its,n,q,_⟩=>.inr ⟨o,its,n,q⟩))
  obtain ⟨as,ra⟩:=gX I r r1
  exact ⟨_,.tuple e1 e2 e3 (by simpa using ra)⟩
 | _,_,_,.lst h r,q=>by
  cases q
  obtain ⟨z,its,n,r1,_,e⟩:=rdL I (h.elim (fun q=>.inl q.1) .inr)
  obtain ⟨as,ra⟩:=gX I r r1
  exact ⟨_,.list e rfl rfl (by simpa using ra)⟩
theorem gX (I:Inv X pins σ H s):∀ {vs:List V}{ds:List BT.D}{us:List Oz},RDs X.K m H vs ds->aq vs us->∃ as,ReadsAll s.heap us (pds ds) as
 | _,_,_,.nil,q=>by cases q;exact ⟨_,.nil⟩
 | _,_,_,.cons r t,q=>by
  cases q with
  | cons q1 q2 =>
   obtain ⟨as,ra⟩:=gy I r q1
   obtain ⟨bs,rb⟩:=gX I t q2
   exact ⟨_,.cons ra rb⟩
end
theorem gA (I:Inv X pins σ H s) {v:V}{d:BT.D}{u:Oz} (r:RR X.K m H v d) (q:RelV v u):∃ as,Reads s.heap u (pd d) as:=by
 cases r with
 | d r=>exact gy I r q
 | l h r =>
  cases q
  obtain ⟨z,its,n,r1,_,e⟩:=rdL I (.inl (.inl h))
  obtain ⟨as,ra⟩:=gX I r r1
  exact ⟨_,.list e rfl rfl (by simpa using ra)⟩
theorem fL {v:V}{d:BT.D} (r:RR K m H v d):(pd d).canLay0=true:=by
 cases r with
 | d r=>exact d8 r
 | l h r=>simp only[pd,PyData.canLay0];exact fX r
theorem nY {x y:BT.D} (h:BT.bA x y=true):min (pd x).depth (pd y).depth<=100:=by
 unfold BT.bA at h
 rcases QN _ _ ▸ h with h | h
 ·have:=gW 100 x h;omega
 ·have:=gW 100 y h;omega
theorem dF {o:BT.Cm}{x y:BT.W}{h:BT.HH}{z:BT.W}{h':BT.HH} (e:BT.fZ o x y h=some (z,h')) :
 (∃ kvs b,y=.k kvs/\BT.inK o x kvs=some b/\z=.p (.bl b)/\h'=h)\/∃ d d' b,BT.rd x h=some d/\BT.rd y h=some d'/\BT.dX o d d'=some b/\z=.p (.bl b)/\h'=h:=by
 unfold BT.fZ at e
 split at e
 ·rename_i kvs
  obtain ⟨b,e1,e2⟩:=aG e
  cases e2
  exact .inl ⟨kvs,b,rfl,e1,rfl,rfl⟩
 ·refine .inr ?_
  cases e1:BT.rd x h with
  | none=>rw[e1] at e;cases e
  | some d =>
   cases e2:BT.rd y h with
   | none=>rw[e1,e2] at e;cases e
   | some d' =>
    rw[e1,e2] at e
    obtain ⟨q,eq,er⟩:=aG e
    cases er
    exact ⟨d,d',q,rfl,rfl,eq,rfl,rfl⟩
theorem Jv (hu:X.A.units+150 < cLine):OpR X (Pr .Eq) (rOp X.prog X.w X.K (BT.fZ .eq)):=by
 intro pins s σ H v u v' u' Q I rv ru h
 obtain ⟨m,h,x,y,z,h',R,rx,ry,e,post⟩:=h
 rcases dF e with ⟨kvs,b,rfl,e1,_,_⟩ | ⟨d,d',b,e1,e2,e3,rfl,rfl⟩
 ·cases x with
  | p d=>cases d<;>exact aj e1
  | r n=>exact aj e1
  | k q=>exact aj e1
  | c _ _=>exact aj e1
  | o q=>exact aj e1
 ·have r1:=aC R rx e1
  have r2:=aC R ry e2
  rw[BT.ko] at e3
  split at e3
  ·rename_i c
   cases e3
   obtain ⟨as,ra⟩:=gA I r1 rv
   obtain ⟨bs,rb⟩:=gA I r2 ru
   have:=nY c
   refine SeqAt.compareEq_reads ra rb (fL r1) (fL r2) (by omega) ?_
   rw[kX]
   exact ⟨.bl _,H,I,rfl,post.here R (.bl _)⟩
  ·cases e3
theorem Jw (hu:X.A.units+150 < cLine):OpR X (Pr .NotEq) (rOp X.prog X.w X.K (BT.fZ .ne)):=by
 intro pins s σ H v u v' u' Q I rv ru h
 obtain ⟨m,h,x,y,z,h',R,rx,ry,e,post⟩:=h
 rcases dF e with ⟨kvs,b,rfl,e1,_,_⟩ | ⟨d,d',b,e1,e2,e3,rfl,rfl⟩
 ·cases x with
  | p d=>cases d<;>exact aj e1
  | r n=>exact aj e1
  | k q=>exact aj e1
  | c _ _=>exact aj e1
  | o q=>exact aj e1
 ·have r1:=aC R rx e1
  have r2:=aC R ry e2
  rw[BT.nJ] at e3
  split at e3
  ·rename_i c
   cases e3
   obtain ⟨as,ra⟩:=gA I r1 rv
   obtain ⟨bs,rb⟩:=gA I r2 ru
   have:=nY c
   refine SeqAt.compareNe_reads ra rb (fL r1) (fL r2) (by omega) ?_
   rw[kX]
   exact ⟨.bl _,H,I,rfl,post.here R (.bl _)⟩
  ·cases e3
theorem Jx:OpR X (Pr .Lt) (rOp X.prog X.w X.K (BT.fZ .lt)):=by
 intro pins s σ H v u v' u' Q I rv ru h
 obtain ⟨m,h,x,y,z,h',R,rx,ry,e,post⟩:=h
 rcases dF e with ⟨kvs,b,rfl,e1,_,_⟩ | ⟨d,d',b,e1,e2,e3,rfl,rfl⟩
 ·cases x with
  | p d=>cases d<;>exact aj e1
  | r n=>exact aj e1
  | k q=>exact aj e1
  | c _ _=>exact aj e1
  | o q=>exact aj e1
 ·have r1:=aC R rx e1
  have r2:=aC R ry e2
  cases d<;>cases d'<;>first | (cases e3;done) | simp only[BT.ff,BT.fh,BT.fj,BT.fk,BT.dI,BT.cD,BT.bE,BT.bL,BT.bB,BT.aO] at e3
  cases e3
  cases r1.int;cases r2.int
  exact Ii pins s σ H _ _ _ _ Q I rv ru ⟨_,_,rfl,rfl,post.here R (.bl _)⟩
theorem Jy:OpR X (Pr .LtE) (rOp X.prog X.w X.K (BT.fZ .le)):=by
 intro pins s σ H v u v' u' Q I rv ru h
 obtain ⟨m,h,x,y,z,h',R,rx,ry,e,post⟩:=h
 rcases dF e with ⟨kvs,b,rfl,e1,_,_⟩ | ⟨d,d',b,e1,e2,e3,rfl,rfl⟩
 ·cases x with
  | p d=>cases d<;>exact aj e1
  | r n=>exact aj e1
  | k q=>exact aj e1
  | c _ _=>exact aj e1
  | o q=>exact aj e1
 ·have r1:=aC R rx e1
  have r2:=aC R ry e2
  cases d<;>cases d'<;>first | (cases e3;done) | simp only[BT.ff,BT.fh,BT.fj,BT.fk,BT.dI,BT.cD,BT.bE,BT.bL,BT.bB,BT.aO] at e3
  cases e3
  cases r1.int;cases r2.int
  exact Ij pins s σ H _ _ _ _ Q I rv ru ⟨_,_,rfl,rfl,post.here R (.bl _)⟩
theorem Jz:OpR X (Pr .Gt) (rOp X.prog X.w X.K (BT.fZ .gt)):=by
 intro pins s σ H v u v' u' Q I rv ru h
 obtain ⟨m,h,x,y,z,h',R,rx,ry,e,post⟩:=h
 rcases dF e with ⟨kvs,b,rfl,e1,_,_⟩ | ⟨d,d',b,e1,e2,e3,rfl,rfl⟩
 ·cases x with
  | p d=>cases d<;>exact aj e1
  | r n=>exact aj e1
  | k q=>exact aj e1
  | c _ _=>exact aj e1
  | o q=>exact aj e1
 ·have r1:=aC R rx e1
  have r2:=aC R ry e2
  cases d<;>cases d'<;>first | (cases e3;done) | simp only[BT.ff,BT.fh,BT.fj,BT.fk,BT.dI,BT.cD,BT.bE,BT.bL,BT.bB,BT.aO] at e3
  cases e3
  cases r1.int;cases r2.int
  exact Ik pins s σ H _ _ _ _ Q I rv ru ⟨_,_,rfl,rfl,post.here R (.bl _)⟩
theorem JA:OpR X (Pr .GtE) (rOp X.prog X.w X.K (BT.fZ .ge)):=by
 intro pins s σ H v u v' u' Q I rv ru h
 obtain ⟨m,h,x,y,z,h',R,rx,ry,e,post⟩:=h
 rcases dF e with ⟨kvs,b,rfl,e1,_,_⟩ | ⟨d,d',b,e1,e2,e3,rfl,rfl⟩
 ·cases x with
  | p d=>cases d<;>exact aj e1
  | r n=>exact aj e1
  | k q=>exact aj e1
  | c _ _=>exact aj e1
  | o q=>exact aj e1
 ·have r1:=aC R rx e1
  have r2:=aC R ry e2
  cases d<;>cases d'<;>first | (cases e3;done) | simp only[BT.ff,BT.fh,BT.fj,BT.fk,BT.dI,BT.cD,BT.bE,BT.bL,BT.bB,BT.aO] at e3
  cases e3
  cases r1.int;cases r2.int
  exact Il pins s σ H _ _ _ _ Q I rv ru ⟨_,_,rfl,rfl,post.here R (.bl _)⟩
theorem sN {v:V}{d:BT.D} (r:RR K m H v d):decide (v=.non)=BT.gj d:=by
 cases r with
 | d r=>cases r<;>rfl
 | l h r=>rfl
theorem FE:OpR X (Pr .Is) (rOp X.prog X.w X.K (BT.fZ .isN)):=by
 intro pins s σ H v u v' u' Q I rv ru h
 obtain ⟨m,h,x,y,z,h',R,rx,ry,e,post⟩:=h
 rcases dF e with ⟨kvs,b,rfl,e1,_,_⟩ | ⟨d,d',b,e1,e2,e3,rfl,rfl⟩
 ·cases x with
  | p d=>cases d<;>exact aj e1
  | r n=>exact aj e1
  | k q=>exact aj e1
  | c _ _=>exact aj e1
  | o q=>exact aj e1
 ·have r1:=aC R rx e1
  have r2:=aC R ry e2
  cases d'<;>first | (cases e3;done) | simp only[BT.ff,BT.fh,BT.fj,BT.fk,BT.dI,BT.cD,BT.bE,BT.bL,BT.bB,BT.aO] at e3
  cases e3
  cases r2.non
  refine EE pins s σ H _ _ _ _ Q I rv ru ⟨rfl,?_⟩
  rw[sN r1]
  exact post.here R (.bl _)
theorem BB:OpR X (Pr .IsNot) (rOp X.prog X.w X.K (BT.fZ .notN)):=by
 intro pins s σ H v u v' u' Q I rv ru h
 obtain ⟨m,h,x,y,z,h',R,rx,ry,e,post⟩:=h
 rcases dF e with ⟨kvs,b,rfl,e1,_,_⟩ | ⟨d,d',b,e1,e2,e3,rfl,rfl⟩
 ·cases x with
  | p d=>cases d<;>exact aj e1
  | r n=>exact aj e1
  | k q=>exact aj e1
  | c _ _=>exact aj e1
  | o q=>exact aj e1
 ·have r1:=aC R rx e1
  have r2:=aC R ry e2
  cases d'<;>first | (cases e3;done) | simp only[BT.ff,BT.fh,BT.fj,BT.fk,BT.dI,BT.cD,BT.bE,BT.bL,BT.bB,BT.aO] at e3
  cases e3
  cases r2.non
  refine AR pins s σ H _ _ _ _ Q I rv ru ⟨rfl,?_⟩
  rw[sN r1]
  exact post.here R (.bl _)
open Classical in
noncomputable def cU (h:Heap) (dx:PyData) (y:Oz):Bool:=if q:∃ db as,Reads h y db as/\db.canLay0=true then PyData.eqv (Classical.choose q) dx else false
theorem rD {h:Heap}{dx db:PyData}{y:Oz}{as:List Addr} (r:Reads h y db as) (c:db.canLay0=true):cU h dx y=PyData.eqv db dx:=by
 have q:∃ db as,Reads h y db as/\db.canLay0=true:=⟨db,as,r,c⟩
 unfold cU
 rw[dif_pos q]
 obtain ⟨as',r',c'⟩:=Classical.choose_spec q
 rw[SeqAt.Reads.unique _ _ _ _ _ c r r']
theorem jh (I:Inv X pins σ H s) {d:BT.D}:∀ {vs:List V}{ds:List BT.D}{us:List Oz},RDs X.K m H vs ds->aq vs us->us.any (cU s.heap (pd d))=ds.any fun y=>BT.eqv y d
 | _,_,_,.nil,q=>by cases q;rfl
 | _,_,_,.cons r t,q=>by
  cases q with
  | cons q1 q2 =>
   obtain ⟨as,ra⟩:=gy I r q1
   rw[Rz,Rz,jh I t q2,rD ra (d8 r),kX]
theorem gY (hu:X.A.units+150 < cLine) (I:Inv X pins σ H s) {v:V}{d:BT.D}{u:Oz} (rx:RR X.K m H v d) (rv:RelV v u):∀ {vs:List V}{ds:List BT.D}{us:List Oz},RDs X.K m H vs ds->aq vs us->(ds.all fun y=>BT.bA y d)=true →
 ∀ y∈us,SeqAt.EqAt X.A.in1 s y u (cU s.heap (pd d) y)
 | _,_,_,.nil,q,_=>by cases q;intro y hy;simp at hy
 | _,_,_,.cons r t,q,c=>by
  cases q with
  | cons q1 q2 =>
   rw[Uu,OC] at c
   intro y hy
   rcases List.mem_cons.mp hy with rfl | hy
   ·obtain ⟨as,ra⟩:=gy I r q1
    obtain ⟨bs,rb⟩:=gA I rx rv
    rw[rD ra (d8 r)]
    have:=nY c.1
    refine SeqAt.eqAt_reads _ _ _ _ _ _ _ _ ra rb (d8 r) (fL rx) ?_
    show X.A.units+1+_ < _
    omega
   ·exact gY hu I rx rv t q2 c.2 y hy
theorem FG (hu:X.A.units+150 < cLine) (hk:∀ {kvs:List (Str×BT.D)}{x:BT.W}{b:Bool}{m:List Addr}{H:Hp}{v u:V}{v' u':Oz}{pins σ s Q},Inv X pins σ H s->RelV v v'->RelV u u'->RW X.prog X.w X.K m H v x->RW X.prog X.w X.K m H u (.k kvs)->BT.inK .mem x kvs=some b->Q (V.bl b) H →
 wpAny (OY X.prog X.w) X.A (Pr .In v' u') (EP X pins σ Q) X.xe s):OpR X (Pr .In) (rOp X.prog X.w X.K (BT.fZ .mem)):=by
 intro pins s σ H v u v' u' Q I rv ru h
 obtain ⟨m,h,x,y,z,h',R,rx,ry,e,post⟩:=h
 rcases dF e with ⟨kvs,b,rfl,e1,rfl,rfl⟩ | ⟨d,d',b,e1,e2,e3,rfl,rfl⟩
 ·exact hk I rv ru rx ry e1 (post.here R (.bl _))
 ·have r1:=aC R rx e1
  have r2:=aC R ry e2
  cases d'<;>first | (cases e3;done) | simp only[BT.ff,BT.fh,BT.fj,BT.fk,BT.dI,BT.cD,BT.bE,BT.bL,BT.bB,BT.aO] at e3
  ·split at e3
   ·rename_i c
    cases e3
    obtain ⟨a,vs,rfl,ha,ra⟩:=r2.tup
    cases ru
    obtain ⟨its,q1,q2,_⟩:=I.tuple ha
    refine SeqAt.in_tupleAt (cU s.heap (pd d)) q2 (fun y hy=>gY hu I r1 rv ra q1 c y (by simpa using hy)) ⟨.bl _,H,I,rfl,?_⟩
    rw[show its.toArray.any (cU s.heap (pd d))=its.any (cU s.heap (pd d)) by simp,jh I ra q1]
    exact post.here R (.bl _)
   ·cases e3
  ·split at e3
   ·rename_i c
    cases e3
    obtain ⟨a,vs,rfl,ha,ra⟩:=r2.lst
    cases ru
    obtain ⟨z,its,n,q1,_,q2⟩:=rdL I ha
    refine SeqAt.in_listAt (cU s.heap (pd d)) ⟨_,q2,rfl,_,rfl⟩ (fun y hy=>gY hu I r1 rv ra q1 c y (by simpa using hy)) ⟨.bl _,H,I,rfl,?_⟩
    rw[show its.toArray.any (cU s.heap (pd d))=its.any (cU s.heap (pd d)) by simp,jh I ra q1]
    exact post.here R (.bl _)
   ·cases e3
theorem BD (hu:X.A.units+150 < cLine) (hk:∀ {kvs:List (Str×BT.D)}{x:BT.W}{b:Bool}{m:List Addr}{H:Hp}{v u:V}{v' u':Oz}{pins σ s Q},Inv X pins σ H s->RelV v v'->RelV u u'->RW X.prog X.w X.K m H v x->RW X.prog X.w X.K m H u (.k kvs)->BT.inK .nmem x kvs=some b->Q (V.bl b) H →
 wpAny (OY X.prog X.w) X.A (Pr .NotIn v' u') (EP X pins σ Q) X.xe s):OpR X (Pr .NotIn) (rOp X.prog X.w X.K (BT.fZ .nmem)):=by
 intro pins s σ H v u v' u' Q I rv ru h
 obtain ⟨m,h,x,y,z,h',R,rx,ry,e,post⟩:=h
 rcases dF e with ⟨kvs,b,rfl,e1,rfl,rfl⟩ | ⟨d,d',b,e1,e2,e3,rfl,rfl⟩
 ·exact hk I rv ru rx ry e1 (post.here R (.bl _))
 ·have r1:=aC R rx e1
  have r2:=aC R ry e2
  cases d'<;>first | (cases e3;done) | simp only[BT.ff,BT.fh,BT.fj,BT.fk,BT.dI,BT.cD,BT.bE,BT.bL,BT.bB,BT.aO] at e3
  ·split at e3
   ·rename_i c
    cases e3
    obtain ⟨a,vs,rfl,ha,ra⟩:=r2.tup
    cases ru
    obtain ⟨its,q1,q2,_⟩:=I.tuple ha
    refine SeqAt.notIn_tupleAt (cU s.heap (pd d)) q2 (fun y hy=>gY hu I r1 rv ra q1 c y (by simpa using hy)) ⟨.bl _,H,I,rfl,?_⟩
    rw[show its.toArray.any (cU s.heap (pd d))=its.any (cU s.heap (pd d)) by simp,jh I ra q1]
    exact post.here R (.bl _)
   ·cases e3
  ·split at e3
   ·rename_i c
    cases e3
    obtain ⟨a,vs,rfl,ha,ra⟩:=r2.lst
    cases ru
    obtain ⟨z,its,n,q1,_,q2⟩:=rdL I ha
    refine SeqAt.notIn_listAt (cU s.heap (pd d)) ⟨_,q2,rfl,_,rfl⟩ (fun y hy=>gY hu I r1 rv ra q1 c y (by simpa using hy)) ⟨.bl _,H,I,rfl,?_⟩
    rw[show its.toArray.any (cU s.heap (pd d))=its.any (cU s.heap (pd d)) by simp,jh I ra q1]
    exact post.here R (.bl _)
   ·cases e3
end
end BS
end
section
namespace BS
open PySem PySem.Spec PyProof.Rows L2
section
variable {X:Cx}
theorem RDs.atI {K:Ow}{m:List Addr}{H:Hp}{vs:List V}{ds:List BT.D}{i:Int}{d:BT.D} (r:RDs K m H vs ds) (e:BT.atP ds i=some d):∃ v,L2.atI vs i=some v/\RD K m H v d:=by
 unfold BT.atP at e
 unfold L2.atI
 obtain ⟨j,h1,h2⟩:=Option.bind_eq_some_iff.mp e
 obtain ⟨v,q1,q2⟩:=r.get h2
 refine ⟨v,?_,q2⟩
 rw[r.length]
 show ((BT.place ds.length i).bind fun j=>vs[j]?)=some v
 rw[h1]
 exact q1
theorem BE {x y:BT.W}{h:BT.HH}{z:BT.W}{h':BT.HH} (e:BT.Bm x y h=some (z,h')) :
 (∃ kvs k d,x=.k kvs/\y=.p (.str k)/\BT.cT k kvs=some d/\z=.p d/\h'=h)\/∃ d d' b,BT.rd x h=some d/\BT.rd y h=some d'/\BT.aD d d'=some b/\z=.p b/\h'=h:=by
 unfold BT.Bm at e
 split at e
 ·rename_i kvs
  obtain ⟨b,e1,e2⟩:=aG e
  cases e2
  cases y with
  | p d =>
   cases d<;>simp only[BT.atK] at e1<;>try contradiction
   exact .inl ⟨kvs,_,b,rfl,rfl,e1,rfl,rfl⟩
  | r n=>simp[BT.atK] at e1
  | k q=>simp[BT.atK] at e1
  | c _ _=>simp[BT.atK] at e1
  | o q=>simp[BT.atK] at e1
 ·refine .inr ?_
  cases e1:BT.rd x h with
  | none=>rw[e1] at e;cases e
  | some d =>
   cases e2:BT.rd y h with
   | none=>rw[e1,e2] at e;cases e
   | some d' =>
    rw[e1,e2] at e
    obtain ⟨q,eq,er⟩:=aG e
    cases er
    exact ⟨d,d',q,rfl,rfl,eq,rfl,rfl⟩
theorem yw {K:Ow}{k:Str}{d:BT.D}:∀ {es:List (Str×V)}{kvs:List (Str×BT.D)}{vs:List (Key×Oz)},RDk K es kvs->KV (es.map fun q=>((Sum.inr q.1:Key),q.2)) vs->BT.cT k kvs=some d →
 ∃ u v,valueAt vs (Sum.inr k)=some u/\RelV v u/\∀ m H,RD K m H v d
 | _,_,_,.nil,_,e=>by simp[BT.cT] at e
 | _,_,_,@RDk.cons _ x v dd es kvs r t,q,e=>by
  cases q with
  | @cons p z l1 l2 q1 q2 =>
   obtain ⟨z1,z2⟩:=z
   obtain ⟨q11,q12⟩:=q1
   simp only at q11 q12
   subst q11
   rw[BT.cT] at e
   by_cases c:k=x
   ·rw[if_pos c] at e
    cases e
    subst c
    exact ⟨z2,v,by simp[valueAt],q12,r⟩
   ·rw[if_neg c] at e
    obtain ⟨u,v',h1,h2,h3⟩:=yw t q2 e
    refine ⟨u,v',?_,h2,h3⟩
    have ne:¬ ((Sum.inr x:Key)=Sum.inr k):=fun z=>c (Sum.inr.inj z).symm
    simp only[valueAt] at h1 ⊢
    rw[UH (by simpa using ne)]
    exact h1
theorem vB {x:Str}{c:Nat} (h:PyData.strOk x=true) (hc:c∈x.cps.toList):PyData.strOk ⟨#[c]⟩=true:=by
 simp only[PyData.strOk,Array.all_eq_true_iff_forall_mem] at h ⊢
 intro y hy
 simp at hy
 subst hy
 exact h y (by simpa using hc)
theorem FH:IxR X (rOp X.prog X.w X.K BT.Bm):=by
 intro value slice pins s σ H v u v' u' Q I rv ru h hs
 obtain ⟨m,h,x,y,z,h',R,rx,ry,e,post⟩:=h
 rcases BE e with ⟨kvs,k,d,rfl,rfl,e1,rfl,rfl⟩ | ⟨d,d',b,e1,e2,e3,rfl,rfl⟩
 ·cases rx with
  | @k a es _ kd rk =>
   cases rv
   cases ry with
   | p ry =>
    cases ry with
    | str _ ok =>
     obtain ⟨t,rfl⟩:=ru
     obtain ⟨hm,vs,kv,dd⟩:=kd
     obtain ⟨w',z,h1,h2,h3⟩:=yw rk kv e1
     have D:=dd s.heap I.kIn
     refine tail_any (ops:=[.ref a,.str k t]) D.typeIs slot_dict_getitem.lookup ?_ hs
     exact wpAny_getItem_of (knd:=aM X.prog X.w) (e9 _ _ k t) D.mapOf h1 ⟨z,H,I.tok _,h2,post.here R (h3 _ _)⟩
 ·have r1:=aC R rx e1
  have r2:=aC R ry e2
  cases d<;>cases d'<;>first | (cases e3;done) | simp only[BT.nI,BT.aW,BT.gk] at e3
  ·split at e3
   ·rename_i c
    obtain ⟨cc,e4,e5⟩:=aG e3
    subst e5
    obtain ⟨rfl,ok⟩:=r1.str
    cases r2.int
    have:=cJ
    refine EO value slice pins s σ H _ _ _ _ Q I rv ru ⟨_,_,cc,rfl,rfl,by omega,e4,post.here R (.str _ (vB ok ?_))⟩ hs
    obtain ⟨j,h1,h2⟩:=Option.bind_eq_some_iff.mp e4
    exact OM h2
   ·cases e3
  ·obtain ⟨a,vs,rfl,ha,ra⟩:=r1.tup
   cases r2.int
   obtain ⟨z,q1,q2⟩:=ra.atI e3
   exact EN value slice pins s σ H _ _ _ _ Q I rv ru ⟨a,vs,_,z,rfl,rfl,ha,q1,post.here R q2⟩ hs
  ·obtain ⟨a,vs,rfl,ha,ra⟩:=r1.lst
   cases r2.int
   obtain ⟨z,q1,q2⟩:=ra.atI e3
   exact A6 value slice pins s σ H _ _ _ _ Q I rv ru ⟨a,vs,_,z,rfl,rfl,ha.sq,q1,post.here R q2⟩ hs
theorem ji (n d:Nat) (o:Option Int):BT.clip n d o=HT.sIx n d o:=by
 cases o with
 | none=>rfl
 | some v =>
  simp only[BT.clip,HT.sIx]
  split
  ·rfl
  ·split
   ·omega
   ·omega
theorem mj {prog:OO}{w:O6}{A:PL}{E:Oz->OB->Prop}{s:OB}{t sl:Addr}{items:Array Oz}{vl vu:Oz}{lo hi:Option Int}{Q:Oz->OB->Prop} (ht:IsTup s.heap t items) (hs:s.heap.IsSliceOf sl vl vu .none) (pl:Ul vl lo) (pu:Ul vu hi)
 (hw:HT.sIx items.size 0 lo=0/\HT.sIx items.size items.size hi=items.size) (h:Q (.ref t) s):wpAny (OY prog w) A (T7 (.ref t) (.ref sl)) Q E s:=by
 obtain ⟨os,hos,hcs,hds⟩:=id hs
 have hTs:s.TypeIs (.ref sl) "slice":=⟨os,hos,hcs⟩
 unfold T7
 try with_reducible refine PU ?_
 first | refine wpAny_bind (wpAny_pure ?_) | skip
 refine wpAny_bind (wpAny_sequenceKey ht.typeIs (by decide) ?_)
 refine wpAny_bind (QF (name:=OT "__getitem__") ht.typeIs Qm
  (Q7 Qm ht.typeIs entry_tuple_getitem ?_ (args_tuple_getitem _ _)))
 show wpAny _ _ (SK (.ref t) >>= _) _ _ s
 refine wpAny_bind (tupleItemsOf_ ht ?_)
 refine wpAny_bind (Rc hTs ?_)
 rw[if_pos (by decide)]
 refine wpAny_bind (HT.fC hs pl pu ?_)
 have hno:(((HT.sIx items.size 0 lo:Nat):Int)==0&&(1:Int)==1&&(HT.sIx items.size items.size hi - HT.sIx items.size 0 lo)==items.size)=true:=by
  rw[hw.1,hw.2];simp
 show wpAny _ _ (if (((HT.sIx items.size 0 lo:Nat):Int)==0&&(1:Int)==1&&(HT.sIx items.size items.size hi - HT.sIx items.size 0 lo)==items.size)=true then _ else _) _ _ s
 rw[if_pos hno]
 unfold Builtin.Tuple.tupleIsExact
 refine wpAny_bind (wpAny_bind (Rc ht.typeIs (wpAny_pure ?_)))
 rw[if_pos (by decide)]
 refine wpAny_bind (T5 ?_)
 first
  | exact wpAny_pure ⟨_,rfl,wpAny_pure h⟩
  | exact wpAny_pure ⟨_,rfl,h⟩
  | exact wpAny_bind (wpAny_pure (wpAny_pure ⟨_,rfl,wpAny_pure h⟩))
noncomputable def rSl (P:OO) (w:O6) (K:Ow):V->Option Int->Option Int->Hp->VK->Prop:=fun v lo hi H Q =>
 ∃ m h x d b,RH K m H h/\RW P w K m H v x/\BT.rd x h=some d/\BT.qZ d lo hi=some b/\Post P w K m H (.p b) h Q
theorem RDs.cut {K:Ow}{m:List Addr}{H:Hp}{vs:List V}{ds:List BT.D} (r:RDs K m H vs ds) (lo hi:Option Int):RDs K m H (pC vs lo hi) (BT.cut ds lo hi):=by
 unfold pC BT.cut
 rw[ji,ji,r.length]
 exact (r.drop _).take _
theorem vC {ds:List BT.D}{lo hi:Option Int} (h1:HT.sIx ds.length 0 lo=0) (h2:HT.sIx ds.length ds.length hi=ds.length):BT.cut ds lo hi=ds:=by
 unfold BT.cut
 rw[ji,ji,h1,h2]
 simp
theorem osl:SlR X (rSl X.prog X.w X.K):=by
 intro pins s σ H v v' vl vu lo hi sl Q I rv hs pl pu h
 obtain ⟨m,h,x,d,b,R,rx,e1,e2,post⟩:=h
 have r1:=aC R rx e1
 cases d<;>simp only[BT.qZ] at e2<;>try contradiction
 ·cases e2
  obtain ⟨a,vs,rfl,ha,ra⟩:=r1.tup
  cases rv
  by_cases c:HT.sIx vs.length 0 lo=0/\HT.sIx vs.length vs.length hi=vs.length
  ·obtain ⟨its,q1,q2,_⟩:=I.tuple ha
   have hl:its.toArray.size=vs.length:=by rw[OD];exact q1.length.symm
   refine ⟨"tuple",_,PyProof.Rows.slot_tuple_getitem.lookup,q2.typeIs,mj q2 hs pl pu (by rw[hl];exact c) ⟨.ref a,H,I,rfl,?_⟩⟩
   cases r1 with
   | d r =>
    refine post.here R ?_
    rw[vC (by rw[← ra.length];exact c.1) (by rw[← ra.length];exact c.2)]
    exact r
  ·exact EM pins s σ H (.ref a) (.ref a) vl vu lo hi sl Q I rfl hs pl pu ⟨a,vs,rfl,ha,c,fun p hp=>jf R hp (ra.cut lo hi) post⟩
 ·cases e2
  obtain ⟨a,vs,rfl,ha,ra⟩:=r1.lst
  exact A7 pins s σ H _ _ vl vu lo hi sl Q I rv hs pl pu ⟨a,vs,rfl,ha.sq,fun p hp=>gU R hp (ra.cut lo hi) post⟩
end
end BS
end
section
namespace BS
open PySem PySem.Spec PyProof.Rows L2
theorem sO (m:BT.Me) (d:BT.D) (as:List BT.W) (h:BT.HH):BT.meW m (.p d) as h=(match BT.aV as with | some ds=>(BT.meD m d ds).map fun x=>(.p x,h) | none=>none):=by cases m<;>rfl
section
variable {X:Cx}
noncomputable def rMe (P:OO) (w:O6) (K:Ow) (me:BT.Me):V->List V->Hp->VK->Prop:=fun v vs H Q =>
 ∃ m h x ws z h',RH K m H h/\RW P w K m H v x/\RWs P w K m H vs ws/\BT.meW me x ws h=some (z,h')/\Post P w K m H z h' Q
theorem getD_some {α:Type}{xs:List α}{n:Nat}{a:α} (h:xs[n]?=some a):n < xs.length:=by
 rcases OR n xs.length with z | z
 ·exact z
 ·rw[OJ z] at h;cases h
theorem vD:MtR X "list.append" (rMe X.prog X.w X.K .append):=by
 intro pins s σ H v vs v' us Q I rv rus h
 obtain ⟨m,h,x,ws,z,h',R,rx,rws,e,post⟩:=h
 cases x with
 | p d=>cases ws with
  | nil=>exact aj e
  | cons _ _=>rw[sO] at e;split at e<;>(try cases e)
 | k kvs=>(first | (cases e;done) | simp[BT.meW] at e)
 | c _ _=>(first | (cases e;done) | simp[BT.meW] at e)
 | o kvs=>(first | (cases e;done) | simp[BT.meW] at e)
 | r n =>
  cases rws with
  | nil=>(first | (cases e;done) | simp[BT.meW] at e)
  | @cons y wy _ _ ry t =>
   cases t with
   | cons _ _=>cases ry<;>(first | (cases e;done) | simp[BT.meW] at e)
   | nil =>
    cases ry with
    | r _=>(first | (cases e;done) | simp[BT.meW] at e)
    | k _ _=>(first | (cases e;done) | simp[BT.meW] at e)
    | c _ _=>(first | (cases e;done) | simp[BT.meW] at e)
    | g _ _=>(first | (cases e;done) | simp[BT.meW] at e)
    | o _=>(first | (cases e;done) | simp[BT.meW] at e)
    | p ry =>
     rw[BT.q8] at e
     cases g:BT.lat h n with
     | none=>rw[g] at e;cases e
     | some xs =>
      rw[g] at e
      simp only at e
      split at e
      ·rename_i c
       cases e
       cases rx with
       | @r a _ hn =>
        obtain ⟨us',hH,r⟩:=R.cell n a xs hn g
        have:=cJ
        have hl:=r.length
        exact vc pins s σ H _ _ _ _ Q I rv rus ⟨a,us',y,rfl,rfl,hH,by omega,post _ _ m (fK (OM hn) hH) (R.set hn hH (r.append (.cons ry .nil))) (.p .non)⟩
      ·cases e
theorem yx {α:Type}{xs:List α}{d:α} (h:xs.getLast?=some d):xs[xs.length - 1]?=some d:=by rw[← QX];exact h
theorem FI:MtR X "list.pop" (rMe X.prog X.w X.K .pop):=by
 intro pins s σ H v vs v' us Q I rv rus h
 obtain ⟨m,h,x,ws,z,h',R,rx,rws,e,post⟩:=h
 cases x with
 | p d=>cases ws with
  | nil=>exact aj e
  | cons _ _=>rw[sO] at e;split at e<;>(try cases e)
 | k kvs=>(first | (cases e;done) | simp[BT.meW] at e)
 | c _ _=>(first | (cases e;done) | simp[BT.meW] at e)
 | o kvs=>(first | (cases e;done) | simp[BT.meW] at e)
 | r n =>
  cases rws with
  | cons _ _=>(first | (cases e;done) | simp[BT.meW] at e)
  | nil =>
   rw[BT.Bl] at e
   cases g:BT.lat h n with
   | none=>rw[g] at e;cases e
   | some xs =>
    rw[g] at e
    simp only at e
    cases gl:xs.getLast? with
    | none=>rw[gl] at e;cases e
    | some d =>
     rw[gl] at e
     cases e
     cases rx with
     | @r a _ hn =>
      obtain ⟨us',hH,r⟩:=R.cell n a xs hn g
      have hl:=r.length
      obtain ⟨y,hy,ry⟩:=r.get (yx gl)
      have x1:Ext m H m (upd H a (.lst us'.dropLast)):=fK (OM hn) hH
      exact ET pins s σ H _ _ _ _ Q I rv rus ⟨a,us',y,rfl,rfl,hH,by rw[hl];exact hy,post _ _ m x1 (R.set hn hH r.dropLast) (.p (ry.ext x1))⟩
theorem yy {pins:List (Addr×Obj)}{s:OB}{σ:L2.St}{H:Hp}{l b:Addr}{xs zs:List V}{Q:VK} (I:Inv X pins σ H s) (hH:H l=some (.lst xs)) (hB:LL X.K H b zs) (hz:xs.length+zs.length<=sizeLine) (q:Q .non (upd H l (.lst (xs++zs)))) :
 wpAny (OY X.prog X.w) X.A (call (.builtin "list.extend") [.ref l,.ref b]) (EP X pins σ Q) X.xe s:=by
 obtain ⟨z,its,n,r,hl,e⟩:=I.A9 hH
 obtain ⟨z2,its2,n2,r2,hl2,e2⟩:=rdL I hB
 have hsz:its.toArray.size+its2.toArray.size<=sizeLine:=by rw[OD,OD];omega
 have hlong:¬ (!its.toArray.isEmpty&&P0 (its.toArray.size+its2.toArray.size))=true:=by
  rw[kM hsz,Bool.and_false]
  exact Pe
 refine Rt F.slot_list_extend ⟨_,e,rfl⟩ F.entry_list_extend (F.args_list_extend_2 _ _)
  (AutoSeq1.list_extend_list_list_0 l its.toArray n b its2.toArray n2 hlong (by rw[OD];omega) (by omega)) ⟨e,e2,?_⟩
 refine ⟨.non,_,I.A8 (its':=its++its2) hH e (by simp) (r.append r2) ?_,rfl,q⟩
 rw[OS]
 omega
theorem BH {pins:List (Addr×Obj)}{s:OB}{σ:L2.St}{H:Hp}{l b:Addr}{xs zs:List V}{Q:VK} (I:Inv X pins σ H s) (hH:H l=some (.lst xs)) (hB:SqT X.K H b zs) (hz:xs.length+zs.length<=sizeLine) (q:Q .non (upd H l (.lst (xs++zs)))) :
 wpAny (OY X.prog X.w) X.A (call (.builtin "list.extend") [.ref l,.ref b]) (EP X pins σ Q) X.xe s:=by
 obtain ⟨z,its,n,r,hl,e⟩:=I.A9 hH
 obtain ⟨its2,r2,p2,_⟩:=I.tuple hB
 obtain ⟨⟨cls,dd,data,sl⟩,e2,hc,n2,hd⟩:=id p2
 simp only at hc hd
 subst hc hd
 have hl2:=r2.length
 have hsz:its.toArray.size+its2.toArray.size<=sizeLine:=by rw[OD,OD];omega
 have hlong:¬ (!its.toArray.isEmpty&&P0 (its.toArray.size+its2.toArray.size))=true:=by
  rw[kM hsz,Bool.and_false]
  exact Pe
 refine Rt F.slot_list_extend ⟨_,e,rfl⟩ F.entry_list_extend (F.args_list_extend_2 _ _)
  (j8 l its.toArray n b its2.toArray n2 dd sl hlong (by rw[OD];omega) (by omega)) ⟨e,e2,?_⟩
 refine ⟨.non,_,I.A8 (its':=its++its2) hH e (by simp) (r.append r2) ?_,rfl,q⟩
 rw[OS]
 omega
theorem vE:MtR X "list.extend" (rMe X.prog X.w X.K .extend):=by
 intro pins s σ H v vs v' us Q I rv rus h
 obtain ⟨m,h,x,ws,z,h',R,rx,rws,e,post⟩:=h
 cases x with
 | p d=>cases ws with
  | nil=>exact aj e
  | cons _ _=>rw[sO] at e;split at e<;>(try cases e)
 | k kvs=>(first | (cases e;done) | simp[BT.meW] at e)
 | c _ _=>(first | (cases e;done) | simp[BT.meW] at e)
 | o kvs=>(first | (cases e;done) | simp[BT.meW] at e)
 | r n =>
  cases rws with
  | nil=>(first | (cases e;done) | simp[BT.meW] at e)
  | @cons y wy _ _ ry t =>
   cases t with
   | cons _ _=>(first | (cases e;done) | simp[BT.meW] at e)
   | nil =>
    rw[BT.q9] at e
    cases g:BT.lat h n with
    | none=>rw[g] at e;cases e
    | some xs =>
     cases g2:(BT.rd wy h).bind BT.nH with
     | none=>rw[g,g2] at e;cases e
     | some ys =>
      rw[g,g2] at e
      simp only at e
      split at e
      ·rename_i c
       cases e
       obtain ⟨d,e1,e2⟩:=Option.bind_eq_some_iff.mp g2
       have r2:=aC R ry e1
       cases rx with
       | @r a _ hn =>
        obtain ⟨us',hH,r⟩:=R.cell n a xs hn g
        cases rv
        obtain ⟨u,rfl,ru⟩:=rus.one
        have:=cJ
        have hl:=r.length
        cases d<;>simp only[BT.nH] at e2<;>try contradiction
        ·cases e2
         obtain ⟨b,vb,rfl,hb,rb⟩:=r2.tup
         cases ru
         have hl2:=rb.length
         exact BH I hH hb (by omega) (post _ _ m (fK (OM hn) hH) (R.set hn hH (r.append rb)) (.p .non))
        ·cases e2
         obtain ⟨b,vb,rfl,hb,rb⟩:=r2.lst
         cases ru
         have hl2:=rb.length
         exact yy I hH hb (by omega) (post _ _ m (fK (OM hn) hH) (R.set hn hH (r.append rb)) (.p .non))
      ·cases e
theorem RWs.pure {P:OO}{w:O6}{K:Ow}{m:List Addr}{H:Hp}:∀ {vs:List V}{ws:List BT.W}{ds:List BT.D},RWs P w K m H vs ws->BT.aV ws=some ds->RDs K m H vs ds:=by
 intro vs ws
 induction ws generalizing vs with
 | nil =>
  intro ds r e
  cases r
  cases e
  exact .nil
 | cons x ws ih =>
  intro ds r e
  cases r with
  | cons r t =>
   cases r with
   | p r =>
    simp only[BT.aV] at e
    obtain ⟨q,e1,e2⟩:=aG e
    subst e2
    exact .cons r (ih t e1)
   | _=>cases e
theorem kY {x:BT.D}:∀ {ds:List BT.D}{k j:Nat},BT.iG x ds k=some j->∃ i,j=k+i/\∃ (hi:i < ds.length),BT.eqv ds[i] x=true/\∀ m (hm:m < ds.length),m < i->BT.eqv ds[m] x=false
 | [],_,_,e=>by cases e
 | y :: r,k,j,e=>by
  simp only[BT.iG] at e
  split at e
  ·rename_i c
   cases e
   exact ⟨0,rfl,by simp,c,fun m _ h=>by omega⟩
  ·rename_i c
   obtain ⟨i,rfl,hi,h1,h2⟩:=kY e
   refine ⟨i+1,by omega,by simp;omega,by simpa using h1,fun m hm hlt=>?_⟩
   cases m with
   | zero=>simpa using c
   | succ m=>simpa using h2 m (by simpa using hm) (by omega)
theorem nZ {pins:List (Addr×Obj)}{σ:L2.St}{s:OB}{m:List Addr}{H:Hp}{d:BT.D} (I:Inv X pins σ H s):∀ {vs:List V}{ds:List BT.D}{us:List Oz},RDs X.K m H vs ds->aq vs us->∀ (i:Nat) (h1:i < us.length) (h2:i < ds.length),cU s.heap (pd d) us[i]=BT.eqv ds[i] d
 | _,_,_,.nil,q=>by cases q;intro i h1;simp at h1
 | _,_,_,.cons r t,q=>by
  cases q with
  | cons q1 q2 =>
   intro i h1 h2
   cases i with
   | zero =>
    obtain ⟨as,ra⟩:=gy I r q1
    simp only[List.getElem_cons_zero]
    rw[rD ra (d8 r),kX]
   | succ i=>simpa using nZ I t q2 i (by simpa using h1) (by simpa using h2)
theorem vF (hu:X.A.units+150 < cLine):MtR X "tuple.index" (fun v vs H Q=>(∃ m h x ws z h',RH X.K m H h/\RW X.prog X.w X.K m H v x/\RWs X.prog X.w X.K m H vs ws/\BT.meW .tindex x ws h=some (z,h')/\Post X.prog X.w X.K m H z h' Q)):=by
 intro pins s σ H v vs v' us Q I rv rus h
 obtain ⟨m,h,x,ws,z,h',R,rx,rws,e,post⟩:=h
 cases x with
 | r n=>cases ws with
  | nil=>(first | (cases e;done) | simp[BT.meW] at e)
  | cons _ _=>(first | (cases e;done) | simp[BT.meW] at e)
 | k kvs=>(first | (cases e;done) | simp[BT.meW] at e)
 | c _ _=>(first | (cases e;done) | simp[BT.meW] at e)
 | o kvs=>(first | (cases e;done) | simp[BT.meW] at e)
 | p d =>
  rw[BT.kP] at e
  cases g:BT.aV ws with
  | none=>rw[g] at e;cases e
  | some ds =>
   rw[g] at e
   obtain ⟨b,e1,e2⟩:=aG e
   cases e2
   have rds:=rws.pure g
   cases d<;>first | exact aj e1 | skip
   rename_i xs
   cases ds with
   | nil=>exact aj e1
   | cons d0 dr =>
    cases dr with
    | cons _ _=>exact aj e1
    | nil =>
     rw[BT.xN] at e1
     split at e1
     ·rename_i c
      obtain ⟨j,e3,e4⟩:=aG e1
      subst e4
      obtain ⟨i,rfl,hi,h1,h2⟩:=kY e3
      cases rds with
      | cons r0 rn =>
       cases rn
       obtain ⟨u,rfl,ru⟩:=rus.one
       cases rx with
       | p rx =>
        obtain ⟨a,vt,rfl,ha,ra⟩:=RR.tup (.d rx)
        cases rv
        obtain ⟨its,q1,q2,_⟩:=I.tuple ha
        obtain ⟨⟨cls,dd,data,sl⟩,ho,hc,n,hd⟩:=id q2
        simp only at hc hd
        subst hc hd
        have hl:=q1.length
        have hl2:=ra.length
        have hi':i < its.toArray.size:=by rw[OD];omega
        refine Rt F.slot_tuple_index ⟨_,ho,rfl⟩ F.entry_tuple_index (F.args_tuple_index_2 _ _)
         (mh a its.toArray n dd sl u (cU s.heap (pd d0)) i hi' ?_ ?_) ⟨ho,?_,?_⟩
        ·rw[show its.toArray[i]=its[i]'(by omega) by simp,nZ I ra q1 i (by omega) hi];exact h1
        ·intro k hk hlt
         have hk':k < its.length:=by simpa using hk
         rw[show its.toArray[k]=its[k]'hk' by simp,nZ I ra q1 k hk' (by omega)];exact h2 k (by omega) hlt
        ·intro y hy
         exact gY hu I (.d r0) ru ra q1 c y (by simpa using hy)
        ·refine ⟨.int (((0+i:Nat):Nat):Int),H,I.tok _,⟨s.toks,?_⟩,post.here R (.int _)⟩
         simp
     ·cases e1
end
end BS
end
section
namespace BS
open PySem PySem.Spec PyProof.Rows L2
section
variable {X:Cx}
noncomputable def rBi (P:OO) (w:O6) (K:Ow) (b:BT.Bi) (mu:Bool):List V->Hp->VK->Prop:=fun vs H Q =>
 ∃ m h ws z h',RH K m H h/\RWs P w K m H vs ws/\BT.kBi b mu ws h=some (z,h')/\Post P w K m H z h' Q
inductive RRs (K:Ow) (m:List Addr) (H:Hp):List V->List BT.D->Prop where
 | nil:RRs K m H [] []
 | cons {v:V}{d:BT.D}{vs:List V}{ds:List BT.D} (r:RR K m H v d) (t:RRs K m H vs ds):RRs K m H (v :: vs) (d :: ds)
theorem eB {P:OO}{w:O6}{K:Ow}{m:List Addr}{H:Hp}{h:BT.HH} (R:RH K m H h):∀ {vs:List V}{ws:List BT.W}{ds:List BT.D},RWs P w K m H vs ws->BT.rds ws h=some ds->RRs K m H vs ds
 | _,_,_,.nil,e=>by cases e;exact .nil
 | _,_,_,.cons r t,e=>by
  simp only[BT.rds] at e
  obtain ⟨d,e1,e2⟩:=Option.bind_eq_some_iff.mp e
  obtain ⟨q,e3,e4⟩:=aG e2
  subst e4
  exact .cons (aC R r e1) (eB R t e3)
theorem gB {b:BT.Bi}{mu:Bool}{ws:List BT.W}{h:BT.HH}{z:BT.W}{h':BT.HH} (e:BT.kBi b mu ws h=some (z,h')) :
 ∃ ds d,BT.rds ws h=some ds/\BT.biD b ds=some d/\((mu=false/\z=.p d/\h'=h)\/∃ xs,mu=true/\d=.lst xs/\z=.r h.length/\h'=h++[.l xs]):=by
 unfold BT.kBi at e
 cases e1:BT.rds ws h with
 | none=>rw[e1] at e;cases e
 | some ds =>
  rw[e1] at e
  simp only at e
  cases e2:BT.biD b ds with
  | none=>rw[e2] at e;cases e
  | some d =>
   rw[e2] at e
   simp only at e
   cases mu with
   | false=>cases e;exact ⟨ds,d,rfl,e2,.inl ⟨rfl,rfl,rfl⟩⟩
   | true =>
    simp only[if_true] at e
    cases d<;>simp only at e<;>try contradiction
    cases e
    exact ⟨ds,_,rfl,e2,.inr ⟨_,rfl,rfl,rfl,rfl⟩⟩
theorem RRs.one {K:Ow}{m:List Addr}{H:Hp}{vs:List V}{d:BT.D} (r:RRs K m H vs [d]):∃ v,vs=[v]/\RR K m H v d:=by
 cases r with
 | cons r t=>cases t;exact ⟨_,rfl,r⟩
theorem FJ:cS X (.builtin "len") (rBi X.prog X.w X.K .len false):=by
 intro pins s σ H vs us Q I rus h
 obtain ⟨m,h,ws,z,h',R,rws,e,post⟩:=h
 obtain ⟨ds,d,e1,e2,⟨_,rfl,rfl⟩ | ⟨_,q,_⟩⟩:=gB e
 ·have rr:=eB R rws e1
  match ds,e2 with
  | [.tup xs],e2 =>
   cases e2
   obtain ⟨v,rfl,r⟩:=rr.one
   obtain ⟨a,vt,rfl,ha,ra⟩:=r.tup
   exact iZ pins s σ H _ us Q I rus ⟨a,vt,rfl,.inr ha,by rw[ra.length];exact post.here R (.int _)⟩
  | [.lst xs],e2 =>
   cases e2
   obtain ⟨v,rfl,r⟩:=rr.one
   obtain ⟨a,vt,rfl,ha,ra⟩:=r.lst
   exact iZ pins s σ H _ us Q I rus ⟨a,vt,rfl,.inl ha.sq,by rw[ra.length];exact post.here R (.int _)⟩
  | [.str x],e2 =>
   rw[BT.vm] at e2
   split at e2
   ·rename_i c
    cases e2
    obtain ⟨v,rfl,r⟩:=rr.one
    obtain ⟨rfl,_⟩:=r.str
    have:=cJ
    exact nC pins s σ H _ us Q I rus ⟨x,rfl,by omega,post.here R (.int _)⟩
   ·cases e2
 ·cases q
theorem FM:cS X (.builtin "abs") (rBi X.prog X.w X.K .abs false):=by
 intro pins s σ H vs us Q I rus h
 obtain ⟨m,h,ws,z,h',R,rws,e,post⟩:=h
 obtain ⟨ds,d,e1,e2,⟨_,rfl,rfl⟩ | ⟨_,q,_⟩⟩:=gB e
 ·have rr:=eB R rws e1
  match ds,e2 with
  | [.int i],e2 =>
   cases e2
   obtain ⟨v,rfl,r⟩:=rr.one
   cases r.int
   exact wV pins s σ H _ us Q I rus ⟨i,rfl,post.here R (.int _)⟩
 ·cases q
theorem FN:cS X (.type "int") (rBi X.prog X.w X.K .int false):=by
 intro pins s σ H vs us Q I rus h
 obtain ⟨m,h,ws,z,h',R,rws,e,post⟩:=h
 obtain ⟨ds,d,e1,e2,⟨_,rfl,rfl⟩ | ⟨_,q,_⟩⟩:=gB e
 ·have rr:=eB R rws e1
  match ds,e2 with
  | [.int i],e2 =>
   cases e2
   obtain ⟨v,rfl,r⟩:=rr.one
   cases r.int
   exact mP pins s σ H _ us Q I rus (.inl ⟨i,rfl,post.here R (.int _)⟩)
  | [.bl i],e2 =>
   cases e2
   obtain ⟨v,rfl,r⟩:=rr.one
   cases r.bl
   exact mP pins s σ H _ us Q I rus (.inr ⟨i,rfl,post.here R (.int _)⟩)
 ·cases q
theorem sP {mu:Bool}:cS X (.type "list") (rBi X.prog X.w X.K .list mu):=by
 intro pins s σ H vs us Q I rus h
 obtain ⟨m,h,ws,z,h',R,rws,e,post⟩:=h
 obtain ⟨ds,d,e1,e2,hz⟩:=gB e
 have rr:=eB R rws e1
 have fin:∀ {p:Addr}{vt:List V}{xs:List BT.D},d=.lst xs->H p=none->RDs X.K m H vt xs->Q (.ref p) (upd H p (.lst vt)):=by
  intro p vt xs ed hp r
  rcases hz with ⟨_,rfl,rfl⟩ | ⟨ys,_,e3,rfl,rfl⟩
  ·subst ed;exact gU R hp r post
  ·rw[ed] at e3;cases e3;exact sM R hp r post
 match ds,e2 with
 | [.tup xs],e2 =>
  cases e2
  obtain ⟨v,rfl,r⟩:=rr.one
  obtain ⟨a,vt,rfl,ha,ra⟩:=r.tup
  exact i6 pins s σ H _ us Q I rus ⟨a,vt,rfl,.inr ha,fun p hp=>fin rfl hp ra⟩
 | [.lst xs],e2 =>
  cases e2
  obtain ⟨v,rfl,r⟩:=rr.one
  obtain ⟨a,vt,rfl,ha,ra⟩:=r.lst
  exact i6 pins s σ H _ us Q I rus ⟨a,vt,rfl,.inl ha.sq,fun p hp=>fin rfl hp ra⟩
theorem kZ:∀ {xs:List BT.D}{ns:List Int},BT.intsOf xs=some ns->xs=ns.map BT.D.int
 | [],ns,h=>by cases h;rfl
 | .int i :: r,ns,h=>by
  simp only[BT.intsOf] at h
  obtain ⟨q,e1,e2⟩:=aG h
  subst e2
  rw[kZ e1];rfl
 | .non :: _,_,h=>by cases h
 | .bl _ :: _,_,h=>by cases h
 | .str _ :: _,_,h=>by cases h
 | .tup _ :: _,_,h=>by cases h
 | .lst _ :: _,_,h=>by cases h
theorem gC {K:Ow}{m:List Addr}{H:Hp}:∀ {ns:List Int}{vs:List V},RDs K m H vs (ns.map BT.D.int)->vs=ns.map V.int
 | [],vs,r=>by cases r;rfl
 | n :: ns,vs,r=>by
  cases r with
  | cons r t=>cases r;rw[gC t];rfl
theorem k8 {K:Ow}{m:List Addr}{H:Hp}:∀ (ns:List Int),RDs K m H (ns.map V.int) (ns.map BT.D.int)
 | []=>.nil
 | n :: ns=>.cons (.int n) (k8 ns)
theorem yz:cS X (.type "tuple") (rBi X.prog X.w X.K .tuple false):=by
 intro pins s σ H vs us Q I rus h
 obtain ⟨m,h,ws,z,h',R,rws,e,post⟩:=h
 obtain ⟨ds,d,e1,e2,⟨_,rfl,rfl⟩ | ⟨_,q,_⟩⟩:=gB e
 ·have rr:=eB R rws e1
  match ds,e2 with
  | [.tup xs],e2 =>
   cases e2
   obtain ⟨v,rfl,r⟩:=rr.one
   obtain ⟨a,vt,rfl,ha,ra⟩:=r.tup
   refine iz pins s σ H _ us Q I rus ⟨a,vt,rfl,.inr ⟨ha,?_⟩⟩
   cases r with
   | d r=>exact post.here R r
  | [.lst xs],e2 =>
   cases e2
   obtain ⟨v,rfl,r⟩:=rr.one
   obtain ⟨a,vt,rfl,ha,ra⟩:=r.lst
   exact iz pins s σ H _ us Q I rus ⟨a,vt,rfl,.inl ⟨ha.sq,fun p hp=>jf R hp ra post⟩⟩
 ·cases q
noncomputable def tyD:BT.D->String
 | .non=>"NoneType"
 | .bl _=>"bool"
 | .int _=>"int"
 | .str _=>"str"
 | .tup _=>"tuple"
 | .lst _=>"list"
theorem BI {pins:List (Addr×Obj)}{σ:L2.St}{s:OB}{H:Hp}{m:List Addr}{v:V}{u:Oz}{d:BT.D}{c:String}{b:Bool}{Q:Oz->OB->Prop}{A:PL}{E:Oz->OB->Prop}
 (I:Inv X pins σ H s) (r:RR X.K m H v d) (rv:RelV v u) (e:RJ X.K (.type (tyD d)) (.type c)=some b) (h:∀ tk,Q (.bool b) { s with toks:=tk }) :
 wpAny (OY X.prog X.w) A (call (.builtin "isinstance") [u,.type c]) Q E s:=by
 cases d with
 | non=>cases r.non;cases rv;exact Q0 PySem.W.kitx_none I.kIn RY e (fun z=>nomatch z) h
 | bl y=>cases r.bl;cases rv;exact Q0 PySem.W.kitx_bool I.kIn RY e (fun z=>nomatch z) h
 | int i=>cases r.int;obtain ⟨t,rfl⟩:=rv;exact Q0 PySem.W.kitx_int I.kIn RY e (fun z=>nomatch z) h
 | str y=>obtain ⟨rfl,_⟩:=r.str;obtain ⟨t,rfl⟩:=rv;exact Q0 PySem.W.kitx_str I.kIn RY e (fun z=>nomatch z) h
 | tup xs =>
  obtain ⟨a,vt,rfl,ha,_⟩:=r.tup
  cases rv
  obtain ⟨its,_,⟨o,h1,h2,_⟩,_⟩:=I.tuple ha
  exact Q0 PySem.W.kitx_tuple I.kIn ⟨o,h1,h2⟩ e (fun z=>nomatch z) h
 | lst xs =>
  obtain ⟨a,vt,rfl,ha,_⟩:=r.lst
  cases rv
  obtain ⟨_,its,n,_,_,h1⟩:=rdL I ha
  exact Q0 PySem.W.kitx_list I.kIn ⟨_,h1,rfl⟩ e (fun z=>nomatch z) h
theorem yC (K:Ow) (t:String):RJ K (.type t) (.type t)=some true:=by
 unfold RJ
 rw[if_pos (by simp)]
theorem yD {b:BT.Bi}{c:String}{f:BT.D->Bool} (h:pR b=some (c,f)) (d:BT.D):BT.biD b [d]=some (.bl (f d)):=by
 cases b<;>simp only[pR] at h<;>try contradiction
 all_goals (cases h;rfl)
theorem yE {b:BT.Bi}{c:String}{f:BT.D->Bool} (h:pR b=some (c,f)) (K:Ow) (d:BT.D):RJ K (.type (tyD d)) (.type c)=some (f d):=by
 cases b<;>simp only[pR] at h<;>try contradiction
 all_goals (cases h;cases d)
 all_goals first
  | exact yC K _
  | (simp only[tyD];unfold RJ;rw[if_neg (by decide)];unfold PySem.W.kitCls;first | rfl | kernel_rfl | decide +kernel)
end
end BS
end
section
namespace BS
open PySem PySem.Spec PyProof.Rows L2
noncomputable abbrev FT:=BT.FK->List BT.W->BT.HH->Option (BT.W×BT.HH)
noncomputable def spF (P:OO) (w:O6) (K:Ow) (g:List BT.W->BT.HH->Option (BT.W×BT.HH)):Sp:=fun vs H Q _ =>
 ∃ m ws h z h',RH K m H h/\RWs P w K m H vs ws/\g ws h=some (z,h')/\Post P w K m H z h' Q
noncomputable def tD (X:Cx) (F:FT) (G:Str->Option BT.W) (e:BT.E):TE:=fun σ H Q =>
 ∃ m s h z h',RH X.K m H h/\RS X.prog X.w X.K m H σ s/\BT.ev F G e s h=some (z,h')/\Post X.prog X.w X.K m H z h' Q
noncomputable def tDs (X:Cx) (F:FT) (G:Str->Option BT.W) (es:BT.Es):TA:=fun σ H Q =>
 ∃ m s h zs h',RH X.K m H h/\RS X.prog X.w X.K m H σ s/\BT.evs F G es s h=some (zs,h')/\∀ vs H' m',Ext m H m' H'->RH X.K m' H' h'->RWs X.prog X.w X.K m' H' vs zs->Q vs H'
noncomputable def tDT (X:Cx) (F:FT) (G:Str->Option BT.W) (e:BT.E):TT:=fun σ H Q =>
 ∃ m s h b h',RH X.K m H h/\RS X.prog X.w X.K m H σ s/\BT.ev F G e s h=some (.p (.bl b),h')/\∀ H' m',Ext m H m' H'->RH X.K m' H' h'->Q b H'
noncomputable def pU (P:OO) (w:O6) (K:Ow) (mg:Str->Option Oz) (base:Heap) (k L:Nat) (g:List BT.W->BT.HH->Option (BT.W×BT.HH)):Prop :=
 ∀ (A:PL) (outer:List Env) (s:OB) (H:Hp) (f:Addr) (us:List Oz) (vs cvs:List V) (m:List Addr) (ws:List BT.W) (cs:List BT.Cp) (h:BT.HH) (z:BT.W) (h':BT.HH) (Q:VK) (E:XK),bU k A->lT P w K mg base A outer s H->aq vs us →
  RH K m H h->RWs P w K m H vs ws->BT.noC ws=true->gr m H f L cvs->RCs K m H cvs cs->g (ws++cs.map BT.Cp.w) h=some (z,h')->Post P w K m H z h' Q->codeAny (OY P w) A (.call (.ref f) ⟨us,[]⟩) (CR CX0 outer P w H s Q E) s
structure LX (X:Cx) (x:Str):Prop where
 mem:x∈BT.dD
 ex:∃ c P,Pw X.K x=some (c,P)/\X.env.code=.ref c/\PySem.W.CodeHd X.base c P/\∀ y∈BT.dD,∀ c2,Pw X.K y=some (c2,P)->y=x
 ql:X.env.qual=x++".<locals>."
 bm:∃ bm ob,X.mg "__builtins__"=some (.ref bm)/\bm≠QJ/\X.base.get? bm=some ob/\ob.cls=.type "module"/\ob.dict=some QJ/\ob.data=.plain
noncomputable def FO:List Str:=["len","abs","int","list","tuple","isinstance","str","bool","range","reversed","enumerate","zip","min","max","sorted","sum","all","any","set"]
structure Ok (X:Cx) (F:FT) (G:Str->Option BT.W) (sc:OW) (N:List Str):Prop where
 hsc:X.env.scope=sc
 hN:X.N=N
 nd:X.N.Nodup
 calm:X.calm=true
 hu:X.A.units+150 < cLine
 own:PassesOwn (OY X.prog X.w) X.A X.env X.xe
 glob:∀ x z,G x=some z->∃ u v,X.mg x=some u/\RelV v u/\∀ m H,RW X.prog X.w X.K m H v z
 call:∀ (f:Str) ws h r,F (.f f) ws h=some r->∃ (fa:Addr) (fd:Qq) (ps:List Str) (k:Nat),X.mg f=some (.ref fa)/\PZ X.K (.ref fa)=true/\Binds X.K fd ps []/\bU k X.A ∧
  fT X.prog X.w X.K X.mg X.base CX0 k fa fd ps (spF X.prog X.w X.K (F (.f f)))
 meth:∀ (c m:Str) ws h r,F (.m c m) ws h=some r->∃ (C g:Addr) (fd:Qq) (ps:List Str) (k:Nat),kU X.K c C/\u5 X.K C m g/\Binds X.K fd ps []/\bU k X.A ∧
  fT X.prog X.w X.K X.mg X.base CX0 k g fd ps (spF X.prog X.w X.K (F (.m c m)))
 mkc:∀ (c:Str) ws h r,F (.m c "__init__") ws h=some r->∃ (C g:Addr) (fd:Qq) (ps:List Str) (k:Nat),kU X.K c C/\X.mg c=some (.ref C)/\Mk X.K C g/\Binds X.K fd ps []/\bU (k+1) X.A ∧
  fT X.prog X.w X.K X.mg X.base CX0 k g fd ps (spF X.prog X.w X.K (F (.m c "__init__")))
 blt:∀ x∈FO,X.mg x=none
 lam:∀ (L:Nat) ws h r,F (.l L) ws h=some r->∃ k,bU k X.A/\pU X.prog X.w X.K X.mg X.base k L (F (.l L))
 lamx:(∀ x,X.fn x=true)->∀ x,N.contains (BT.cj x)=true->LX X x
theorem PE.weak {X:Cx}{e:Ox}{t t':TE} (h:PE X e t) (q:∀ σ H Q,t' σ H Q->t σ H Q):PE X e t':=fun pins s σ H Q I hw=>h pins s σ H Q I (q _ _ _ hw)
theorem PT.weak {X:Cx}{e:Ox}{t t':TT} (h:PT X e t) (q:∀ σ H Q,t' σ H Q->t σ H Q):PT X e t':=fun pins s σ H Q I hw=>h pins s σ H Q I (q _ _ _ hw)
theorem PW.weak {X:Cx}{e:Ox}{t t':TT} (h:PW X e t) (q:∀ σ H Q,t' σ H Q->t σ H Q):PW X e t':=fun wh pins s σ H Q I hw=>h wh pins s σ H Q I (q _ _ _ hw)
theorem PA.weak {X:Cx}{es:List Ox}{t t':TA} (h:PA X es t) (q:∀ σ H Q,t' σ H Q->t σ H Q):PA X es t':=fun pos pins s σ H Q I hw=>h pos pins s σ H Q I (q _ _ _ hw)
theorem ah {e:Ox}{es:List Ox}{env:Env} (h:noStar e=true):O4 (e :: es) env=(false,eval e env) :: O4 es env:=by
 cases e<;>first | rfl | cases h
theorem yF {b:Ox} (h:jc b=true):su b:=fun o i=>by
 cases b<;>first | rfl | cases h
theorem jj {o:Ox}{name:Str}{env:Env} (h:aE o=true):Sw o name env (eval o env)=eval o env:=by
 cases o with
 | Call fn as ks p =>
  cases fn with
  | Attribute _ _ _=>rfl
  | _=>cases h
 | _=>first | rfl | cases h
noncomputable def av:List Ox->Bool
 | []=>true
 | e :: es=>noStar e&&av es
theorem aH {pos:Pos}{env:Env}:∀ {es:List Ox},av es=true->(QE pos (O4 es env)).any (·.1)=false
 | [],_=>rfl
 | e :: es,h=>by
  simp only[av,OC] at h
  rw[ah h.1]
  show (false||(QE pos (O4 es env)).any (·.1))=false
  rw[aH h.2];rfl
theorem jk {pos:Pos}{env:Env}:∀ {es:List Ox},av es=true->(QE pos (O4 es env)).all (fun x=>!x.1)=true
 | [],_=>rfl
 | e :: es,h=>by
  simp only[av,OC] at h
  rw[ah h.1]
  show (!false&&(QE pos (O4 es env)).all (fun x=>!x.1))=true
  rw[jk h.2];rfl
theorem c9:∀ {sc:OW}{N:List Str}{as:BT.Es}{es:List Ox},CEs sc N as es->av es=true
 | _,_,_,_,.nil=>rfl
 | _,_,_,_,.cons hs _ hr=>by
  simp only[av,OC]
  exact ⟨hs,c9 hr⟩
section
variable {X:Cx}{F:FT}{G:Str->Option BT.W}{sc:OW}{N:List Str}
theorem n8 {f:BT.OpW}{e a b:BT.E} (he:∀ s h,BT.ev F G e s h=BT.bnd (BT.ev F G a s h) (BT.k2 (BT.ev F G b s) f)) (σ:L2.St) (H:Hp) (Q:VK) (q:tD X F G e σ H Q) :
 tOp (rOp X.prog X.w X.K f) (tD X F G a) (tD X F G b) σ H Q:=by
 obtain ⟨m,s,h,z,h',R,S,ee,post⟩:=q
 rw[he] at ee
 obtain ⟨x,h1,e1,e2⟩:=ak ee
 simp only[BT.k2] at e2
 obtain ⟨y,h2,e3,e4⟩:=ak e2
 refine ⟨m,s,h,x,h1,R,S,e1,fun v H1 m1 x1 R1 r1=>?_⟩
 refine ⟨m1,s,h1,y,h2,R1,S.ext x1,e3,fun u H2 m2 x2 R2 r2=>?_⟩
 exact ⟨m2,h2,x,y,z,h',R2,r1.ext x2,r2,e4,fun w' H3 m3 x3 R3 r3=>post w' H3 m3 ((x1.trans x2).trans x3) R3 r3⟩
theorem pV {e:BT.E}{t:TE} (h:∀ σ H Q,tD X F G e σ H Q->t σ H Q) (σ:L2.St) (H:Hp) (Q:Bool->Hp->Prop) (q:tDT X F G e σ H Q):wQ t σ H Q:=by
 obtain ⟨m,s,h0,b,h',R,S,ee,post⟩:=q
 refine h σ H _ ⟨m,s,h0,_,h',R,S,ee,fun v H' m' x R' r=>?_⟩
 cases r with
 | p r=>cases r;exact ⟨b,rfl,post H' m' x R'⟩
theorem opB {o:BT.Bin}{op:Ry} (h:DU o op=true):OpR X (Qi op) (rOp X.prog X.w X.K (BT.lY o)):=by
 cases o<;>cases op<;>cases h
 ·exact Fx
 ·exact Fy
 ·exact FD
 ·exact Fz
 ·exact BA
 ·exact FA
theorem DY {vs:List (Key×Oz)}{k:Str}:∀ {es:List (Str×V)}{kvs:List (Str×BT.D)}{K:Ow},RDk K es kvs->KV (es.map fun q=>((Sum.inr q.1:Key),q.2)) vs->(valueAt vs (Sum.inr k)).isSome=(BT.cT k kvs).isSome:=by
 intro es
 induction es generalizing vs with
 | nil =>
  intro kvs K r q
  cases r
  cases q
  rfl
 | cons p es ih =>
  intro kvs K r q
  cases r with
  | @cons x v dd _ kvs r t =>
   cases q with
   | @cons p z l1 l2 q1 q2 =>
    obtain ⟨z1,z2⟩:=z
    obtain ⟨q11,q12⟩:=q1
    simp only at q11 q12
    subst q11
    rw[BT.cT]
    by_cases c:k=x
    ·subst c
     simp[valueAt]
    ·rw[if_neg c]
     have ne:¬ ((Sum.inr x:Key)=Sum.inr k):=fun z=>c (Sum.inr.inj z).symm
     have:=ih t q2
     simp only[valueAt] at this ⊢
     rw[UH (by simpa using ne)]
     exact this
theorem opC (O:Ok X F G sc N) {o:BT.Cm}{op:CmpOp} (h:Bx o op=true):OpR X (Pr op) (rOp X.prog X.w X.K (BT.fZ o)):=by
 cases o<;>cases op<;>cases h
 ·exact Jv O.hu
 ·exact Jw O.hu
 ·exact Jx
 ·exact Jy
 ·exact Jz
 ·exact JA
 ·exact FE
 ·exact BB
 ·refine FG O.hu ?_
  intro kvs x b m H v u v' u' pins σ s Q I rv ru rx rk e q
  cases x with
  | r n=>exact aj e
  | k q=>exact aj e
  | c _ _=>exact aj e
  | o q=>exact aj e
  | p d =>
   cases d<;>first | exact aj e | skip
   obtain rfl:=OP e
   cases rk with
   | @k a es _ kd rk =>
    cases ru
    cases rx with
    | p rx =>
     cases rx with
     | str x ok =>
      obtain ⟨t,rfl⟩:=rv
      obtain ⟨hm,vs,kv,dd⟩:=kd
      have D:=dd s.heap I.kIn
      refine wpAny_in_of (knd:=aM X.prog X.w) (e9 _ _ _ t) hm D.mapOf ?_
      rw[DY rk kv]
      exact ⟨.bl _,H,I.tok _,rfl,q⟩
 ·refine BD O.hu ?_
  intro kvs x b m H v u v' u' pins σ s Q I rv ru rx rk e q
  cases x with
  | r n=>exact aj e
  | k q=>exact aj e
  | c _ _=>exact aj e
  | o q=>exact aj e
  | p d =>
   cases d<;>first | exact aj e | skip
   obtain rfl:=OP e
   cases rk with
   | @k a es _ kd rk =>
    cases ru
    cases rx with
    | p rx =>
     cases rx with
     | str x ok =>
      obtain ⟨t,rfl⟩:=rv
      obtain ⟨hm,vs,kv,dd⟩:=kd
      have D:=dd s.heap I.kIn
      refine wpAny_notIn_of (knd:=aM X.prog X.w) (e9 _ _ _ t) hm D.mapOf ?_
      rw[DY rk kv]
      exact ⟨.bl _,H,I.tok _,rfl,q⟩
end
end BS
end
section
namespace BS
open PySem PySem.Spec PyProof.Rows L2
section
variable {X:Cx}{F:FT}{G:Str->Option BT.W}{sc:OW}{N:List Str}
theorem BJ (O:Ok X F G sc N) (x:Str):X.env.kindOf x=sc.names.lookup x:=by rw[← O.hsc];rfl
theorem dJ {x:Str} (h:cu x=true):(x==("__debug__":Str))=false/\(x==("__classdict__":Str))=false/\x≠"__name__":=by
 simp only[cu,OC,Rh] at h
 exact ⟨h.1.1,h.1.2,fun e=>by rw[e] at h;simp at h⟩
theorem aT (O:Ok X F G sc N) {x:Str} (h:aF sc x=true):Gl X x:=by
 show X.env.kindOf x=_
 rw[BJ O]
 exact eq_of_beq h
theorem yG (O:Ok X F G sc N) {x:Str} (h:jZ sc x=true):Vis X.env.scope x:=by
 rw[O.hsc]
 unfold jZ at h
 unfold Vis
 cases e:sc.names.lookup x with
 | none=>rw[e] at h;cases h
 | some k=>rw[e] at h;cases k<;>first | (exact .inl rfl) | (exact .inr (.inl rfl)) | (exact .inr (.inr rfl)) | cases h
theorem n9 (O:Ok X F G sc N) {i:Nat}{y:Str}{pos:Pos} (h2:N[i]?=some y) (h3:jZ sc y=true) (h4:cu y=true):PE X (.Name y pos) (tD X F G (.var i y)):=by
 obtain ⟨d1,d2,_⟩:=dJ h4
 refine PE.weak (wA (i:=i) (by rw[O.hN];exact h2) (yG O h3) d1 d2) fun σ H Q q=>?_
 obtain ⟨m,s,h,z,h',R,S,ee,post⟩:=q
 simp only[BT.ev] at ee
 split at ee
 ·rename_i w e
  cases ee
  obtain ⟨v,hv,r⟩:=S.get i _ e
  exact ⟨v,hv,post v H m (.refl _ _) R r⟩
 ·cases ee
theorem BK {d:BT.D}{c:Const}{k:Nat}{pos:Pos} (h:DV d c=true):PE X (.Constant c k pos) (tD X F G (.cst d)):=by
 have fin:∀ {v:V},(∀ m H,RD X.K m H v d)->∀ σ H Q,tD X F G (.cst d) σ H Q->tC v σ H Q:=fun r σ H Q q=>by
  obtain ⟨m,s,h,z,h',R,S,ee,post⟩:=q
  simp only[BT.ev] at ee
  cases ee
  exact post _ H m (.refl _ _) R (.p (r m H))
 cases d<;>cases c<;>first | (cases h;done) | skip
 ·exact PE.weak Eg (fin fun _ _=>.non)
 ·cases eq_of_beq h;exact PE.weak HP (fin fun _ _=>.bl _)
 ·cases eq_of_beq h;exact PE.weak qI (fin fun _ _=>.int _)
 ·have h:=Bool.and_eq_true_iff.mp h
  cases eq_of_beq h.1;exact PE.weak Eh (fin fun _ _=>.str _ h.2)
theorem BN (O:Ok X F G sc N) {y:Str}{pos:Pos} (h2:aF sc y=true) (h3:cu y=true):PE X (.Name y pos) (tD X F G (.glo y)):=by
 obtain ⟨d1,d2,_⟩:=dJ h3
 intro pins s σ H Q I q
 obtain ⟨m,s',h,z,h',R,S,ee,post⟩:=q
 simp only[BT.ev] at ee
 obtain ⟨w,e1,e2⟩:=aG ee
 cases e2
 obtain ⟨u,v,hm,r,rw⟩:=O.glob _ _ e1
 exact rZ (aT O h2) hm r d1 pins s σ H Q I (post v H m (.refl _ _) R (rw m H))
theorem DZ {e a:BT.E}{k:BT.W->BT.HH->Option (BT.W×BT.HH)} (he:∀ s h,BT.ev F G e s h=BT.bnd (BT.ev F G a s h) k) {σ:L2.St}{H:Hp}{Q:VK} (q:tD X F G e σ H Q) {R':V->Hp->Prop}
 (h1:∀ m h x z h' v H1,RH X.K m H1 h->RW X.prog X.w X.K m H1 v x->k x h=some (z,h')->Post X.prog X.w X.K m H1 z h' Q->R' v H1):tD X F G a σ H R':=by
 obtain ⟨m,s,h,z,h',R,S,ee,post⟩:=q
 rw[he] at ee
 obtain ⟨x,g,e1,e2⟩:=ak ee
 exact ⟨m,s,h,x,g,R,S,e1,fun v H1 m1 x1 R1 r1=>h1 m1 g x z h' v H1 R1 r1 e2 fun w' H3 m3 x3 R3 r3=>post w' H3 m3 (x1.trans x3) R3 r3⟩
theorem gZ {e:BT.E}{as:BT.Es}{k:List BT.W->BT.HH->Option (BT.W×BT.HH)} (he:∀ s h,BT.ev F G e s h=BT.bnd (BT.evs F G as s h) k) {σ:L2.St}{H:Hp}{Q:VK} (q:tD X F G e σ H Q) {R':List V->Hp->Prop}
 (h1:∀ m h xs z h' vs H1,RH X.K m H1 h->RWs X.prog X.w X.K m H1 vs xs->k xs h=some (z,h')->Post X.prog X.w X.K m H1 z h' Q->R' vs H1):tDs X F G as σ H R':=by
 obtain ⟨m,s,h,z,h',R,S,ee,post⟩:=q
 rw[he] at ee
 obtain ⟨x,g,e1,e2⟩:=ak ee
 exact ⟨m,s,h,x,g,R,S,e1,fun v H1 m1 x1 R1 r1=>h1 m1 g x z h' v H1 R1 r1 e2 fun w' H3 m3 x3 R3 r3=>post w' H3 m3 (x1.trans x3) R3 r3⟩
theorem ty_list {m:List Addr}{H:Hp}{h:BT.HH}{v:V}{n:Nat} (R:RH X.K m H h) (r:RW X.prog X.w X.K m H v (.r n)) (ok:BT.pQ (.r n) h=true):tyV X.K "list" v H:=by
 cases r with
 | @r a _ hn =>
  obtain ⟨xs,e⟩:=Option.isSome_iff_exists.mp ok
  obtain ⟨vs,e,_⟩:=R.cell n a xs hn e
  exact .inl ⟨rfl,vs,.inl (.inl e)⟩
theorem sQ {m:BT.Me}{ea:BT.HH->Option (List BT.W×BT.HH)}{x:BT.W}{h:BT.HH}{r:BT.W×BT.HH} (e:BT.kMe m ea x h=some r):BT.pQ x h=true/\BT.bnd (ea h) (BT.meW m x)=some r:=by
 unfold BT.kMe at e
 split at e
 ·rename_i c;exact ⟨c,e⟩
 ·cases e
theorem M5 {m:BT.Me}{x:BT.W}{ws:List BT.W}{h:BT.HH}{z:BT.W}{h':BT.HH} (hm:m=.append\/m=.pop\/m=.extend) (e:BT.meW m x ws h=some (z,h')):∃ n,x=.r n:=by
 cases x with
 | r n=>exact ⟨n,rfl⟩
 | p d =>
  rcases hm with rfl | rfl | rfl<;>cases ws<;>rw[sO] at e<;>(split at e<;>(try cases e))<;>exact aj e
 | k q =>
  rcases hm with rfl | rfl | rfl<;>cases ws<;>(first | (cases e;done) | simp[BT.meW] at e)
 | c _ _ =>
  rcases hm with rfl | rfl | rfl<;>cases ws<;>(first | (cases e;done) | simp[BT.meW] at e)
 | o q =>
  rcases hm with rfl | rfl | rfl<;>cases ws<;>(first | (cases e;done) | simp[BT.meW] at e)
end
end BS
end
section
namespace BS
open PySem PySem.Spec PyProof.Rows L2
section
variable {F:FT}{G:Str->Option BT.W}
theorem oh {X:Cx}{e a:BT.E}{k:BT.Sl->BT.W->BT.HH->Option (BT.W×BT.HH)} (he:∀ s h,BT.ev F G e s h=BT.bnd (BT.ev F G a s h) (k s)) {σ:L2.St}{H:Hp}{Q:VK} (q:tD X F G e σ H Q) {R':V->Hp->Prop}
 (h1:∀ m s h x z h' v H1,RH X.K m H1 h->RS X.prog X.w X.K m H1 σ s->RW X.prog X.w X.K m H1 v x->k s x h=some (z,h')->Post X.prog X.w X.K m H1 z h' Q->R' v H1):tD X F G a σ H R':=by
 obtain ⟨m,s,h,z,h',R,S,ee,post⟩:=q
 rw[he] at ee
 obtain ⟨x,g,e1,e2⟩:=ak ee
 exact ⟨m,s,h,x,g,R,S,e1,fun v H1 m1 x1 R1 r1=>h1 m1 s g x z h' v H1 R1 (S.ext x1) r1 e2 fun w' H3 m3 x3 R3 r3=>post w' H3 m3 (x1.trans x3) R3 r3⟩
theorem FP {X:Cx}{e a:BT.E}{k:BT.Sl->Bool->BT.HH->Option (BT.W×BT.HH)}{kk:BT.Sl->BT.W->BT.HH->Option (BT.W×BT.HH)} (he:∀ s h,BT.ev F G e s h=BT.bnd (BT.ev F G a s h) (kk s))
 (hk:∀ s x h r,kk s x h=some r->∃ b,x=.p (.bl b)/\k s b h=some r) {σ:L2.St}{H:Hp}{Q:VK} (q:tD X F G e σ H Q) {R':Bool->Hp->Prop}
 (h1:∀ m s h b z h' H1,RH X.K m H1 h->RS X.prog X.w X.K m H1 σ s->k s b h=some (z,h')->Post X.prog X.w X.K m H1 z h' Q->R' b H1):tDT X F G a σ H R':=by
 obtain ⟨m,s,h,z,h',R,S,ee,post⟩:=q
 rw[he] at ee
 obtain ⟨x,g,e1,e2⟩:=ak ee
 obtain ⟨b,rfl,e3⟩:=hk _ _ _ _ e2
 exact ⟨m,s,h,b,g,R,S,e1,fun H1 m1 x1 R1=>h1 m1 s g b z h' H1 R1 (S.ext x1) e3 fun w' H3 m3 x3 R3 r3=>post w' H3 m3 (x1.trans x3) R3 r3⟩
theorem jL {P:OO}{w:O6}{K:Ow}{m:List Addr}{H:Hp}{v:V}{b:Bool} (r:RW P w K m H v (.p (.bl b))):v=.bl b:=by
 cases r with | p r=>cases r;rfl
theorem sR {eb:BT.EH}{x:BT.W}{h:BT.HH}{r:BT.W×BT.HH} (e:BT.Bq eb x h=some r):∃ b,x=.p (.bl b)/\(if b=true then eb h else some (.p (.bl false),h))=some r:=by
 cases x with
 | p d =>
  cases d<;>simp only[BT.Bq] at e<;>try contradiction
  exact ⟨_,rfl,e⟩
 | r n=>cases e
 | k q=>cases e
 | c _ _=>cases e
 | o q=>cases e
theorem yH {eb:BT.EH}{x:BT.W}{h:BT.HH}{r:BT.W×BT.HH} (e:BT.kOr eb x h=some r):∃ b,x=.p (.bl b)/\(if b=true then some (.p (.bl true),h) else eb h)=some r:=by
 cases x with
 | p d =>
  cases d<;>simp only[BT.kOr] at e<;>try contradiction
  exact ⟨_,rfl,e⟩
 | r n=>cases e
 | k q=>cases e
 | c _ _=>cases e
 | o q=>cases e
theorem BO {ea eb:BT.EH}{x:BT.W}{h:BT.HH}{r:BT.W×BT.HH} (e:BT.Br ea eb x h=some r):∃ b,x=.p (.bl b)/\(if b=true then ea h else eb h)=some r:=by
 cases x with
 | p d =>
  cases d<;>simp only[BT.Br] at e<;>try contradiction
  exact ⟨_,rfl,e⟩
 | r n=>cases e
 | k q=>cases e
 | c _ _=>cases e
 | o q=>cases e
theorem sS {x:BT.W}{h:BT.HH}{r:BT.W×BT.HH} (e:BT.Bp x h=some r):∃ b,x=.p (.bl b)/\r=(.p (.bl (!b)),h):=by
 cases x with
 | p d =>
  cases d<;>simp only[BT.Bp] at e<;>try contradiction
  cases e;exact ⟨_,rfl,rfl⟩
 | r n=>cases e
 | k q=>cases e
 | c _ _=>cases e
 | o q=>cases e
theorem BP {x:BT.W}{h:BT.HH}{r:BT.W×BT.HH} (e:BT.Bo x h=some r):∃ i,x=.p (.int i)/\r=(.p (.int (-i)),h):=by
 cases x with
 | p d =>
  cases d<;>simp only[BT.Bo] at e<;>try contradiction
  cases e;exact ⟨_,rfl,rfl⟩
 | r n=>cases e
 | k q=>cases e
 | c _ _=>cases e
 | o q=>cases e
theorem sU {X:Cx}{a b:BT.E} (σ:L2.St) (H:Hp) (Q:VK) (q:tD X F G (.and a b) σ H Q):DF (tD X F G a) (tD X F G b) σ H Q:=by
 refine oh (k:=fun s=>BT.Bq (BT.ev F G b s)) (fun s h=>by simp only[BT.ev]) q fun m s h x z h' v H1 R S r e post=>?_
 obtain ⟨c,rfl,e2⟩:=sR e
 refine ⟨c,jL r,?_⟩
 cases c with
 | true=>rw[if_pos rfl] at e2 ⊢;exact ⟨m,s,h,z,h',R,S,e2,post⟩
 | false=>rw[if_neg (by decide)] at e2 ⊢;cases e2;exact post.here R (.bl _)
theorem yI {X:Cx}{a b:BT.E} (σ:L2.St) (H:Hp) (Q:VK) (q:tD X F G (.or a b) σ H Q):HS (tD X F G a) (tD X F G b) σ H Q:=by
 refine oh (k:=fun s=>BT.kOr (BT.ev F G b s)) (fun s h=>by simp only[BT.ev]) q fun m s h x z h' v H1 R S r e post=>?_
 obtain ⟨c,rfl,e2⟩:=yH e
 refine ⟨c,jL r,?_⟩
 cases c with
 | true=>rw[if_pos rfl] at e2 ⊢;cases e2;exact post.here R (.bl _)
 | false=>rw[if_neg (by decide)] at e2 ⊢;exact ⟨m,s,h,z,h',R,S,e2,post⟩
theorem sV {X:Cx}{a b:BT.E} (σ:L2.St) (H:Hp) (Q:Bool->Hp->Prop) (q:tDT X F G (.and a b) σ H Q):HQ (tDT X F G a) (tDT X F G b) σ H Q:=by
 obtain ⟨m,s,h,c,h',R,S,ee,post⟩:=q
 simp only[BT.ev] at ee
 obtain ⟨x,g,e1,e2⟩:=ak ee
 obtain ⟨d,rfl,e3⟩:=sR e2
 refine ⟨m,s,h,d,g,R,S,e1,fun H1 m1 x1 R1=>?_⟩
 cases d with
 | true=>rw[if_pos rfl] at e3 ⊢;exact ⟨m1,s,g,c,h',R1,S.ext x1,e3,fun H2 m2 x2 R2=>post H2 m2 (x1.trans x2) R2⟩
 | false=>rw[if_neg (by decide)] at e3 ⊢;cases e3;exact post H1 m1 x1 R1
theorem yJ {X:Cx}{a b:BT.E} (σ:L2.St) (H:Hp) (Q:Bool->Hp->Prop) (q:tDT X F G (.or a b) σ H Q):tOr (tDT X F G a) (tDT X F G b) σ H Q:=by
 obtain ⟨m,s,h,c,h',R,S,ee,post⟩:=q
 simp only[BT.ev] at ee
 obtain ⟨x,g,e1,e2⟩:=ak ee
 obtain ⟨d,rfl,e3⟩:=yH e2
 refine ⟨m,s,h,d,g,R,S,e1,fun H1 m1 x1 R1=>?_⟩
 cases d with
 | true=>rw[if_pos rfl] at e3 ⊢;cases e3;exact post H1 m1 x1 R1
 | false=>rw[if_neg (by decide)] at e3 ⊢;exact ⟨m1,s,g,c,h',R1,S.ext x1,e3,fun H2 m2 x2 R2=>post H2 m2 (x1.trans x2) R2⟩
theorem BQ {X:Cx}{a:BT.E} (σ:L2.St) (H:Hp) (Q:Bool->Hp->Prop) (q:tDT X F G (.not a) σ H Q):HR (tDT X F G a) σ H Q:=by
 obtain ⟨m,s,h,c,h',R,S,ee,post⟩:=q
 simp only[BT.ev] at ee
 obtain ⟨x,g,e1,e2⟩:=ak ee
 obtain ⟨d,rfl,e3⟩:=sS e2
 cases e3
 exact ⟨m,s,h,d,h',R,S,e1,fun H1 m1 x1 R1=>post H1 m1 x1 R1⟩
theorem BU {X:Cx}{a:BT.E} (σ:L2.St) (H:Hp) (Q:VK) (q:tD X F G (.not a) σ H Q):DG (tD X F G a) σ H Q:=by
 refine oh (k:=fun s=>BT.Bp) (fun s h=>by simp only[BT.ev]) q fun m s h x z h' v H1 R S r e post=>?_
 obtain ⟨c,rfl,e2⟩:=sS e
 cases e2
 exact ⟨c,jL r,post.here R (.bl _)⟩
theorem FQ {X:Cx}{c a b:BT.E} (σ:L2.St) (H:Hp) (Q:VK) (q:tD X F G (.ite c a b) σ H Q):tIf (tDT X F G c) (tD X F G a) (tD X F G b) σ H Q:=by
 refine FP (k:=fun s t h=>if t=true then BT.ev F G a s h else BT.ev F G b s h) (kk:=fun s=>BT.Br (BT.ev F G a s) (BT.ev F G b s)) (fun s h=>by simp only[BT.ev]) (fun s x h r e=>BO e) q fun m s h t z h' H1 R S e post=>?_
 cases t with
 | true=>rw[if_pos rfl] at e ⊢;exact ⟨m,s,h,z,h',R,S,e,post⟩
 | false=>rw[if_neg (by decide)] at e ⊢;exact ⟨m,s,h,z,h',R,S,e,post⟩
theorem FU {X:Cx}{a:BT.E} (σ:L2.St) (H:Hp) (Q:VK) (q:tD X F G (.neg a) σ H Q):tUn (rU fun i=>.int (-i)) (tD X F G a) σ H Q:=by
 refine oh (k:=fun s=>BT.Bo) (fun s h=>by simp only[BT.ev]) q fun m s h x z h' v H1 R S r e post=>?_
 obtain ⟨c,rfl,e2⟩:=BP e
 cases e2
 cases r with | p r=>cases r;exact ⟨c,rfl,post.here R (.int _)⟩
theorem pW {X:Cx}{o o':BT.Cm}{a b c:BT.E} (σ:L2.St) (H:Hp) (Q:VK) (q:tD X F G (.chain o o' a b c) σ H Q) :
 qM (rOp X.prog X.w X.K (BT.fZ o)) (rOp X.prog X.w X.K (BT.fZ o')) (tD X F G a) (tD X F G b) (tD X F G c) σ H Q:=by
 obtain ⟨m,s,h,z,h',R,S,ee,post⟩:=q
 simp only[BT.ev] at ee
 obtain ⟨x,h1,e1,e2⟩:=ak ee
 simp only[BT.k2] at e2
 obtain ⟨y,h2,e3,e4⟩:=ak e2
 refine ⟨m,s,h,x,h1,R,S,e1,fun v H1 m1 x1 R1 r1=>?_⟩
 refine ⟨m1,s,h1,y,h2,R1,S.ext x1,e3,fun u H2 m2 x2 R2 r2=>?_⟩
 unfold BT.oCh at e4
 cases g1:BT.rd x h2 with
 | none=>rw[g1] at e4;cases e4
 | some d =>
  cases y with
  | r _=>rw[g1] at e4;cases e4
  | k _=>rw[g1] at e4;cases e4
  | c _ _=>rw[g1] at e4;cases e4
  | o _=>rw[g1] at e4;cases e4
  | p d' =>
   rw[g1] at e4
   simp only at e4
   have ho:∀ (o:BT.Cm) (x':BT.W) (hh:BT.HH) dd,BT.rd x' hh=some dd->∀ y' dd',BT.rd y' hh=some dd'->BT.fZ o x' y' hh=(BT.dX o dd dd').map fun z=>(.p (.bl z),hh):=by
    intro o x' hh dd q1 y' dd' q2
    unfold BT.fZ
    cases y' with
    | p _=>simp only[q1,q2]
    | r _=>simp only[q1,q2]
    | k _=>cases q2
    | c _ _=>cases q2
    | o _=>cases q2
   cases g3:BT.dX o d d' with
   | none=>rw[g3] at e4;cases e4
   | some t =>
    rw[g3] at e4
    refine ⟨m2,h2,x,.p d',.p (.bl t),h2,R2,r1.ext x2,r2,by rw[ho o x h2 d g1 (.p d') d' rfl,g3];rfl,fun v3 H3 m3 x3 R3 r3=>⟨t,jL r3,?_⟩⟩
    cases t with
    | false =>
     rw[if_neg (by decide)]
     cases e4
     exact post _ H3 m3 ((x1.trans x2).trans x3) R3 (.p (.bl _))
    | true =>
     rw[if_pos rfl]
     obtain ⟨w3,h3,e5,e6⟩:=ak e4
     refine ⟨m3,s,h2,w3,h3,R3,((S.ext x1).ext x2).ext x3,e5,fun v4 H4 m4 x4 R4 r4=>?_⟩
     unfold BT.IW at e6
     cases g4:BT.rd w3 h3 with
     | none=>rw[g4] at e6;cases e6
     | some f =>
      rw[g4] at e6
      simp only at e6
      refine ⟨m4,h3,.p d',w3,z,h',R4,(r2.ext x3).ext x4,r4,by rw[ho o' (.p d') h3 d' rfl w3 f g4];exact e6,fun v5 H5 m5 x5 R5 r5=>post v5 H5 m5 ((((x1.trans x2).trans x3).trans x4).trans x5) R5 r5⟩
theorem FW {X:Cx}{a:BT.E}{lo hi:BT.Es}{tl th:TO} (hl:∀ σ H (Q:Option Int->Hp->Prop),(∃ m s h l zs h',RH X.K m H h/\RS X.prog X.w X.K m H σ s/\BT.evs F G lo s h=some (zs,h')/\(BT.aV zs).bind BT.nG=some l/\∀ H' m',Ext m H m' H'->RH X.K m' H' h'->Q l H')->tl σ H Q)
 (hh:∀ σ H (Q:Option Int->Hp->Prop),(∃ m s h l zs h',RH X.K m H h/\RS X.prog X.w X.K m H σ s/\BT.evs F G hi s h=some (zs,h')/\(BT.aV zs).bind BT.nG=some l/\∀ H' m',Ext m H m' H'->RH X.K m' H' h'->Q l H')->th σ H Q)
 (σ:L2.St) (H:Hp) (Q:VK) (q:tD X F G (.slc a lo hi) σ H Q):tSl (rSl X.prog X.w X.K) (tD X F G a) tl th σ H Q:=by
 obtain ⟨m,s,h,z,h',R,S,ee,post⟩:=q
 simp only[BT.ev] at ee
 obtain ⟨x,h1,e1,e2⟩:=ak ee
 simp only[BT.IZ] at e2
 obtain ⟨ls,h2,e3,e4⟩:=ak e2
 simp only[BT.IY] at e4
 obtain ⟨us,h3,e5,e6⟩:=ak e4
 unfold BT.IX at e6
 cases g1:BT.rd x h3 with
 | none=>rw[g1] at e6;cases e6
 | some d =>
  cases g2:(BT.aV ls).bind BT.nG with
  | none=>rw[g1,g2] at e6;cases e6
  | some l =>
   cases g3:(BT.aV us).bind BT.nG with
   | none=>rw[g1,g2,g3] at e6;cases e6
   | some u =>
    rw[g1,g2,g3] at e6
    simp only at e6
    obtain ⟨b,e7,e8⟩:=aG e6
    cases e8
    refine ⟨m,s,h,x,h1,R,S,e1,fun v H1 m1 x1 R1 r1=>hl σ H1 _ ⟨m1,s,h1,l,ls,h2,R1,S.ext x1,e3,g2,fun H2 m2 x2 R2=>hh σ H2 _ ⟨m2,s,h2,u,us,h',R2,(S.ext x1).ext x2,e5,g3,fun H3 m3 x3 R3=>?_⟩⟩⟩
    exact ⟨m3,h',x,d,b,R3,(r1.ext x2).ext x3,g1,e7,fun v5 H5 m5 x5 R5 r5=>post v5 H5 m5 (((x1.trans x2).trans x3).trans x5) R5 r5⟩
end
end BS
end
section
namespace BS
open PySem PySem.Spec PyProof.Rows L2
section
variable {F:FT}{G:Str->Option BT.W}
theorem sW {X:Cx}{f:Str}{as:BT.Es}{sp:Sp} (hs:sp=spF X.prog X.w X.K (F (.f f))) {σ:L2.St}{H:Hp}{Q:VK} (q:tD X F G (.call f as) σ H Q):wZ sp [] E0 (tDs X F G as) σ H Q:=by
 subst hs
 refine gZ (k:=fun ws h=>F (.f f) ws h) (fun s h=>by simp only[BT.ev]) q fun m h xs z h' vs H1 R r e post=>?_
 rw[Pk]
 exact ⟨m,xs,h,z,h',R,r,e,post⟩
theorem g9 {X:Cx}{σ:L2.St}{H:Hp}{Q:List V->Hp->Prop} (q:tDs X F G .nil σ H Q):wY σ H Q:=by
 obtain ⟨m,s,h,zs,h',R,S,ee,post⟩:=q
 simp only[BT.evs] at ee
 cases ee
 exact post [] H m (.refl _ _) R .nil
theorem yK {X:Cx}{sc:OW}{N:List Str} (O:Ok X F G sc N) {f:Str}{as:BT.Es}{es:List Ox}{p pos:Pos} (hg:aF sc f=true) (hn:cu f=true) (hc:CEs sc N as es) (ha:PA X es (tDs X F G as)) :
 PE X (.Call (.Name f p) es [] pos) (tD X F G (.call f as)):=by
 have hst:=c9 hc
 intro pins s σ H Q I q
 have q0:=q
 obtain ⟨m,s',h,z,h',R,S,ee,post⟩:=q
 simp only[BT.ev] at ee
 obtain ⟨ws,h1,e1,e2⟩:=ak ee
 obtain ⟨fa,fd,ps,k,hm,hk,hb,hr,ok⟩:=O.call _ _ _ _ e2
 cases es with
 | nil =>
  cases as with
  | cons a r=>cases hc
  | nil=>exact (PE.weak (xg ok hr (aT O hg) hm hk hb .nil kN (dJ hn).1) (fun σ H Q z=>g9 (sW (X:=X) rfl z))) pins s σ H Q I q0
 | cons e es =>
  simp only[av,OC] at hst
  exact (PE.weak (AX ok hr (aT O hg) hm hk hb .nil kN ha (dJ hn).1 (ah hst.1) (aH hst.2)) (fun σ H Q z=>sW rfl z)) pins s σ H Q I q0
theorem rE {X:Cx}{sc:OW}{N:List Str}{me:BT.Me}{o:BT.E}{as:BT.Es}{oe:Ox}{es:List Ox}{name:Str}{apos cpos:Pos}{T id:String} (pa:PlainAttrs T) (slot:Slot T name id)
 (hty:typeOf (.builtin id)=pure (.type "method_descriptor")) (hm:MtR X id (rMe X.prog X.w X.K me)) (hb:aE oe=true) (hl:(apos.endLine==cpos.line)=true) (hlen:es.length < 20) (ho:PE X oe (tD X F G o)) (hc:CEs sc N as es) (ha:PA X es (tDs X F G as))
 (ty:∀ (m:List Addr) (h h2:BT.HH) (H:Hp) (v:V) (x:BT.W) ws r,RH X.K m H h->RW X.prog X.w X.K m H v x->BT.pQ x h=true->BT.meW me x ws h2=some r->(∃ σ s,RS X.prog X.w X.K m H σ s/\∃ h0,BT.ev F G o s h0=some (x,h))->tyV X.K T v H) :
 PE X (.Call (.Attribute oe name apos) es [] cpos) (tD X F G (.me me o as)):=by
 have hst:=c9 hc
 have key:∀ σ H Q,tD X F G (.me me o as) σ H Q->tBM X.K T (rMe X.prog X.w X.K me) (tD X F G o) (tDs X F G as) σ H Q:=by
  intro σ H Q q
  obtain ⟨m,s,h,z,h',R,S,ee,post⟩:=q
  simp only[BT.ev] at ee
  obtain ⟨x,h1,e1,e2⟩:=ak ee
  obtain ⟨ok,e2⟩:=sQ e2
  obtain ⟨ws,h2,e3,e4⟩:=ak e2
  refine ⟨m,s,h,x,h1,R,S,e1,fun v H1 m1 x1 R1 r1=>⟨ty m1 h1 h2 H1 v x ws _ R1 r1 ok e4 ⟨σ,s,S.ext x1,h,e1⟩,m1,s,h1,ws,h2,R1,S.ext x1,e3,fun vs H2 m2 x2 R2 r2=>?_⟩⟩
  exact ⟨m2,h2,x,ws,z,h',R2,r1.ext x2,r2,e4,fun v5 H5 m5 x5 R5 r5=>post v5 H5 m5 ((x1.trans x2).trans x5) R5 r5⟩
 cases es with
 | nil =>
  cases as with
  | cons a r=>cases hc
  | nil =>
   refine PE.weak (ES pa slot hty hm ho (jj hb) hl) fun σ H Q q=>?_
   obtain ⟨m,s,h,z,h',R,S,ee,post⟩:=key σ H Q q
   exact ⟨m,s,h,z,h',R,S,ee,fun v H1 m1 x1 R1 r1=>⟨(post v H1 m1 x1 R1 r1).1,g9 (post v H1 m1 x1 R1 r1).2⟩⟩
 | cons e es =>
  simp only[av,OC] at hst
  refine PE.weak (DN pa slot hty hm ho ha (jj hb) ?_ hl (ah hst.1) (aH hst.2)) key
  rw[jk (es:=e :: es) (by simp only[av,OC];exact hst)]
  have h30:decide ((e :: es).length+([]:List Tt).length+(if ([]:List Tt).isEmpty then 0 else 1) < 30)=true:=decide_eq_true (by
   simp only[OZ,PN,List.isEmpty_nil,if_true] at hlen ⊢;omega)
  rw[h30];rfl
theorem jn {X:Cx}{b:BT.Bi}{mu:Bool}{as:BT.Es}{σ:L2.St}{H:Hp}{Q:VK} (q:tD X F G (.bi b mu as) σ H Q):tCB (rBi X.prog X.w X.K b mu) (tDs X F G as) σ H Q:=by
 refine gZ (k:=fun ws h=>BT.kBi b mu ws h) (fun s h=>by simp only[BT.ev]) q fun m h xs z h' vs H1 R r e post=>?_
 exact ⟨m,h,xs,z,h',R,r,e,post⟩
theorem FY {X:Cx}{sc:OW}{N:List Str} (O:Ok X F G sc N) {b:BT.Bi}{mu:Bool}{as:BT.Es}{x:Str}{e:Ox}{es:List Ox}{p pos:Pos} (hb:DW b mu x=true) (hg:aF sc x=true) (hst:av (e :: es)=true) (ha:PA X (e :: es) (tDs X F G as)) :
 PE X (.Call (.Name x p) (e :: es) [] pos) (tD X F G (.bi b mu as)):=by
 simp only[av,OC] at hst
 have hx:yh b mu=some x:=eq_of_beq hb
 have hB:=O.blt
 cases b<;>cases mu<;>first | (cases hx;done) | (change some _=some _ at hx)
 all_goals (cases hx)
 ·exact PE.weak (gf FJ (aT O hg) (hB _ (by decide)) PySem.boot_len ha (by decide) (by decide) (ah hst.1) (aH hst.2)) (fun σ H Q z=>jn z)
 ·exact PE.weak (gf FM (aT O hg) (hB _ (by decide)) (by decide +kernel) ha (by decide) (by decide) (ah hst.1) (aH hst.2)) (fun σ H Q z=>jn z)
 ·exact PE.weak (gQ FN (aT O hg) (hB _ (by decide)) (by decide +kernel) ha (by decide) (by decide) (ah hst.1) (aH hst.2)) (fun σ H Q z=>jn z)
 ·exact PE.weak (gQ sP (aT O hg) (hB _ (by decide)) (by decide +kernel) ha (by decide) (by decide) (ah hst.1) (aH hst.2)) (fun σ H Q z=>jn z)
 ·exact PE.weak (gQ sP (aT O hg) (hB _ (by decide)) (by decide +kernel) ha (by decide) (by decide) (ah hst.1) (aH hst.2)) (fun σ H Q z=>jn z)
 ·exact PE.weak (gQ yz (aT O hg) (hB _ (by decide)) (by decide +kernel) ha (by decide) (by decide) (ah hst.1) (aH hst.2)) (fun σ H Q z=>jn z)
theorem vG {X:Cx}{c:String}{f:BT.D->Bool}{b:BT.Bi} (hb:pR b=some (c,f)):cS X (.builtin "isinstance") (fun vs H Q=>∃ v,vs=[v,.ty c]/\rBi X.prog X.w X.K b false [v] H Q):=by
 intro pins s σ H vs us Q I rus h
 obtain ⟨v,rfl,m,h,ws,z,h',R,rws,e,post⟩:=h
 obtain ⟨u,u2,rfl,ru,ru2⟩:=rus.two
 cases ru2
 obtain ⟨ds,d,e1,e2,⟨_,rfl,rfl⟩ | ⟨_,q,_⟩⟩:=gB e
 ·have rr:=eB R rws e1
  cases rr with
  | cons r t =>
   cases t
   rw[yD hb] at e2
   cases e2
   exact BI I r ru (yE hb X.K _) fun tk=>⟨.bl _,H,I.tok tk,rfl,post.here R (.bl _)⟩
 ·cases q
theorem yL {X:Cx}{sc:OW}{N:List Str} (O:Ok X F G sc N) {b:BT.Bi}{c:String}{f:BT.D->Bool}{a:BT.E}{e:Ox}{p p2 pos:Pos} (hb:pR b=some (c,f)) (hg:aF sc "isinstance"=true) (hg2:aF sc (OT c)=true) (hst:noStar e=true) (ha:PE X e (tD X F G a)) :
 PE X (.Call (.Name "isinstance" p) [e,.Name (OT c) p2] [] pos) (tD X F G (.bi b false (.cons a .nil))):=by
 have hB:=O.blt
 have hc:PE X (.Name (OT c) p2) (tC (.ty c)):=by
  cases b<;>simp only[pR] at hb<;>try contradiction
  all_goals (cases hb)
  ·exact iU (aT O hg2) (hB _ (by decide)) (u:=.type "int") (by decide +kernel) rfl (by decide) (by decide)
  ·exact iU (aT O hg2) (hB _ (by decide)) (u:=.type "bool") (by decide +kernel) rfl (by decide) (by decide)
  ·exact iU (aT O hg2) (hB _ (by decide)) (u:=.type "str") (by decide +kernel) rfl (by decide) (by decide)
  ·exact iU (aT O hg2) (hB _ (by decide)) (u:=.type "tuple") (by decide +kernel) rfl (by decide) (by decide)
  ·exact iU (aT O hg2) (hB _ (by decide)) (u:=.type "list") (by decide +kernel) rfl (by decide) (by decide)
 refine PE.weak (gf (vG hb) (aT O hg) (hB _ (by decide)) (by decide +kernel) (gP ha (gP hc ny) (ah hst)) (by decide) (by decide) (ah hst) rfl) fun σ H Q q=>?_
 obtain ⟨m,s,h,z,h',R,S,ee,post⟩:=q
 simp only[BT.ev,BT.evs] at ee
 obtain ⟨ws,h1,e1,e2⟩:=ak ee
 obtain ⟨x,h2,e3,e4⟩:=ak e1
 simp only[BT.kT,BT.aZ,BT.iH] at e4
 cases e4
 refine ⟨m,s,h,x,h1,R,S,e3,fun v H1 m1 x1 R1 r1=>?_⟩
 exact ⟨v,rfl,m1,h1,[x],z,h',R1,.cons r1 .nil,e2,fun v5 H5 m5 x5 R5 r5=>post v5 H5 m5 (x1.trans x5) R5 r5⟩
theorem FZ {X:Cx}{as:BT.Es} (σ:L2.St) (H:Hp) (Q:VK) (q:tD X F G (.tup as) σ H Q):Ip (tDs X F G as) σ H Q:=by
 refine gZ (k:=fun ws h=>BT.Fb ws h) (fun s h=>by simp only[BT.ev]) q fun m h xs z h' vs H1 R r e post=>?_
 unfold BT.Fb at e
 cases g:BT.aV xs with
 | none=>rw[g] at e;cases e
 | some ds =>
  rw[g] at e
  simp only at e
  split at e
  ·rename_i c
   cases e
   have rd:=r.pure g
   have:=cJ
   have hl:=rd.length
   exact ⟨by omega,fun p hp=>jf R hp rd post⟩
  ·cases e
theorem F3 {X:Cx}{mu:Bool}{as:BT.Es} (σ:L2.St) (H:Hp) (Q:VK) (q:tD X F G (.lst mu as) σ H Q):Iq (tDs X F G as) σ H Q:=by
 refine gZ (k:=fun ws h=>BT.Fc mu ws h) (fun s h=>by simp only[BT.ev]) q fun m h xs z h' vs H1 R r e post=>?_
 unfold BT.Fc at e
 cases g:BT.aV xs with
 | none=>rw[g] at e;cases e
 | some ds =>
  rw[g] at e
  simp only at e
  split at e
  ·rename_i c
   have rd:=r.pure g
   have:=cJ
   have hl:=rd.length
   have ez:BT.new mu ds h=(z,h'):=OP e
   exact ⟨by omega,fun p hp=>jg (mu:=mu) R hp rd (by rw[ez];exact post)⟩
  ·cases e
theorem cons_of {X:Cx}{a:BT.E}{as:BT.Es} (σ:L2.St) (H:Hp) (Q:List V->Hp->Prop) (q:tDs X F G (.cons a as) σ H Q):DL (tD X F G a) (tDs X F G as) σ H Q:=by
 obtain ⟨m,s,h,zs,h',R,S,ee,post⟩:=q
 simp only[BT.evs] at ee
 obtain ⟨x,h1,e1,e2⟩:=ak ee
 simp only[BT.kT] at e2
 obtain ⟨xs,h2,e3,e4⟩:=ak e2
 simp only[BT.iH] at e4
 cases e4
 exact ⟨m,s,h,x,h1,R,S,e1,fun v H1 m1 x1 R1 r1=>⟨m1,s,h1,xs,h',R1,S.ext x1,e3,fun vs H2 m2 x2 R2 r2=>post _ H2 m2 (x1.trans x2) R2 (.cons (r1.ext x2) r2)⟩⟩
end
end BS
end
section
namespace BS
open PySem PySem.Spec PyProof.Rows L2
section
variable {K:Ow}{m:List Addr}{H:Hp}
theorem RFs.get {f:Str}{x:BT.W}:∀ {vs:List (Str×V)}{fs:List (Str×BT.W)},RFs K m H vs fs->BT.aX f fs=some x->∃ v,vs.lookup f=some v/\RA K m H v x
 | _,_,.nil,e=>by cases e
 | _,_,.cons (f:=g) r t,e=>by
  rw[BT.mU] at e
  by_cases c:f=g
  ·rw[if_pos c] at e;cases e;subst c;exact ⟨_,by simp,r⟩
  ·rw[if_neg c] at e
   obtain ⟨v,h1,h2⟩:=RFs.get t e
   exact ⟨v,by rw[PR];rw[beq_false_of_ne c];exact h1,h2⟩
theorem RFs.none {f:Str}:∀ {vs:List (Str×V)}{fs:List (Str×BT.W)},RFs K m H vs fs->(BT.aX f fs).isNone=true->vs.lookup f=none
 | _,_,.nil,_=>rfl
 | _,_,.cons (f:=g) r t,e=>by
  rw[BT.mU] at e
  by_cases c:f=g
  ·rw[if_pos c] at e;cases e
  ·rw[if_neg c] at e
   rw[PR,beq_false_of_ne c]
   exact RFs.none t e
theorem RFs.put {f:Str}{v:V}{x:BT.W} (q:RA K m H v x):∀ {vs:List (Str×V)}{fs:List (Str×BT.W)},RFs K m H vs fs->RFs K m H (L2.bz f v vs) (BT.bz f x fs)
 | _,_,.nil=>.cons q .nil
 | _,_,.cons (f:=g) r t=>by
  rw[L2.bz,BT.vo]
  by_cases c:f=g
  ·rw[if_pos c,if_pos c.symm];subst c;exact .cons q t
  ·rw[if_neg c,if_neg (PD c)];exact .cons r (RFs.put q t)
theorem RFs.length:∀ {vs:List (Str×V)}{fs:List (Str×BT.W)},RFs K m H vs fs->vs.length=fs.length
 | _,_,.nil=>rfl
 | _,_,.cons _ t=>by rw[OZ,OZ,RFs.length t]
end
section
variable {F:FT}{G:Str->Option BT.W}
theorem BV {f:Str}{x:BT.W}{h:BT.HH}{r:BT.W×BT.HH} (e:BT.Bs f x h=some r):∃ n c fs w,x=.o n/\BT.oat h n=some (c,fs)/\BT.aX f fs=some w/\r=(w,h):=by
 cases x with
 | o n =>
  rw[BT.Fe] at e
  cases g:BT.oat h n with
  | none=>rw[g] at e;cases e
  | some q =>
   obtain ⟨c,fs⟩:=q
   rw[g] at e
   obtain ⟨w,e1,e2⟩:=aG e
   exact ⟨n,c,fs,w,rfl,g,e1,e2.symm⟩
 | p d=>cases e
 | r n=>cases e
 | k q=>cases e
 | c _ _=>cases e
theorem BW {X:Cx}{sc:OW}{N:List Str}{a:BT.E}{f:Str}{x:Ox}{p:Pos} (hb:aE x=true) (hf:attrName f=true) (ha:PE X x (tD X F G a)):PE X (.Attribute x f p) (tD X F G (.fld a f)):=by
 refine PE.weak (EF ha (jj hb)) fun σ H Q q=>?_
 refine DZ (k:=BT.Bs f) (fun s h=>by simp only[BT.ev]) q fun m h x z h' v H1 R r e post=>?_
 obtain ⟨n,c,fs,w,rfl,e1,e2,e3⟩:=BV e
 cases e3
 cases r with
 | o hn =>
  obtain ⟨C,dx,vs,h1,h2,h3⟩:=R.mW _ _ _ _ hn e1
  obtain ⟨u,l,ra⟩:=h3.get e2
  exact ⟨_,C,dx,vs,u,rfl,h1,h2.cls,h2.no f hf,l,post u H1 m (.refl _ _) R ra.rw⟩
theorem jM {o:Ox}{m:Str}{apos pos:Pos}{args:List Ox}{env:Env} (hb:aE o=true) (hst:av args=true) (hlen:args.length < 20) (hl:(apos.endLine==pos.line)=true) :
 eval (.Call (.Attribute o m apos) args [] pos) env=(do
  let ov ← eval o env
  standAt apos.atName
  let (f,first) ← holding [ov] (TJ ov m (do return (← importBound o env).getD true))
  callWith pos f first (QE pos (O4 args env)) (SZ pos (Rq [] env))):=by
 have hf:methodCallForm (args.length+([]:List Tt).length) (QE pos (O4 args env)) (SZ pos (Rq [] env))=true:=by
  unfold methodCallForm
  have h30:decide (args.length+([]:List Tt).length+(if (SZ pos (Rq [] env)).isEmpty then 0 else 1) < 30)=true:=decide_eq_true (by
   show args.length+0+0 < 30
   omega)
  rw[h30,jk hst];rfl
 rw[arm_eval_Call,jj hb]
 unfold methodCall
 rw[hf]
 have hp:methodCallPos true o env apos pos=pure pos:=by
  unfold methodCallPos
  rw[hl];rfl
 rw[hp]
 rfl
theorem yM {m:Str}{ea:BT.HH->Option (List BT.W×BT.HH)}{x:BT.W}{h:BT.HH}{r:BT.W×BT.HH} (e:BT.xR F m ea x h=some r) :
 ∃ n c fs ws g,x=.o n/\BT.oat h n=some (c,fs)/\(BT.aX m fs).isNone=true/\ea h=some (ws,g)/\F (.m c m) (.o n :: ws) g=some r:=by
 cases x with
 | o n =>
  rw[BT.Bt] at e
  cases g:BT.oat h n with
  | none=>rw[g] at e;cases e
  | some q =>
   obtain ⟨c,fs⟩:=q
   rw[g] at e
   simp only at e
   split at e
   ·rename_i c1
    obtain ⟨ws,g2,e1,e2⟩:=ak e
    exact ⟨n,c,fs,ws,g2,rfl,g,c1,e1,e2⟩
   ·cases e
 | p d=>cases e
 | r n=>cases e
 | k q=>cases e
 | c _ _=>cases e
theorem yN {X:Cx}{sc:OW}{N:List Str} (O:Ok X F G sc N) {o:BT.E}{m:Str}{as:BT.Es}{oe:Ox}{apos cpos:Pos}{es:List Ox} (hb:aE oe=true) (hl:(apos.endLine==cpos.line)=true) (hlen:es.length < 20) (ho:PE X oe (tD X F G o)) (hc:CEs sc N as es) (ha:PA X es (tDs X F G as)) :
 PE X (.Call (.Attribute oe m apos) es [] cpos) (tD X F G (.meth o m as)):=by
 have hst:=c9 hc
 intro pins s σ H Q I q
 obtain ⟨m0,s',h,z,h',R,S,ee,post⟩:=q
 simp only[BT.ev] at ee
 obtain ⟨x,h1,e1,e2⟩:=ak ee
 obtain ⟨n,c,fs,ws,g,rfl,e3,e4,e5,e6⟩:=yM e2
 obtain ⟨C,ga,fd,ps,k,hC,hM,hB,hR,ok⟩:=O.meth _ _ _ _ _ e6
 have key:w6 C m (spF X.prog X.w X.K (F (.m c m))) [] E0 (tD X F G o) (tDs X F G as) σ H Q:=by
  refine ⟨m0,s',h,.o n,h1,R,S,e1,fun v H1 m1 x1 R1 r1=>?_⟩
  cases r1 with
  | @o a _ hn =>
   obtain ⟨C',dx,vs,q1,q2,q3⟩:=R1.mW _ _ _ _ hn e3
   cases q2.cn.inj hC.cn
   refine ⟨a,dx,vs,rfl,q1,q3.none e4,m1,s',h1,ws,g,R1,S.ext x1,e5,fun us H2 m2 x2 R2 r2=>?_⟩
   show spF X.prog X.w X.K (F (.m c m)) (V.ref a :: (us++[])) H2 Q E0
   rw[Pk]
   exact ⟨m2,.o n :: ws,g,z,h',R2,.cons (.o (x2.ix hn)) r2,e6,fun v5 H5 m5 x5 R5 r5=>post v5 H5 m5 ((x1.trans x2).trans x5) R5 r5⟩
 cases es with
 | nil =>
  cases as with
  | cons a r=>cases hc
  | nil =>
   refine xh ho hC.cls hM ok hR hB .nil kN (jM hb hst hlen hl) pins s σ H Q I ?_
   obtain ⟨m,s,h,z,h',R,S,ee,post⟩:=key
   refine ⟨m,s,h,z,h',R,S,ee,fun v H1 m1 x1 R1 r1=>?_⟩
   obtain ⟨a,dx,fs,q1,q2,q3,q4⟩:=post v H1 m1 x1 R1 r1
   exact ⟨a,dx,fs,q1,q2,q3,g9 q4⟩
 | cons e es =>
  have hst':=hst
  simp only[av,OC] at hst'
  exact AY ho hC.cls hM ok hR hB .nil kN ha (ah hst'.1) (aH hst'.2) (jM hb hst hlen hl) pins s σ H Q I key
theorem yO {X:Cx}{sc:OW}{N:List Str} (O:Ok X F G sc N) {c:Str}{as:BT.Es}{es:List Ox}{p pos:Pos} (hg:aF sc c=true) (hn:cu c=true) (hc:CEs sc N as es) (ha:PA X es (tDs X F G as)) :
 PE X (.Call (.Name c p) es [] pos) (tD X F G (.make c as)):=by
 have hst:=c9 hc
 intro pins s σ H Q I q
 obtain ⟨m0,s',h,z,h',R,S,ee,post⟩:=q
 simp only[BT.ev] at ee
 obtain ⟨ws,h1,e1,e2⟩:=ak ee
 rw[BT.xS] at e2
 obtain ⟨y,h2,e3,e4⟩:=ak e2
 have e5:y=.p .non/\(z,h')=(.o h1.length,h2):=by
  cases y with
  | p d=>cases d<;>simp[BT.sH] at e4;exact ⟨rfl,by rw[e4.1,e4.2]⟩
  | r n=>cases e4
  | k q=>cases e4
  | c _ _=>cases e4
  | o n=>cases e4
 obtain ⟨rfl,e5⟩:=e5
 cases e5
 obtain ⟨C,ga,fd,ps,k,hC,hmg,hM,hB,hR,ok⟩:=O.mkc _ _ _ _ e3
 have key:w9 C (spF X.prog X.w X.K (F (.m c "__init__"))) [] E0 (tDs X F G as) σ H Q:=by
  refine ⟨m0,s',h,ws,h1,R,S,e1,fun us H1 m1 x1 R1 r1 x dx nx ndx ne=>?_⟩
  rw[Pk]
  have xa:Ext m1 H1 m1 (upd H1 dx (.own x)):=fW ndx
  have Ra:RH X.K m1 (upd H1 dx (.own x)) h1:=R1.new ndx
  have nx':upd H1 dx (.own x) x=none:=by rw[au (PD ne)];exact nx
  have xb:Ext m1 (upd H1 dx (.own x)) (m1++[x]) (upd (upd H1 dx (.own x)) x (.ins C dx [])):=gw nx'
  have Rb:RH X.K (m1++[x]) (upd (upd H1 dx (.own x)) x (.ins C dx [])) (h1++[.o c []]):=Ra.Fw nx' ⟨C,dx,[],aB,hC,.nil⟩
  have ix:(m1++[x])[h1.length]?=some x:=by rw[← R1.len];simp
  refine ⟨m1++[x],.o h1.length :: ws,h1++[.o c []],.p .non,h',Rb,.cons (.o ix) (r1.ext (xa.trans xb)),e3,fun v H2 m2 x2 R2 r2=>?_⟩
  cases r2 with
  | p r2 =>
   cases r2
   exact ⟨rfl,post _ H2 m2 (((x1.trans xa).trans xb).trans x2) R2 (.o (x2.ix ix))⟩
 cases es with
 | nil =>
  cases as with
  | cons a r=>cases hc
  | nil =>
   refine xj hM ok hR (aT O hg) hmg hB .nil kN (dJ hn).1 pins s σ H Q I ?_
   exact g9 key
 | cons e es =>
  simp only[av,OC] at hst
  exact AZ hM ok hR (aT O hg) hmg hB .nil kN ha (dJ hn).1 (ah hst.1) (aH hst.2) pins s σ H Q I key
noncomputable def F4 (o:BT.Bin):TIp:=fun x y H Q=>∃ i j z,x=.int i/\y=.int j/\BT.kO o (.int i) (.int j)=some (.int z)/\Q (.int z) H
noncomputable def yP:BT.Bin->Ry->Bool
 | .add,.Add=>true
 | .sub,.Sub=>true
 | .mul,.Mult=>true
 | _,_=>false
theorem sY {X:Cx}{o:BT.Bin}{op:Ry} (h:yP o op=true):PIp X op (F4 o):=by
 rintro pins s σ H x y u v Q I rx ry ⟨i,j,z,rfl,rfl,e,q⟩
 obtain ⟨t,rfl⟩:=(show ∃ t,u=RE i t from rx)
 obtain ⟨t',rfl⟩:=(show ∃ t',v=RE j t' from ry)
 cases o<;>cases op<;>cases h
 ·cases e;exact PyProof.Rows.iadd_int ⟨.int (i+j),H,I.tok _,⟨_,rfl⟩,q⟩
 ·cases e;exact PyProof.Rows.isub_int ⟨.int (i - j),H,I.tok _,⟨_,rfl⟩,q⟩
 ·rw[BT.pM] at e
  split at e
  ·rename_i c
   cases e
   have hc:AO i j:=by
    rcases QN _ _ ▸ c with c | c
    ·exact .inl (nW c)
    ·exact .inr (nW c)
   exact PyProof.Rows.imul_int ⟨.int (i*j),H,I.tok _,⟨_,rfl⟩,q⟩ hc.ok
  ·cases e
theorem sZ {o:BT.Bin}{d e z:BT.D} (h:BT.kO o d e=some z):∃ i j k,d=.int i/\e=.int j/\z=.int k:=by
 cases d with
 | int i =>
  cases e with
  | int j =>
   refine ⟨i,j,?_⟩
   cases o with
   | add=>exact ⟨_,rfl,rfl,(OP h).symm⟩
   | sub=>exact ⟨_,rfl,rfl,(OP h).symm⟩
   | mul =>
    rw[BT.pM] at h
    split at h
    ·exact ⟨_,rfl,rfl,(OP h).symm⟩
    ·cases h
   | _=>exact aj h
  | _=>cases o<;>exact aj h
 | _=>cases o<;>exact aj h
end
end BS
end
section
namespace BS
open PySem PySem.Spec PyProof.Rows L2
section
variable {K:Ow}{m:List Addr}{H:Hp}
end
theorem jN {vs:List V}{us:List Oz} (r:aq vs us):∀ l:List Nat,aq (l.filterMap fun i=>vs[i]?) (l.filterMap fun i=>us[i]?)
 | []=>.nil
 | i :: l=>by
  rw[O9,O9]
  cases g:vs[i]? with
  | none =>
   have:us[i]?=none:=by
    have h:=r.length
    rw[Uj] at g ⊢
    omega
   rw[this]
   exact jN r l
  | some d =>
   obtain ⟨v,e,q⟩:=r.get g
   rw[e]
   exact .cons q (jN r l)
noncomputable def pX (k:Int) (xs:List V):List V:=(SY (Pa none none (some k) xs.length).1 (Pa none none (some k) xs.length).2.1 (Pa none none (some k) xs.length).2.2).filterMap fun i=>xs[i]?
section
variable {F:FT}{G:Str->Option BT.W}
theorem F5 {X:Cx}{e se:Ox}{te:TE}{k:Int}{p2 pos:Pos} (hk:k≠0) (he:PE X e te) (hs:PE X se (tC (.int k))) :
 PE X (.Subscript e (.Slice none none (some se) p2) pos) (fun σ H Q=>te σ H fun x H1=>∃ a xs,x=.ref a/\SqL X.K H1 a xs/\∀ p,H1 p=none->Q (.ref p) (upd H1 p (.lst (pX k xs)))):=by
 intro pins s σ H Q I h
 refine Subscript_ (thn (he pins s σ H _ I h) fun v s1 ⟨x,H1,I1,r1,a,xs,ex,hx,q⟩=>?_)
 subst ex
 cases r1
 refine wpAny_Slice ?_
 rw[Vc]
 refine wpAny_pure (wpAny_pure ?_)
 rw[evalPart_some]
 refine thn (hs pins s1 σ H1 (fun v H'=>v=.int k/\H'=H1) I1 ⟨rfl,rfl⟩) fun vs s3 ⟨y,H3,I3,r3,hy,hh⟩=>?_
 subst hy hh
 obtain ⟨t,rfl⟩:=r3
 have I4:Inv X pins σ H3 { s3 with heap:=s3.heap.push { cls:=.type "slice",data:=.fields #[.none,.none,.int k t] } }:=I3.kept (t':=s3.toks) fun b ob q=>OA _ q
 obtain ⟨its,rv,p,hz⟩:=I4.list hx
 have hg:wpAny (OY X.prog X.w) X.A (T7 (.ref a) (.ref s3.heap.objs.size)) (EP X pins σ Q) X.xe { s3 with heap:=s3.heap.push { cls:=.type "slice",data:=.fields #[.none,.none,.int k t] } }:=by
  have hlen:=rv.length
  refine UX p.isList (TR ..) .none .none (.int k t) (by intro z;exact hk (OP z)) ?_ (by rw[OD];omega)
  have hp:slicePick its.toArray none none (some k)=((SY (Pa none none (some k) xs.length).1 (Pa none none (some k) xs.length).2.1 (Pa none none (some k) xs.length).2.2).filterMap fun i=>its[i]?).toArray:=by
   unfold slicePick
   rw[OD,← hlen]
   simp
  rw[hp]
  have hq:=jN rv (SY (Pa none none (some k) xs.length).1 (Pa none none (some k) xs.length).2.1 (Pa none none (some k) xs.length).2.2)
  have hz':(pX k xs).length<=xs.length:=by
   have:=slicePick_size_le its.toArray none none (some k)
   rw[hp,OD,OD] at this
   have e:=hq.length
   unfold pX
   omega
  refine ⟨.ref (s3.heap.push { cls:=.type "slice",data:=.fields #[.none,.none,.int k t] }).objs.size,_,I4.laid (t':=s3.toks) (o:=.lst (pX k xs)) (fun b ob q=>OA _ q) (OE _) ?_,rfl,q _ (I4.hok.fresh (OE _))⟩
  exact ⟨by omega,_,0,hq,OI _ rfl⟩
 show wpAny (OY X.prog X.w) X.A (Va e (.Slice none none (some se) p2) (.ref a) (.ref s3.heap.objs.size)) (EP X pins σ Q) X.xe { s3 with heap:=s3.heap.push { cls:=.type "slice",data:=.fields #[.none,.none,.int k t] } }
 exact tail_any (ops:=[.ref a,.ref s3.heap.objs.size]) p.isList.typeIs slot_list_getitem.lookup hg (by with_unfolding_all rfl)
theorem tw {e:Ox}{k:Int} (h:(By e).bind cInt=some k):∃ a b,e=.Constant (.int k) a b:=by
 cases e with
 | Constant c a b =>
  cases c with
  | int j=>cases h;exact ⟨a,b,rfl⟩
  | _=>exact absurd (show (none:Option Int)=some _ from h) (fun z=>nomatch z)
 | _=>exact absurd (show (none:Option Int)=some _ from h) (fun z=>nomatch z)
theorem yQ {k:Int}{e:Ox} (h:nR k e=true):(∃ a b,e=.Constant (.int k) a b/\0 < k)\/∃ j a b p,e=.UnaryOp .USub (.Constant (.int j) a b) p/\k=-j/\0 < j:=by
 unfold nR at h
 rw[QN,OC,OC,decide_eq_true_eq,decide_eq_true_eq] at h
 rcases h with ⟨h1,h2⟩ | ⟨h1,h2⟩
 ·obtain ⟨a,b,e1⟩:=tw (eq_of_beq h1)
  exact .inl ⟨a,b,e1,h2⟩
 ·have h1:=eq_of_beq h1
  cases e with
  | UnaryOp o e p =>
   by_cases c:o=.USub
   ·subst c
    have h3:(By e).bind cInt=some (-k):=h1
    obtain ⟨a,b,rfl⟩:=tw h3
    exact .inr ⟨-k,a,b,p,rfl,by omega,by omega⟩
   ·have:unE (.UnaryOp o e p)=none:=if_neg c
    rw[this] at h1
    cases h1
  | _=>exact absurd (show (none:Option Int)=some _ from h1) (fun z=>nomatch z)
theorem BY {X:Cx}{a:BT.E}{mu:Bool}{k:Int}{x se:Ox}{p2 p:Pos} (hk:nR k se=true) (ha:PE X x (tD X F G a)):PE X (.Subscript x (.Slice none none (some se) p2) p) (tD X F G (.stp mu k a)):=by
 have hs:k≠0/\PE X se (tC (.int k)):=by
  rcases yQ hk with ⟨a,b,rfl,h⟩ | ⟨j,a,b,p,rfl,rfl,h⟩
  ·exact ⟨by omega,qI⟩
  ·exact ⟨by omega,PE.weak (DJ wN qI) fun σ H Q q=>⟨_,rfl,q⟩⟩
 refine PE.weak (F5 hs.1 ha hs.2) fun σ H Q q=>?_
 refine DZ (k:=BT.Fd mu k) (fun s h=>by simp only[BT.ev]) q fun m h x z h' v H1 R r e post=>?_
 unfold BT.Fd at e
 cases g:BT.rd x h with
 | none=>rw[g] at e;cases e
 | some d =>
  rw[g] at e
  cases d with
  | lst xs =>
   simp only at e
   have r1:=aC R r g
   obtain ⟨a,vs,rfl,hl,rr⟩:=r1.lst
   have ez:BT.new mu (BT.pP k xs) h=(z,h'):=OP e
   refine ⟨a,vs,rfl,hl.sq,fun p hp=>jg (mu:=mu) R hp ?_ (by rw[ez];exact post)⟩
   unfold pX BT.pP
   rw[rr.length]
   exact RDs.pick rr _
  | _=>cases e
theorem yR {X:Cx}{b:BT.Bi}{g:Int->Int->Int} (hb:∀ ds d,BT.biD b ds=some d->∃ i j,ds=[.int i,.int j]/\d=.int (g i j)) {id:String} (hc:cS X (.builtin id) (fun xs H Q=>∃ i j,xs=[.int i,.int j]/\Q (.int (g i j)) H)):cS X (.builtin id) (rBi X.prog X.w X.K b false):=by
 intro pins s σ H vs us Q I rus h
 obtain ⟨m,h,ws,z,h',R,rws,e,post⟩:=h
 obtain ⟨ds,d,e1,e2,⟨_,rfl,rfl⟩ | ⟨_,q,_⟩⟩:=gB e
 ·have rr:=eB R rws e1
  obtain ⟨i,j,rfl,rfl⟩:=hb _ _ e2
  cases rr with
  | cons r t =>
   cases t with
   | cons r' t' =>
    cases t'
    cases r.int
    cases r'.int
    exact hc pins s σ H _ us Q I rus ⟨i,j,rfl,post.here R (.int _)⟩
 ·cases q
theorem BZ {X:Cx}{sc:OW}{N:List Str} (O:Ok X F G sc N) {b:BT.Bi}{as:BT.Es}{x:Str}{e:Ox}{es:List Ox}{p pos:Pos} (hb:yi b x=true) (hg:aF sc x=true) (hst:av (e :: es)=true) (ha:PA X (e :: es) (tDs X F G as)) :
 PE X (.Call (.Name x p) (e :: es) [] pos) (tD X F G (.bi b false as)):=by
 simp only[av,OC] at hst
 have hB:=O.blt
 cases b<;>first | (cases hb;done) | (replace hb:=eq_of_beq hb)
 ·subst hb
  refine PE.weak (gf (yR (b:=.min2) (g:=fun i j=>if j < i then j else i) (fun ds d h=>?_) (uY O.calm)) (aT O hg) (hB _ (by decide +kernel)) (by decide +kernel) ha (by decide) (by decide) (ah hst.1) (aH hst.2)) (fun σ H Q z=>jn z)
  match ds,h with
  | [.int i,.int j],h=>exact ⟨i,j,rfl,(OP h).symm⟩
 ·subst hb
  refine PE.weak (gf (yR (b:=.max2) (g:=fun i j=>if j > i then j else i) (fun ds d h=>?_) (uX O.calm)) (aT O hg) (hB _ (by decide +kernel)) (by decide +kernel) ha (by decide) (by decide) (ah hst.1) (aH hst.2)) (fun σ H Q z=>jn z)
  match ds,h with
  | [.int i,.int j],h=>exact ⟨i,j,rfl,(OP h).symm⟩
end
end BS
end
section
namespace BS
open PySem PySem.Spec PyProof.Rows L2
section
variable {P:OO}{w:O6}{K:Ow}{m:List Addr}{H H':Hp}
noncomputable def k9 (H H':Hp):Prop:=(∀ a vs,Rd H a (.tup vs)->Rd H' a (.tup vs))/\∀ a vs,Rd H a (.lst vs)->Rd H' a (.lst vs)
mutual
theorem RD.tr (q:k9 H H'):∀ {v:V}{d:BT.D},RD K m H v d->RD K m H' v d
 | _,_,.non=>.non
 | _,_,.bl b=>.bl b
 | _,_,.int i=>.int i
 | _,_,.str y h=>.str y h
 | _,_,.tup h r=>.tup (h.elim (fun z=>.inl ⟨q.1 _ _ z.1,z.2⟩) .inr) (RDs.tr q r)
 | _,_,.lst h r=>.lst (h.elim (fun z=>.inl ⟨q.2 _ _ z.1,z.2⟩) .inr) (RDs.tr q r)
theorem RDs.tr (q:k9 H H'):∀ {vs:List V}{ds:List BT.D},RDs K m H vs ds->RDs K m H' vs ds
 | _,_,.nil=>.nil
 | _,_,.cons r t=>.cons (RD.tr q r) (RDs.tr q t)
end
theorem RA.tr (q:k9 H H') {v:V}{x:BT.W} (r:RA K m H v x):RA K m H' v x:=by
 cases r with
 | p r=>exact .p (r.tr q)
 | r h=>exact .r h
 | o h=>exact .o h
theorem RFs.tr (q:k9 H H') {vs:List (Str×V)}{fs:List (Str×BT.W)} (r:RFs K m H vs fs):RFs K m H' vs fs:=by
 induction r with
 | nil=>exact .nil
 | cons r t ih=>exact .cons (r.tr q) ih
theorem RCs.tr (q:k9 H H') {vs:List V}{cs:List BT.Cp} (r:RCs K m H vs cs):RCs K m H' vs cs:=by
 induction r with
 | nil=>exact .nil
 | cons r t ih=>exact .cons (r.tr q) ih
theorem RWs.tr (q:k9 H H') {vs:List V}{ws:List BT.W} (r:RWs P w K m H vs ws) (n:BT.noC ws=true):RWs P w K m H' vs ws:=by
 induction r with
 | nil=>exact .nil
 | cons r t ih =>
  cases r with
  | p r=>exact .cons (.p (r.tr q)) (ih n)
  | r h=>exact .cons (.r h) (ih n)
  | k h r=>exact .cons (.k h r) (ih n)
  | o h=>exact .cons (.o h) (ih n)
  | c _ _=>cases n
  | g _ _=>cases n
theorem RCs.ws {vs:List V}{cs:List BT.Cp} (r:RCs K m H vs cs):RWs P w K m H vs (cs.map BT.Cp.w):=by
 induction r with
 | nil=>exact .nil
 | cons r t ih=>exact .cons r.rw ih
theorem RWs.app {vs us:List V}{ws zs:List BT.W} (r:RWs P w K m H vs ws) (t:RWs P w K m H us zs):RWs P w K m H (vs++us) (ws++zs):=by
 induction r with
 | nil=>exact t
 | cons r _ ih=>exact .cons r ih
theorem RKs.tr (q:k9 H H') {vs:List (Key×V)}{kvs:List (BT.Ky×BT.D)} (r:RKs K m H vs kvs):RKs K m H' vs kvs:=by
 induction r with
 | nil=>exact .nil
 | cons hk r t ih=>exact .cons (hk.tr q) (r.tr q) ih
theorem RH.tr {h:BT.HH} (R:RH K m H h) (q:k9 H H') (k:∀ a∈m,H' a=H a) (tb:TB K H'):RH K m H' h:=by
 refine ⟨R.nd,R.len,fun i a c e1 e2=>?_,tb⟩
 have z:=R.cl i a c e1 e2
 have e:=k a (OM e1)
 cases c with
 | l xs=>obtain ⟨vs,h1,h2⟩:=z;exact ⟨vs,e.trans h1,h2.tr q⟩
 | o c fs=>obtain ⟨C,dx,vs,h1,h2,h3⟩:=z;exact ⟨C,dx,vs,e.trans h1,h2,h3.tr q⟩
 | d kvs=>obtain ⟨vs,h1,h2⟩:=z;exact ⟨vs,e.trans h1,h2.tr q⟩
theorem Le.sq (q:Le H H'):k9 H H':=⟨fun a vs r=>r.elim (fun z=>.inl (q _ _ z)) fun ⟨o,z⟩=>.inr ⟨o,q _ _ z⟩,fun a vs r=>r.elim (fun z=>.inl (q _ _ z)) fun ⟨o,z⟩=>.inr ⟨o,q _ _ z⟩⟩
theorem RH.le {h:BT.HH} (R:RH K m H h) (q:Le H H'):RH K m H' h:=R.tr q.sq (fun a ha=>by
 obtain ⟨o,e,_⟩:=R.mu ha
 rw[e];exact q _ _ e) (q.tb R.tb)
theorem f7.le (q:Le H H') {cl:List (Str×Addr)}{xs:List Str}{vs:List V} (r:f7 m H cl xs vs):f7 m H' cl xs vs:=by
 induction r with
 | nil=>exact .nil
 | cons h1 h2 h3 r t ih=>exact .cons h1 ⟨q _ _ h2.1,h2.2⟩ h3 r ih
theorem gr.le (q:Le H H') {f:Addr}{L:Nat}{vs:List V} (h:gr m H f L vs):gr m H' f L vs:=by
 obtain ⟨bt,ps,fs,pa,be,sc,cl,pm,ctv,c',oc,os,t,ql,h0,h1,h2,h3,h4,h5,h6,h7,h8,h9,h10⟩:=h
 exact ⟨bt,ps,fs,pa,be,sc,cl,pm,ctv,c',oc,os,t,ql,h0,h1,h2,h3,h4,h5,⟨q _ _ h6.1,h6.2⟩,⟨q _ _ h7.1,h7.2⟩,h8,h9,h10.le q⟩
theorem RW.le (q:Le H H') {v:V}{x:BT.W} (r:RW P w K m H v x):RW P w K m H' v x:=by
 cases r with
 | p r=>exact .p (r.tr q.sq)
 | r h=>exact .r h
 | k h r=>exact .k h r
 | o h=>exact .o h
 | c h r=>exact .c (h.le q) (r.tr q.sq)
 | g h r=>exact .g h r
end
noncomputable def cy (cl:List (Str×Addr)) (H:Hp):Prop:=∀ x c,cl.lookup x=some c->∃ o u,H c=some (.frz o (.own 0))/\o.data=.cell u
open Classical in
noncomputable def hid (cl:List (Str×Addr)) (H:Hp):Hp:=fun b=>if ∃ x,cl.lookup x=some b then none else H b
open Classical in
noncomputable def ret (cl:List (Str×Addr)) (H0 H:Hp):Hp:=fun b=>if ∃ x,cl.lookup x=some b then H0 b else H b
section
variable {cl:List (Str×Addr)}{H H':Hp}{b:Addr}{u:HO}
theorem rF {x:Str} (e:cl.lookup x=some b):hid cl H b=none:=if_pos ⟨x,e⟩
theorem dG (e:¬ ∃ x,cl.lookup x=some b):hid cl H b=H b:=if_neg e
theorem eH (e:H b=none):hid cl H b=none:=by
 unfold hid;split<;>first | rfl | exact e
theorem oi {x:Str} (e:cl.lookup x=some b):ret cl H H' b=H b:=if_pos ⟨x,e⟩
theorem fq (e:¬ ∃ x,cl.lookup x=some b):ret cl H H' b=H' b:=if_neg e
theorem F6 (e:hid cl H b=some u):H b=some u/\¬ ∃ x,cl.lookup x=some b:=by
 unfold hid at e
 split at e
 ·cases e
 ·rename_i c;exact ⟨e,c⟩
noncomputable def kq:HO->Bool
 | .frz o (.own _)=>match o.data with | .cell _=>true | _=>false
 | _=>false
theorem cy.out (C:cy cl H) (e:H b=some u) (n:kq u=false):¬ ∃ x,cl.lookup x=some b:=fun ⟨x,q⟩=>by
 obtain ⟨o,v,h1,h2⟩:=C x b q
 rw[e] at h1;cases h1
 simp[kq,h2] at n
theorem cy.hid (C:cy cl H) (e:H b=some u) (n:kq u=false):BS.hid cl H b=some u:=by rw[dG (C.out e n)];exact e
theorem cy.sq (C:cy cl H):k9 H (BS.hid cl H):=⟨fun a vs r=>r.elim (fun z=>.inl (C.hid z rfl)) fun ⟨o,z⟩=>.inr ⟨o,C.hid z rfl⟩,fun a vs r=>r.elim (fun z=>.inl (C.hid z rfl)) fun ⟨o,z⟩=>.inr ⟨o,C.hid z rfl⟩⟩
theorem cy.tb (C:cy cl H) {K:Ow} (t:TB K H):TB K (BS.hid cl H):=t.mono (fun P ps e=>C.hid e rfl) fun a o vs d e=>C.hid e (by simp[kq,d])
theorem cy.rh (C:cy cl H) {K:Ow}{m:List Addr}{h:BT.HH} (R:RH K m H h):RH K m (BS.hid cl H) h:=R.tr C.sq (fun a ha=>by
 obtain ⟨o,e,z⟩:=R.mu ha
 rw[e];exact C.hid e (by cases o<;>first | rfl | cases z)) (C.tb R.tb)
theorem F7 (N:∀ x c,cl.lookup x=some c->H' c=none):Le H' (ret cl H H'):=fun a u e=>by
 rw[fq (fun ⟨x,q⟩=>by rw[N x a q] at e;cases e)];exact e
theorem cy.F8 (C:cy cl H) (N:∀ x c,cl.lookup x=some c->H' c=none) {K:Ow}{m m':List Addr}{h':BT.HH} (x:Ext m (BS.hid cl H) m' H') (R:RH K m' H' h'):Ext m H m' (ret cl H H'):=by
 obtain ⟨e,hm,he⟩:=x.pre
 refine ⟨⟨e,hm,fun a ha=>?_⟩,fun a o h n t=>?_,fun a h=>?_⟩
 ·have z:=he a ha
  have hne:¬ ∃ y,cl.lookup y=some a:=fun ⟨y,q⟩=>by
   obtain ⟨o,e1,_⟩:=R.mu (a:=a) (by rw[hm];exact O7 _ ha)
   rw[N y a q] at e1;cases e1
  rw[dG hne] at z;exact z
 ·by_cases c:∃ y,cl.lookup y=some a
  ·obtain ⟨y,q⟩:=c;rw[oi q];exact h
  ·rw[fq c];exact x.keep a o (by rw[dG c];exact h) n t
 ·by_cases c:∃ y,cl.lookup y=some a
  ·obtain ⟨y,q⟩:=c;rw[oi q] at h;exact h
  ·rw[fq c] at h;have z:=x.live a h;rw[dG c] at z;exact z
end
theorem f7.get {m:List Addr}{H:Hp}{cl:List (Str×Addr)}{fs:List Str}{vs:List V} (r:f7 m H cl fs vs):∀ {i:Nat}{x:Str},fs[i]?=some x->∃ c o u v,cl.lookup x=some c/\Tr m H c o/\o.data=.cell (some u)/\vs[i]?=some v/\RelV v u:=by
 induction r with
 | nil=>intro i x e;simp at e
 | cons h1 h2 h3 r t ih =>
  intro i x e
  cases i with
  | zero=>simp at e;subst e;exact ⟨_,_,_,_,h1,h2,h3,rfl,r⟩
  | succ i=>simpa using ih (by simpa using e)
theorem f7.len {m:List Addr}{H:Hp}{cl:List (Str×Addr)}{fs:List Str}{vs:List V} (r:f7 m H cl fs vs):vs.length=fs.length:=by
 induction r with
 | nil=>rfl
 | cons h1 h2 h3 r t ih=>simp[ih]
theorem f7.cells {m:List Addr}{H:Hp}{cl:List (Str×Addr)}{fs:List Str}{vs:List V} (r:f7 m H cl fs vs) (hf:∀ x c,cl.lookup x=some c->x∈fs):cy cl H:=fun x c e=>by
 obtain ⟨i,hi⟩:=Po (hf x c e)
 obtain ⟨c',o,u,v,h1,h2,h3,_⟩:=r.get hi
 rw[e] at h1;cases h1
 exact ⟨o,_,h2.1,h3⟩
theorem B0 {pa:QI}{ps:List Str} (hp:LPa pa ps) {name q:Str}{be:Ox}{sc:OW}{cl:List (Str×Addr)}{pm cdv ctv:Oz}{us:List Oz} (hl:us.length=ps.length):Us (PySem.W.kla_fn name q pa be sc cl pm cdv ctv) ⟨us,[]⟩=pure (ps.zip us):=by
 cases hp with
 | one=>match us,hl with | [_],_=>rfl
 | two=>match us,hl with | [_,_],_=>rfl
theorem F9 {pa:QI}{ps:List Str} (hp:LPa pa ps) (nd:ps.Nodup) {us:List Oz} (hl:us.length=ps.length) {i:Nat}{x:Str} (e:ps[i]?=some x):∃ u,us[i]?=some u/\(ps.zip us).reverse.lookup x=some u:=by
 cases hp with
 | one =>
  match us,hl,i,e with
  | [u],_,0,e=>simp at e;subst e;exact ⟨u,rfl,by simp⟩
  | [u],_,i+1,e=>simp at e
 | two =>
  match us,hl,i,e with
  | [u,v],_,0,e =>
   simp at e;subst e
   simp at nd
   exact ⟨u,rfl,by simp[PR,beq_false_of_ne nd]⟩
  | [u,v],_,1,e=>simp at e;subst e;exact ⟨v,rfl,by simp⟩
  | [u,v],_,i+2,e=>simp at e
end BS
end
section
namespace BS
open PySem PySem.Spec PyProof.Rows L2
structure LF (ps fs:List Str) (sc:OW):Prop where
 kd:sc.kind=.function
 co:sc.isCoroutine=false
 ge:sc.isGenerator=false
 cell:∀ y∈sc.names,y.2≠.cell
 loc:∀ x∈ps,sc.names.lookup x=some .local
 fre:∀ x∈fs,sc.names.lookup x=some .free/\(x,Py)∈sc.names
 all:∀ y∈sc.names,y.2=.free->y.1∈fs
 nd:(ps++fs).Nodup
theorem lg:∀ {l:List Str},iJ l=true->l.Nodup
 | [],_=>SG
 | x :: r,h=>by
  simp only[iJ,OC,Rh] at h
  refine List.nodup_cons.mpr ⟨fun z=>?_,lg h.2⟩
  have:=h.1
  simp[z] at this
theorem JB {ps fs:List Str}{sc:OW} (h:mV ps fs sc=true):LF ps fs sc:=by
 simp only[mV,OC,Rh] at h
 obtain ⟨⟨⟨⟨⟨⟨⟨h1,h2⟩,h3⟩,h4⟩,h5⟩,h6⟩,h7⟩,h8⟩:=h
 rw[P7] at h4 h5 h6 h7
 refine ⟨eq_of_beq h1,h2,h3,fun y hy e=>?_,fun x hx=>eq_of_beq (h5 x hx),fun x hx=>?_,fun y hy e=>?_,lg h8⟩
 ·have:=h4 y hy;rw[e] at this;cases this
 ·have:=h6 x hx
  simp only[OC] at this
  exact ⟨eq_of_beq this.1,by simpa using this.2⟩
 ·have:=h7 y hy
  rw[e] at this
  simpa using this
noncomputable def yS (P:OO) (w:O6) (K:Ow) (mg:Str->Option Oz) (base:Heap) (N:List Str) (q:Str) (sc:OW) (cl:List (Str×Addr)) (f c':Addr) (A:PL) (outer:List Env) (s:OB) (H:Hp):Cx where
 prog:=P
 w:=w
 K:=K
 mg:=mg
 base:=base
 A:=A.deeper (RI q sc s.heap.objs.size f (.ref c') cl)
 N:=N
 s₀:=s
 H₀:=hid cl H
 env:=RI q sc s.heap.objs.size f (.ref c') cl
 outer:=outer
 stack:=RI q sc s.heap.objs.size f (.ref c') cl :: outer
 ex:=[]
 calm:=true
 fn:=fun _=>false
 pn:=[]
 xe:=fun _ _=>False
theorem tE {P:OO}{w:O6}{cl:List (Str×Addr)}{H:Hp}{h h1:Heap} (C:cy cl H) (ok:HOk P w H h) (k:∀ b o,h.get? b=some o->h1.get? b=some o):HOk P w (hid cl H) h1:=fun b u e=>by
 obtain ⟨e1,_⟩:=F6 e
 exact (ok b u e1).stay (fun c o _ q=>k c o q) (fun c q=>C.hid q rfl) fun c xs q=>C.hid q rfl
theorem B3 {P:OO}{w:O6}{K:Ow}{mg:Str->Option Oz}{base:Heap}{A:PL}{outer:List Env}{s:OB}{H:Hp}{f c':Addr}{us:List Oz}{vs cvs:List V}{m:List Addr}{ps fs:List Str}{pa:QI}{sc:OW}{cl:List (Str×Addr)}{q:Str}{h1:Heap}{tk:Nat}
 (hp:LPa pa ps) (F:LF ps fs sc) (inj:∀ x y c,cl.lookup x=some c->cl.lookup y=some c->x=y) (hfs:∀ x c,cl.lookup x=some c->x∈fs) (cp:f7 m H cl fs cvs) (hd:A.handled=none) (e0:lT P w K mg base A outer s H) (r:aq vs us) (hl:us.length=ps.length)
 (hns:h1.Ns s.heap.objs.size (fun y=>(ps.zip us).reverse.lookup y)) (hk1:∀ b o,s.heap.get? b=some o->h1.get? b=some o) :
 Inv (yS P w K mg base (ps++fs) q sc cl f c' A outer s H) [] (vs.map some++cvs.map some) (hid cl H) { s with heap:=h1,toks:=tk }:=by
 have C:=cp.cells hfs
 have lv:vs.length=ps.length:=r.length.trans hl
 have lc:=cp.len
 have noA:∀ b:Addr,b∉(yS P w K mg base (ps++fs) q sc cl f c' A outer s H).ex:=fun b z=>absurd (show b∈([]:List Addr) from z) (by simp)
 have cel:∀ x c,cl.lookup x=some c->∃ u,s.heap.IsCell c (some u):=fun x c e=>by
  obtain ⟨i,hi⟩:=Po (hfs x c e)
  obtain ⟨c2,o,u,v,g1,g2,g3,_⟩:=cp.get hi
  rw[e] at g1;cases g1
  exact ⟨u,o,(e0.hok _ _ g2.1).1,g3⟩
 refine ⟨⟨e0.mod,F.kd,rfl,rfl,OE _,inj,fun x hx=>?_,fun x c z=>absurd (show false=true from z) (by decide),fun _=>hd,UK e0.frames,.inr ⟨rfl,rfl⟩,fun b z=>absurd z (noA b),fun b o e=>⟨(e0.bs b o e).1,eH (e0.bs b o e).2⟩,e0.bsz,fun b _ _=>noA b,fun b z=>absurd z (noA b),e0.iC,fun b hb=>eH (e0.frf b hb)⟩,
  rfl,e0.bare,Un.kept hk1,⟨_,hns,fun i x v g1 g2 g3=>?_⟩,fun x c e=>?_,eH (e0.hok.fresh (OE _)),fun x c e=>rF e,fun p hp=>absurd (show p∈([]:List (Addr×Obj)) from hp) (by simp),tE C e0.hok hk1,?_⟩
 ·have hx:sc.names.lookup x=some .cell\/sc.names.lookup x=some .free:=hx
  rcases hx with hx | hx
  ·exact absurd rfl (F.cell _ (Qd hx))
  ·obtain ⟨i,hi⟩:=Po (F.all _ (Qd hx) rfl)
   obtain ⟨c,_,_,_,g1,_⟩:=cp.get hi
   exact ⟨c,g1⟩
 ·have g1:(ps++fs)[i]?=some x:=g1
  by_cases c:i < ps.length
  ·rw[OH c] at g1
   rw[OH (by simpa [lv] using c),O2] at g2
   obtain ⟨u,g4,g5⟩:=F9 hp (F.nd.sublist (List.sublist_append_left _ _)) hl g1
   obtain ⟨v',g6,g7⟩:=Option.map_eq_some_iff.mp g2
   cases g7
   obtain ⟨u',g8,rv⟩:=r.get g6
   rw[g4] at g8;cases g8
   exact ⟨u,rv,.inl ⟨F.loc x (OM g1),g5⟩⟩
  ·rw[OU (by omega)] at g1
   rw[OU (by simp[lv];omega),O2] at g2
   simp only[OQ,lv] at g2
   obtain ⟨c2,o,u,v2,k1,k2,k3,k4,k5⟩:=cp.get g1
   rw[k4] at g2
   cases g2
   exact ⟨u,k5,.inr ⟨.inr (F.fre x (OM g1)).1,c2,k1,o,hk1 _ _ (e0.hok _ _ k2.1).1,k3⟩⟩
 ·obtain ⟨u,o,z1,z2⟩:=cel x c e
  exact ⟨some u,o,hk1 _ _ z1,z2⟩
 ·show _=(ps++fs).length
  simp[lv,lc]
section
variable {F:FT}{G:Str->Option BT.W}
theorem vH {o:Option (Option BT.W)}{ws:List BT.W}{h:BT.HH}{r:BT.W×BT.HH} (e:BT.nL F o ws h=some r):∃ k cs,o=some (some (.c k cs))/\BT.noC ws=true/\F k (ws++cs.map BT.Cp.w) h=some r:=by
 unfold BT.nL at e
 split at e
 ·rename_i k cs
  split at e
  ·rename_i c;exact ⟨k,cs,rfl,c,e⟩
  ·cases e
 ·cases e
theorem gr.fnAt {P:OO}{w:O6}{m:List Addr}{H:Hp}{f:Addr}{L:Nat}{vs:List V}{h:Heap} (l:gr m H f L vs) (ok:HOk P w H h):PySem.W.FnAt f h:=by
 obtain ⟨bt,ps,fs,pa,be,sc,cl,pm,ctv,c',oc,os,t,ql,h0,h1,h2,h3,h4,h5,h6,_⟩:=l
 exact ⟨_,_,_,_,(ok _ _ h6.1).1⟩
theorem Post.ext {P:OO}{w:O6}{K:Ow}{m m':List Addr}{H H':Hp}{z:BT.W}{h':BT.HH}{Q:VK} (p:Post P w K m H z h' Q) (x:Ext m H m' H'):Post P w K m' H' z h' Q:=fun v H2 m2 y R r=>p v H2 m2 (x.trans y) R r
theorem yT {X:Cx}{sc:OW}{N:List Str} (O:Ok X F G sc N) {i:Nat}{x:Str}{as:BT.Es}{e:Ox}{es:List Ox}{np pos:Pos} (h1:N[i]?=some x) (h2:jZ sc x=true) (h3:cu x=true) (hc:CEs sc N as (e :: es)) (ha:PA X (e :: es) (tDs X F G as)) :
 PE X (.Call (.Name x np) (e :: es) [] pos) (tD X F G (.callv i x as)):=by
 have hst:=c9 hc
 simp only[av,OC] at hst
 intro pins s σ H Q I q
 obtain ⟨m,s',h,z,h',R,S,ee,post⟩:=q
 simp only[BT.ev] at ee
 obtain ⟨ws,g,e1,e2⟩:=ak ee
 obtain ⟨k,cs,k1,k2,k3⟩:=vH e2
 obtain ⟨v,hv,rv⟩:=S.get i _ k1
 obtain ⟨d1,d2,_⟩:=dJ h3
 refine Qu ?_
 refine thn (wA (i:=i) (by rw[O.hN];exact h1) (yG O h2) d1 d2 pins s σ H (fun v2 H2=>v2=v/\H2=H) I ⟨v,hv,rfl,rfl⟩) fun u s1 ⟨v2,H2,I2,r2,ev,eh⟩=>?_
 subst ev eh
 have hA:tDs X F G as σ H2 (fun vs2 H3=>∃ m3,Ext m H2 m3 H3/\RH X.K m3 H3 g/\RWs X.prog X.w X.K m3 H3 vs2 ws):=⟨m,s',h,ws,g,R,S,e1,fun vs2 H3 m3 x3 R3 r3=>⟨m3,x3,R3,r3⟩⟩
 cases rv with
 | @c f L cvs _ hL rc =>
  obtain rfl:u=.ref f:=r2
  refine PySem.W.callWith_F (hL.fnAt I2.hok) (thn (ha pos pins s1 σ H2 _ I2 hA) fun us s2 ⟨vs2,H3,I3,r3,m3,x3,R3,w3⟩=>⟨(hL.ext x3).fnAt I3.hok,?_⟩) (ah hst.1) (aH hst.2)
  obtain ⟨k,hr,lo⟩:=O.lam _ _ _ _ k3
  refine Sn (codeAny_mono (lo X.A X.stack s2 H3 f us vs2 cvs m3 ws cs g z h' Q E0 hr I3.EK r3 R3 w3 k2 (hL.ext x3) (rc.ext x3) k3 (post.ext x3)) fun r s' hq=>?_)
  cases r with
  | error e=>exact Pn hq
  | ok fl =>
   cases fl with
   | ret u=>exact I3.after hq
   | next=>exact Pn hq
   | brk=>exact Pn hq
   | cont=>exact Pn hq
 | @g f x' hn hk =>
  obtain rfl:u=.ref f:=r2
  have k3':F (.f x') ws g=some (z,h'):=by simpa using k3
  obtain ⟨fa,fd,ps,k,hm,_,hb,hr,ok⟩:=O.call _ _ _ _ k3'
  have hm':=Qx I2.ok.mod.kin I2.ok.mod.glob hn
  rw[hm] at hm'
  cases hm'
  refine Q2 (h₀:=X.base) I2.ok.mod.kin hk (thn (ha pos pins s1 σ H2 _ I2 hA) fun us s2 ⟨vs2,H3,I3,r3,m3,x3,R3,w3⟩=>⟨I3.kIn,?_⟩) (ah hst.1) (aH hst.2)
  refine kK (E:=E0) ok hr hb .nil kN I3 r3 ?_
  rw[Pk]
  exact ⟨m3,ws,g,z,h',R3,w3,k3',post.ext x3⟩
end
end BS
end
section
namespace BS
open PySem PySem.Spec PyProof.Rows L2
structure vI (K:Ow) (J:It) (m0:List Addr) (H0:Hp) (ds:List BT.D):Prop where
 go:∀ m H (i:Nat),Ext m0 H0 m H->i < ds.length->J.go i H
 yld:∀ m H h (i:Nat) x H' d,Ext m0 H0 m H->RH K m H h->ds[i]?=some d->J.yld i H x H'->Ext m H m H'/\Le H H'/\RD K m H' x d
 stop:∀ m H,Ext m0 H0 m H->J.stop ds.length H
noncomputable def Itv (K:Ow) (a:Addr) (n:Nat):It :=
 ⟨fun i H=>i < n/\∃ xs,SqL K H a xs/\xs.length=n,fun i H x H'=>H'=H/\∀ xs,SqL K H a xs->xs[n - 1 - i]?=some x,fun i H=>i=n⟩
theorem yU {P:OO}{w:O6}{K:Ow}{tg:Ox} (a it:Addr) (n:Nat):Turn P w K tg (Itv K a n) [it] it (fun i h=>h.IsRevIter it a ((n:Int) - 1 - i)) where
 mem:=by simp
 obj:=fun i h st b hb=>by
  have e:b=it:=by simpa using hb
  subst e
  obtain ⟨o,e,c,d⟩:=st
  exact ⟨o,e,fun v z=>by rw[d] at z;cases z⟩
 keep:=fun i h h' st k=>st.at fun o e=>k it (by simp) o e
 item:=by
  intro X hP hw hK hc i pins s σ H E I hf st hg
  subst hP hw hK
  obtain ⟨hi,xs,hq,hx⟩:=hg
  obtain ⟨its,rv,p,hz⟩:=I.list hq
  have hl:=rv.length
  have hj:n - 1 - i < xs.length:=by omega
  obtain ⟨u,hu,ru⟩:=rv.get (OF hj)
  obtain ⟨f0,f1,f2,f3,f4,f5⟩:=hf it (by simp)
  have ei:((n:Int) - 1 - (i:Int))=(((n - 1 - i:Nat)):Int):=by omega
  have st':s.heap.IsRevIter it a (((n - 1 - i:Nat)):Int):=by rw[← ei];exact st
  refine wpAny_pyNext_rev_item st' p.isList (x:=u) (by simpa using hu) fun h' st'' sb=>?_
  have I1:Inv X pins σ H { s with heap:=h' }:=I.turned (t':=s.toks) (fun b o hb e=>(sb.2 b hb).trans e) f0 f1 f3 f4 f5
  obtain ⟨o,e,c,d⟩:=id st''
  refine ⟨u,rfl,r8 (s:={ s with heap:=h' }) e c d (by decide) ⟨_,H,I1,ru,⟨rfl,fun ys hy=>by rw[I.o6 hy hq];exact OF hj⟩,?_,fun b hb=>(hf b hb).1⟩⟩
  have e2:(((n - 1 - i:Nat)):Int) - 1=(n:Int) - 1 - ((i+1:Nat):Int):=by omega
  rw[e2] at st''
  exact st''
 done:=by
  intro X hP hw hK hc i pins s σ H E I hf st hg
  subst hP hw hK
  have hg:i=n:=hg
  subst hg
  obtain ⟨f0,f1,f2,f3,f4,f5⟩:=hf it (by simp)
  have e1:(i:Int) - 1 - (i:Int)=-1:=by omega
  have st':s.heap.IsRevIter it a (-1):=by rw[← e1];exact st
  exact wpAny_pyNext_rev_end (I.ok.hd hc) st' fun h' eb=>⟨rfl,I.turned (t':=s.toks) (fun b o hb e=>eb b o hb e) f0 f1 f3 f4 f5⟩
 self:=fun _ _ _ _ _ st h=>Tc st h
theorem Inv.B4 {X:Cx}{pins:List (Addr×Obj)}{σ:L2.St}{H H':Hp}{s:OB}{h':Heap}{fp:List Addr}{tk:Nat} (I:Inv X pins σ H s) (hf:∀ b∈fp,lR X pins H b)
 (k:∀ b o,b∉fp->s.heap.get? b=some o->h'.get? b=some o) (hs:∀ b,b < s.heap.objs.size->H' b=H b) (hok:HOk X.prog X.w H' h'):Inv X pins σ H' { s with heap:=h',toks:=tk }:=by
 have hlt:∀ b u,H b=some u->H' b=some u:=fun b u e=>by rw[hs b (I.hok.lt e)];exact e
 refine I.step (g':=s.gens) (d':=s.drawn) (ch:=fp) (fun b hb=>?_) (fun b o _ _ hc e _=>k b o hc e) (fun b o _ _ hc e _=>⟨o.slots,k b o hc e⟩) (fun b o _ e n=>by rw[hs b (OG e)];exact n)
  (fun b o hc e=>⟨o,k b o hc e⟩) (fun b xs e=>hlt b _ e) (fun b o u e=>hlt b _ e) (fun b ps e=>⟨#[],by rw[hlt b _ e];simp⟩) (fun m hm=>?_) hok I.bare
 ·obtain ⟨_,f1,_,f3,f4,f5⟩:=hf b hb
  exact ⟨f3,f1,f4,f5⟩
 ·obtain ⟨o,es,ep,ho,r⟩:=hm
  exact ⟨o,es,ep,k _ o (fun z=>(hf _ z).2.1 rfl) ho,r⟩
noncomputable def iD (X:Cx) (F:FT) (G:Str->Option BT.W) (sr:BT.Sr) (sa:BT.Es):TI:=fun σ H R =>
 ∃ m s h ws h' ds,RH X.K m H h/\RS X.prog X.w X.K m H σ s/\BT.evs F G sa s h=some (ws,h')/\(BT.rds ws h').bind (BT.dH sr)=some ds/\BT.f6 ws=true ∧
  ∀ H' m' J,Ext m H m' H'->RH X.K m' H' h'->vI X.K J m' H' ds->R J H'
theorem PI.weak {X:Cx}{tg e:Ox}{t t':TI} (h:PI X tg e t) (q:∀ σ H R,t' σ H R->t σ H R):PI X tg e t':=fun pins s σ H R I hw=>h pins s σ H R I (q _ _ _ hw)
section
variable {F:FT}{G:Str->Option BT.W}
theorem B5 {K:Ow}{m0:List Addr}{H0:Hp}{a:Addr}{vs:List V}{ds:List BT.D} (h:(Rd H0 a (.lst vs)/\a∉m0)\/KL K a vs) (r:RDs K m0 H0 vs ds):vI K (Itl K a) m0 H0 ds:=by
 have k:∀ {m H},Ext m0 H0 m H->SqL K H a vs:=fun x=>LL.sq (h.elim (fun q=>.inl (Rd.ext x q.1 q.2).1) .inr)
 refine ⟨fun m H i x hi=>?_,fun m H hh i v H' d x RR hd y=>?_,fun m H x=>⟨vs,k x,by rw[r.length];exact OE _⟩⟩
 ·exact ⟨vs,_,k x,OF (by rw[r.length];exact hi)⟩
 ·obtain ⟨rfl,y⟩:=y
  obtain ⟨u,h1,h2⟩:=(r.ext x).get hd
  have:=y vs (k x)
  rw[h1] at this
  cases this
  exact ⟨.refl _ _,fun _ _ e=>e,h2⟩
theorem Ga {K:Ow}{m0:List Addr}{H0:Hp}{a:Addr}{vs:List V}{ds:List BT.D} (h:(Rd H0 a (.tup vs)/\a∉m0)\/KT K a vs) (r:RDs K m0 H0 vs ds):vI K (Itt K a) m0 H0 ds:=by
 have k:∀ {m H},Ext m0 H0 m H->SqT K H a vs:=fun x=>h.elim (fun q=>.inl (Rd.ext x q.1 q.2).1) fun ⟨o,its,n,q,_⟩=>.inr ⟨o,its,n,q⟩
 refine ⟨fun m H i x hi=>?_,fun m H hh i v H' d x RR hd y=>?_,fun m H x=>⟨vs,k x,by rw[r.length];exact OE _⟩⟩
 ·exact ⟨vs,_,k x,OF (by rw[r.length];exact hi)⟩
 ·obtain ⟨rfl,y⟩:=y
  obtain ⟨u,h1,h2⟩:=(r.ext x).get hd
  have:=y vs (k x)
  rw[h1] at this
  cases this
  exact ⟨.refl _ _,fun _ _ e=>e,h2⟩
theorem Gb {K:Ow}{m0:List Addr}{H0:Hp}{a:Addr}{vs:List V}{ds:List BT.D} (h:(Rd H0 a (.lst vs)/\a∉m0)\/KL K a vs) (r:RDs K m0 H0 vs ds):vI K (Itv K a ds.length) m0 H0 ds.reverse:=by
 have k:∀ {m H},Ext m0 H0 m H->SqL K H a vs:=fun x=>LL.sq (h.elim (fun q=>.inl (Rd.ext x q.1 q.2).1) .inr)
 refine ⟨fun m H i x hi=>?_,fun m H hh i v H' d x RR hd y=>?_,fun m H x=>by show ds.reverse.length=ds.length;simp⟩
 ·exact ⟨by simpa using hi,vs,k x,r.length⟩
 ·obtain ⟨rfl,y⟩:=y
  have hi:i < ds.length:=by
   have:=getD_some hd
   simpa using this
  have hd':ds[ds.length - 1 - i]?=some d:=by
   rw[UN hi] at hd
   exact hd
  obtain ⟨u,h1,h2⟩:=(r.ext x).get hd'
  have:=y vs (k x)
  rw[h1] at this
  cases this
  exact ⟨.refl _ _,fun _ _ e=>e,h2⟩
theorem yV {K:Ow}{m0:List Addr}{H0:Hp} (lo:Int) (n:Nat):vI K (Itr lo n) m0 H0 (BT.upto lo n):=by
 have hl:(BT.upto lo n).length=n:=by simp[BT.upto]
 refine ⟨fun m H i x hi=>by rw[hl] at hi;exact hi,fun m H hh i v H' d x RR hd y=>?_,fun m H x=>by rw[hl];exact OE n⟩
 obtain ⟨rfl,rfl⟩:=y
 have:d=.int (lo+i):=by
  have hi:i < n:=by
   have:=getD_some hd
   rw[hl] at this
   exact this
  simp only[BT.upto,O2] at hd
  rw[QB hi] at hd
  simpa using hd.symm
 subst this
 exact ⟨.refl _ _,fun _ _ e=>e,.int _⟩
theorem tF:∀ {ws:List BT.W},BT.f6 ws=true->∃ ds:List BT.D,ws=ds.map BT.W.p:=by
 intro ws
 induction ws with
 | nil=>exact fun _=>⟨[],rfl⟩
 | cons w ws ih =>
  intro h
  cases w with
  | p d =>
   obtain ⟨ds,rfl⟩:=ih h
   exact ⟨d :: ds,rfl⟩
  | _=>cases h
theorem yW (h:BT.HH) (ds:List BT.D):BT.rds (ds.map BT.W.p) h=some ds:=by
 induction ds with
 | nil=>rfl
 | cons d ds ih =>
  show (BT.rds (ds.map BT.W.p) h).map (d :: ·)=_
  rw[ih];rfl
theorem yX {ws:List BT.W}{h:BT.HH}{sr:BT.Sr}{ds:List BT.D} (hs:sr=.seq\/sr=.rev\/sr=.rng1) (e:(BT.rds ws h).bind (BT.dH sr)=some ds) (ha:BT.f6 ws=true):∃ d,ws=[.p d]/\BT.dH sr [d]=some ds:=by
 obtain ⟨xs,rfl⟩:=tF ha
 rw[yW,Ql] at e
 cases xs with
 | nil=>rcases hs with rfl | rfl | rfl<;>cases e
 | cons d xs =>
  cases xs with
  | nil=>exact ⟨d,rfl,e⟩
  | cons d2 xs=>rcases hs with rfl | rfl | rfl<;>cases d<;>cases e
theorem tG {a:BT.E}{s:BT.Sl}{h h':BT.HH}{ws:List BT.W} (e:BT.evs F G (.cons a .nil) s h=some (ws,h')):∃ w,ws=[w]/\BT.ev F G a s h=some (w,h'):=by
 simp only[BT.evs] at e
 obtain ⟨w,g,e1,e2⟩:=ak e
 simp only[BT.kT,BT.aZ,BT.iH] at e2
 cases e2
 exact ⟨w,rfl,e1⟩
theorem tH {X:Cx}{tg x:Ox}{a:BT.E} (he:PE X x (tD X F G a)):PI X tg x (iD X F G .seq (.cons a .nil)):=by
 intro pins s σ H R I q
 obtain ⟨m,s',h,ws,h',ds,RR,S,e,e2,ha,post⟩:=q
 obtain ⟨d,rfl,e3⟩:=yX (.inl rfl) e2 ha
 obtain ⟨w,ew,e4⟩:=tG e
 cases ew
 rw[BT.xP] at e3
 cases d<;>simp only[BT.nH] at e3<;>try contradiction
 ·cases e3
  refine Ew he pins s σ H R I ⟨m,s',h,_,h',RR,S,e4,fun v H1 m1 x1 R1 r1=>?_⟩
  cases r1 with
  | p r1 =>
   cases r1 with
   | @tup a vs _ h r=>exact ⟨a,rfl,⟨vs,h.elim (fun q=>.inl q.1) fun ⟨o,its,n,q,_⟩=>.inr ⟨o,its,n,q⟩⟩,post H1 m1 _ x1 R1 (Ga h r)⟩
 ·cases e3
  refine AM he pins s σ H R I ⟨m,s',h,_,h',RR,S,e4,fun v H1 m1 x1 R1 r1=>?_⟩
  cases r1 with
  | p r1 =>
   cases r1 with
   | @lst a vs _ h r=>exact ⟨a,rfl,⟨vs,LL.sq (h.elim (fun q=>.inl q.1) .inr)⟩,post H1 m1 _ x1 R1 (B5 h r)⟩
theorem pY {X:Cx}{sc:OW}{N:List Str} (O:Ok X F G sc N) {tg e:Ox}{sa:BT.Es}{p pos:Pos} (hg:aF sc "range"=true) (hs:noStar e=true) (ha:PA X [e] (tDs X F G sa)):PI X tg (.Call (.Name "range" p) [e] [] pos) (iD X F G .rng1 sa):=by
 refine PI.weak (uU (aT O hg) (O.blt _ (by decide)) ha (ah hs)) fun σ H R q=>?_
 obtain ⟨m,s',h,ws,h',ds,RR,S,e,e2,ha,post⟩:=q
 obtain ⟨d,rfl,e3⟩:=yX (.inr (.inr rfl)) e2 ha
 refine ⟨m,s',h,_,h',RR,S,e,fun vs H1 m1 x1 R1 r1=>?_⟩
 obtain ⟨j,rfl⟩:∃ j:Int,d=.int j:=by
  cases d with
  | int j=>exact ⟨j,rfl⟩
  | _=>exact absurd (show (none:Option (List BT.D))=some _ from e3) (fun z=>nomatch z)
 rw[BT.bI] at e3
 split at e3
 ·rename_i c
  simp only[OC,decide_eq_true_eq] at c
  cases e3
  cases r1 with
  | cons r t =>
   cases t
   cases r with
   | p r =>
    cases r
    exact ⟨j,rfl,by omega,by omega,post H1 m1 _ x1 R1 (yV 0 j.toNat)⟩
 ·cases e3
theorem JC {ws:List BT.W}{h:BT.HH}{ds:List BT.D} (e:(BT.rds ws h).bind (BT.dH .rng2)=some ds) (ha:BT.f6 ws=true):∃ i j:Int,ws=[.p (.int i),.p (.int j)]/\(-100000<=i/\i<=100000/\-100000<=j/\j<=100000)/\ds=BT.upto i (j - i).toNat:=by
 obtain ⟨xs,rfl⟩:=tF ha
 rw[yW,Ql] at e
 have hx:∃ i j:Int,xs=[.int i,.int j]:=by
  match xs,e with
  | [.int i,.int j],_=>exact ⟨i,j,rfl⟩
 obtain ⟨i,j,rfl⟩:=hx
 rw[BT.gS] at e
 split at e
 ·rename_i c
  simp only[OC,decide_eq_true_eq] at c
  cases e
  exact ⟨i,j,rfl,⟨c.1.1.1,c.1.1.2,c.1.2,c.2⟩,rfl⟩
 ·cases e
theorem pZ {X:Cx}{sc:OW}{N:List Str} (O:Ok X F G sc N) {tg x y:Ox}{sa:BT.Es}{p pos:Pos} (hg:aF sc "range"=true) (hs:noStar x=true) (hs2:noStar y=true) (ha:PA X [x,y] (tDs X F G sa)):PI X tg (.Call (.Name "range" p) [x,y] [] pos) (iD X F G .rng2 sa):=by
 refine PI.weak (uV (aT O hg) (O.blt _ (by decide)) ha (by rw[ah hs,ah hs2];rfl) (by rw[ah hs2];rfl)) fun σ H R q=>?_
 obtain ⟨m,s',h,ws,h',ds,RR,S,e,e2,ha,post⟩:=q
 obtain ⟨i,j,rfl,c,rfl⟩:=JC e2 ha
 refine ⟨m,s',h,_,h',RR,S,e,fun vs H1 m1 x1 R1 r1=>?_⟩
 cases r1 with
 | cons r t =>
  cases t with
  | cons r2 t2 =>
   cases t2
   cases r with
   | p r =>
    cases r
    cases r2 with
    | p r2 =>
     cases r2
     exact ⟨i,j,rfl,⟨by omega,by omega,by omega,by omega⟩,post H1 m1 _ x1 R1 (yV i (j - i).toNat)⟩
theorem tK {X:Cx}{sc:OW}{N:List Str} (O:Ok X F G sc N) {tg e:Ox}{a:BT.E}{p pos:Pos} (hg:aF sc "reversed"=true) (hs:noStar e=true) (he:PE X e (tD X F G a)):PI X tg (.Call (.Name "reversed" p) [e] [] pos) (iD X F G .rev (.cons a .nil)):=by
 intro pins s σ H R I q
 obtain ⟨m,s',h,ws,h',ds,RR,S,e,e2,ha,post⟩:=q
 obtain ⟨d,rfl,e3⟩:=yX (.inr (.inl rfl)) e2 ha
 obtain ⟨w,ew,e4⟩:=tG e
 cases ew
 obtain ⟨xs,rfl⟩:∃ xs:List BT.D,d=.lst xs:=by
  cases d with
  | lst xs=>exact ⟨xs,rfl⟩
  | _=>exact absurd (show (none:Option (List BT.D))=some _ from e3) (fun z=>nomatch z)
 ·cases e3
  refine Call_ (cV (u:=.type "reversed") I (aT O hg) (O.blt _ (by decide)) (by decide +kernel) (O5 (thn (gP he ny (ah hs) pos pins s σ H (fun vs H1=>∃ a vt,vs=[.ref a]/\∃ m1,Ext m H m1 H1/\RH X.K m1 H1 h'/\((Rd H1 a (.lst vt)/\a∉m1)\/KL X.K a vt)/\RDs X.K m1 H1 vt xs) I ?_) fun us s1 ⟨vs,H1,I1,r1,q1⟩=>?_) (ah hs) rfl))
  ·refine ⟨m,s',h,_,h',RR,S,e4,fun v H1 m1 x1 R1 r1=>?_⟩
   cases r1 with
   | p r1 =>
    cases r1 with
    | @lst a vt _ hh r=>exact ⟨a,vt,rfl,m1,x1,R1,hh,r⟩
  ·obtain ⟨a,vt,rfl,m1,x1,R1,hh,r⟩:=q1
   obtain ⟨u,rfl,ru⟩:=vals1 r1
   cases ru
   obtain ⟨z,its,nn,rv,hl,ee⟩:=rdL I1 (hh.elim (fun q=>.inl q.1) .inr)
   have hL:s1.heap.IsList a its.toArray:=⟨_,ee,rfl,_,rfl⟩
   have hlen:=r.length
   refine call_reversed_list hL ?_
   have stt:({ s1 with heap:=s1.heap.push (revObj a ((its.toArray.size:Int) - 1)) }:OB).heap.IsRevIter s1.heap.objs.size a ((xs.length:Int) - 1 - ((0:Nat):Int)):=by
    refine ⟨_,OI _ rfl,rfl,?_⟩
    show Data.fields #[.ref a,QH ((its.toArray.size:Int) - 1)]=_
    rw[OD,← hl,hlen]
    simp
   refine Tc stt ?_
   refine ⟨s1.heap.objs.size,[s1.heap.objs.size],_,_,H1,rfl,I1.kept (t':=s1.toks) fun b o e=>OA _ e,yU a _ xs.length,stt,fun b hb=>?_,post H1 m1 _ x1 R1 (Gb hh r)⟩
   have e:b=s1.heap.objs.size:=by simpa using hb
   subst e
   exact I1.AL (OE _) (I1.hok.fresh (OE _))
end
end BS
end
section
namespace BS
open PySem PySem.Spec PyProof.Rows L2
section
variable {P:OO}{w:O6}{K:Ow}{m m':List Addr}{H H':Hp}
theorem RKs.length {vs:List (Key×V)}{kvs:List (BT.Ky×BT.D)} (r:RKs K m H vs kvs):vs.length=kvs.length:=by
 induction r with
 | nil=>rfl
 | cons _ _ _ ih=>simp[ih]
theorem RKs.any {vs:List (Key×V)}{kvs:List (BT.Ky×BT.D)} (r:RKs K m H vs kvs) (k:Key):(vs.any fun kv=>decide (kv.1=k))=kvs.any fun kv=>decide (kv.1=k):=by
 induction r with
 | nil=>rfl
 | cons _ _ _ ih=>rw[Rz,Rz,ih]
theorem RKs.snoc {vs:List (Key×V)}{kvs:List (BT.Ky×BT.D)} (r:RKs K m H vs kvs) (k:Key) {v:V}{d:BT.D} (hk:RD K m H (kV k) (BT.qY k)) (q:RD K m H v d):RKs K m H (vs++[(k,v)]) (kvs++[(k,d)]):=by
 induction r with
 | nil=>exact .cons hk q .nil
 | cons h r _ ih=>exact .cons h r ih
theorem RKs.repl {vs:List (Key×V)}{kvs:List (BT.Ky×BT.D)} (r:RKs K m H vs kvs) (k:Key) {v:V}{d:BT.D} (q:RD K m H v d):RKs K m H (vs.map fun kv=>if kv.1=k then (kv.1,v) else kv) (kvs.map fun kv=>if kv.1=k then (kv.1,d) else kv):=by
 induction r with
 | nil=>exact .nil
 | @cons j v1 d1 vs kvs hk r t ih =>
  rw[O0,O0]
  by_cases c:j=k
  ·rw[if_pos c,if_pos c];exact .cons hk q ih
  ·rw[if_neg c,if_neg c];exact .cons hk r ih
theorem RKs.put {vs:List (Key×V)}{kvs:List (BT.Ky×BT.D)} (r:RKs K m H vs kvs) (k:Key) {v:V}{d:BT.D} (hk:RD K m H (kV k) (BT.qY k)) (q:RD K m H v d):RKs K m H (putK vs k v) (BT.jX kvs k d):=by
 unfold putK BT.jX
 rw[r.any k]
 split
 ·exact r.repl k q
 ·exact r.snoc k hk q
theorem Gc {v:V}{d:BT.D}{k:Key} (r:RD K m H v d) (e:BT.lX d=some k):v=kV k:=by
 cases r<;>cases e<;>rfl
theorem Gd {v:V}{d:BT.D}{k:Key} (r:RD K m H v d) (e:BT.lX d=some k):RD K m H (kV k) (BT.qY k):=by
 cases r with
 | int i=>cases e;exact .int i
 | str x h=>cases e;exact .str x h
 | _=>cases e
end
section
variable {X:Cx}{F:FT}{G:Str->Option BT.W}
theorem B6 {p:Pos}:PE X (.Dict [] [] p) (tD X F G .dnew):=by
 intro pins s σ H Q I q
 obtain ⟨m,sl,h,z,h',R,S,ee,post⟩:=q
 simp only[BT.ev] at ee
 cases ee
 have hp:H s.heap.objs.size=none:=I.hok.fresh (OE _)
 refine wpAny_Dict_empty ⟨.ref s.heap.objs.size,_,I.laid (a:=s.heap.objs.size) (o:=.dK []) (t':=s.toks) (fun _ _ q=>OA _ q) (OE _) (xr s.heap I.big),rfl,?_⟩
 refine post _ _ (m++[s.heap.objs.size]) (gw hp) (R.Fw hp ⟨[],aB,.nil⟩) (.r ?_)
 rw[← R.len];simp
noncomputable def D0:V->V->V->Hp->(Hp->Prop)->Prop:=fun o i v H Q=>∃ p kvs k,o=.ref p/\i=kV k/\H p=some (.dK kvs)/\kvs.length < sizeLine/\Q (upd H p (.dK (putK kvs k v)))
theorem set_dict:Eo X D0:=by
 intro pins s σ H o i v ov iv u Q I ro ri rv q
 obtain ⟨a,kvs,k,rfl,rfl,e,l,q⟩:=q
 cases ro
 obtain ⟨z,hd,vs,rel,dd⟩:=xq I.hok e
 have hz:vs.length<=sizeLine:=by rw[← rel.length];exact z
 have hl:(putK kvs k v).length<=sizeLine:=by have:=pG kvs k v;omega
 refine wpAny_setItem_pairs (hsz:=hz) (IB ri) dd fun h' dd' hs=>⟨_,?_,q⟩
 have he:∃ q,h'.get? a=some q:=let ⟨q,_,_,hq,_⟩:=dd';⟨q,hq⟩
 exact Bc I (by rw[e];exact RY) hs he (EV hl hd (rel.put k rv) dd')
end
section
variable {prog:OO}{w:O6}{A:PL}{E:Oz->OB->Prop}{s:OB}
theorem p5 {v:Oz}{Q:Oz->OB->Prop} (hc:wpAny (OY prog w) A.in1 (collect v) (fun vs s1=>vs.length<=sizeLine/\wpAny (OY prog w) A.in1.in1 (Builtin.«list.sort» { pos:=[.ref s1.heap.objs.size] }) (fun fin s2=>∃ u,fin=.done (.ret u)/\Q (.ref s1.heap.objs.size) s2) E
 { s1 with heap:=s1.heap.push (seqObj "list" vs.toArray 0) }) E s):wpAny (OY prog w) A (call (.builtin "sorted") [v]) Q E s:=by
 refine Calls.call_function_entry kind_sorted plain_sorted entry_sorted (args_sorted1 v) ?_
 show wpAny _ _ (Builtin.sorted { pos:=[v] }) _ _ s
 unfold Builtin.sorted
 refine wpAny_bind (wpAny_pure ?_)
 refine wpAny_bind (wpAny_mono hc (fun vs s1 h1=>?_) fun _ _ x=>x)
 obtain ⟨hz,h1⟩:=h1
 simp only[newList]
 refine wpAny_bind (Pf ?_ (by first | size_fits | (rw[OD];exact hz) | exact hz))
 refine wpAny_bind (PU (Q7 slot_list_sort ⟨_,OI _ rfl,rfl⟩ entry_list_sort ?_ (args_list_sort _)))
 refine wpAny_mono h1 (fun fin s2 q=>?_) fun _ _ x=>x
 obtain ⟨u,rfl,q⟩:=q
 exact ⟨u,rfl,wpAny_pure ⟨_,rfl,q⟩⟩
end
noncomputable def hpk (H:Hp) (n S:Addr) (bs as:List Addr) (ps:List (Key×V)):Hp:=fun b=>if b < n then H b else if b=S then some (.lst (bs.map V.ref)) else ((as.zip ps).lookup b).map fun p=>HO.tup [kV p.1,p.2]
theorem vJ {α:Type}{as:List Addr}{ps:List α}{b:Addr}{p:α} (h:(as.zip ps).lookup b=some p):∃ j:Nat,as[j]?=some b/\ps[j]?=some p:=by
 induction as generalizing ps with
 | nil=>cases h
 | cons a as ih =>
  cases ps with
  | nil=>cases h
  | cons q ps =>
   rw[Vk,PR] at h
   by_cases e:b=a
   ·subst e
    simp at h
    subst h
    exact ⟨0,rfl,rfl⟩
   ·rw[beq_eq_false_iff_ne.mpr e] at h
    obtain ⟨j,h1,h2⟩:=ih h
    exact ⟨j+1,by simpa using h1,by simpa using h2⟩
theorem yY {α:Type}{as:List Addr}{ps:List α} (hr:as.Pairwise (· < ·)) {j:Nat}{b:Addr}{p:α} (h1:as[j]?=some b) (h2:ps[j]?=some p):(as.zip ps).lookup b=some p:=by
 induction as generalizing ps j with
 | nil=>simp at h1
 | cons a as ih =>
  cases ps with
  | nil=>simp at h2
  | cons q ps =>
   rw[Vk,PR]
   cases j with
   | zero=>simp at h1 h2;subst h1 h2;simp
   | succ j =>
    simp at h1 h2
    have hb:=OM h1
    rw[List.pairwise_cons] at hr
    have ne:b≠a:=QA (hr.1 b hb)
    rw[beq_eq_false_iff_ne.mpr ne]
    exact ih hr.2 h1 h2
theorem mY {K:Ow}{m:List Addr}{H:Hp}:∀ {as:List Addr}{vs:List (Key×V)}{kvs:List (BT.Ky×BT.D)},as.length=vs.length->RKs K m H vs kvs →
 (∀ (j:Nat) a p,as[j]?=some a->vs[j]?=some p->H a=some (.tup [kV p.1,p.2])/\a∉m)->RDs K m H (as.map V.ref) (BT.ef kvs)
 | [],_,_,h1,r1,_=>by
  cases r1 with
  | nil=>exact .nil
  | cons _ _ _=>simp at h1
 | a :: as,_,_,h1,r1,k=>by
  cases r1 with
  | nil=>simp at h1
  | @cons key v d vs kvs hk q1 t1 =>
   obtain ⟨k1,k2⟩:=k 0 a _ rfl rfl
   exact .cons (.tup (.inl ⟨.inl k1,k2⟩) (.cons hk (.cons q1 .nil))) (mY (by simpa using h1) t1 fun j a p e1 e2=>k (j+1) a p (by simpa using e1) (by simpa using e2))
section
variable {X:Cx}{F:FT}{G:Str->Option BT.W}
theorem yZ {pins:List (Addr×Obj)}{s:OB}{σ:L2.St}{H:Hp}{o:BT.E}{oe:Ox}{apos pos:Pos}{RQ:Addr->List (Key×V)->Hp->Prop}{Q':Oz->OB->Prop} (hb:aE oe=true) (hl:(apos.endLine==pos.line)=true) (hO:PE X oe (tD X F G o)) (I:Inv X pins σ H s)
 (q:tD X F G o σ H fun x H1=>∃ a vs,x=.ref a/\H1 a=some (.dK vs)/\RQ a vs H1) (k:∀ a vs H1 s2 r,Inv X pins σ H1 s2->H1 a=some (.dK vs)->RQ a vs H1->s2.heap.IsItemsView r a->s2.heap.objs.size=r+1->Q' (.ref r) s2) :
 wpAny (OY X.prog X.w) X.A (eval (.Call (.Attribute oe "items" apos) [] [] pos) X.env) Q' X.xe s:=by
 refine U9 (jj hb) hl (thn (hO pins s σ H _ I q) fun v s1 ⟨x,H1,I1,r1,a,vs,ex,e,q1⟩=>?_)
 subst ex
 cases r1
 obtain ⟨h1,h2⟩:=qV I1 (x:=.ref a) rfl (T:="dict") (.inr (.inr (.inl ⟨rfl,.inl ⟨_,e⟩⟩)))
 obtain ⟨z,hd,us,rel,dd⟩:=xq I1.hok e
 refine ⟨"dict","dict.items",PySem.F.plainAttrs_dict,Ub,PySem.F.type_dict_items,h1,h2,Si rfl (UT ?_)⟩
 refine call_meetsIn Ub h1 PySem.F.entry_dict_items (PySem.F.args_dict_items_1 _) (meets_dict_items (aM X.prog X.w) a hd) ⟨⟨us,dd⟩,?_⟩
 refine k a vs H1 _ _ (I1.kept (t':=s1.toks) fun b o q=>OA _ q) e q1 ⟨_,OI _ rfl,rfl,rfl⟩ (PM ..)
theorem Ge {vs:List (Key×V)}{us:List (Key×Oz)} (rel:KV vs us):∀ {j:Nat}{p:Key×V},vs[j]?=some p->∃ q,us[j]?=some q/\p.1=q.1/\RelV p.2 q.2:=by
 unfold KV at rel
 induction rel with
 | nil=>intro j p h;simp at h
 | cons h t ih =>
  intro j p e
  cases j with
  | zero=>simp at e;subst e;exact ⟨_,rfl,h⟩
  | succ j =>
   obtain ⟨q,q1,q2⟩:=ih (j:=j) (p:=p) (by simpa using e)
   exact ⟨q,by simpa using q1,q2⟩
theorem vK {pins:List (Addr×Obj)}{s1:OB}{σ:L2.St}{H1:Hp}{h':Heap}{tk:Nat}{S:Addr}{acc:Array Oz}{c:Nat}{as bs:List Addr}{vs:List (Key×V)}{us:List (Key×Oz)}{m:List Addr}{h:BT.HH}{kvs:List (BT.Ky×BT.D)}{lo:Addr} (I1:Inv X pins σ H1 s1) (rel:KV vs us) (R:RH X.K m H1 h) (rk:RKs X.K m H1 vs kvs)
 (hS:s1.heap.objs.size<=S) (hlo:s1.heap.objs.size<=lo) (hSl:S∉as) (hz:bs.length<=sizeLine) (k:∀ b o,s1.heap.get? b=some o->h'.get? b=some o) (g1:h'.get? S=some { cls:=.type "list",data:=.seq acc c }) (g2:as.length=us.length) (g3:PySem.W.KdxG (aM X.prog X.w) us lo h' as) (g4:acc.toList=bs.map Pu) :
 ∃ H2,Inv X pins σ H2 { s1 with heap:=h',toks:=tk }/\H2 S=some (.lst (bs.map V.ref))/\Ext m H1 m H2/\Le H1 H2/\H1 S=none/\RDs X.K m H2 (as.map V.ref) (BT.ef kvs):=by
 have low:∀ c:Addr,c < s1.heap.objs.size->hpk H1 s1.heap.objs.size S bs as vs c=H1 c:=fun c hc=>if_pos hc
 have nS:¬ (S < s1.heap.objs.size):=Nat.not_lt.mpr hS
 have atS:hpk H1 s1.heap.objs.size S bs as vs S=some (.lst (bs.map V.ref)):=by
  unfold hpk
  rw[if_neg nS,if_pos rfl]
 have atA:∀ (j:Nat) a p,as[j]?=some a->vs[j]?=some p->hpk H1 s1.heap.objs.size S bs as vs a=some (.tup [kV p.1,p.2]):=fun j a p q1 q2=>by
  have ha:=OM q1
  have ab:=g3.above a ha
  unfold hpk
  rw[if_neg (Nat.not_lt.mpr (Ph hlo (PK ab))),if_neg (show ¬ a=S from fun e=>hSl (by rw[← e];exact ha)),yY g3.rise q1 q2]
  rfl
 have fresh:∀ c:Addr,s1.heap.objs.size<=c->H1 c=none:=fun c hc=>I1.hok.fresh hc
 have live:Le H1 (hpk H1 s1.heap.objs.size S bs as vs):=fun c u q=>by rw[low c (I1.hok.lt q)];exact q
 have hok:HOk X.prog X.w (hpk H1 s1.heap.objs.size S bs as vs) h':=fun c u q=>by
  by_cases lc:c < s1.heap.objs.size
  ·rw[low c lc] at q
   exact (I1.hok c u q).stay (fun b o _ w=>k b o w) (fun b w=>live b _ w) fun b l w=>live b _ w
  ·by_cases ec:c=S
   ·subst ec
    rw[atS] at q
    cases q
    refine ⟨by rw[OQ];exact hz,acc.toList,_,?_,by simpa using g1⟩
    rw[g4]
    clear g1 g2 g3 g4 atA atS low live hSl hz
    induction bs with
    | nil=>exact .nil
    | cons a as ih=>exact .cons rfl ih
   ·have hx:=q
    unfold hpk at hx
    rw[if_neg lc,if_neg ec] at hx
    cases hL:(as.zip vs).lookup c with
    | none=>rw[hL] at hx;cases hx
    | some pr =>
     rw[hL] at hx
     cases hx
     obtain ⟨j,j1,j2⟩:=vJ hL
     obtain ⟨key,kk,x,x1,hk,pa⟩:=g3.pairs j c j1
     have rp:pr.1=kk/\RelV pr.2 x:=by
      obtain ⟨q,q1,q2⟩:=Ge rel j2
      rw[x1] at q1
      cases q1
      exact q2
     obtain ⟨rp1,rp2⟩:=rp
     refine ⟨by show 2<=sizeLine;decide,[key,x],.cons ?_ (.cons rp2 .nil),_,pa,rfl,_,rfl⟩
     rw[rp1]
     rcases aN (show kF kk key=true from hk) with ⟨i,t,rfl,rfl⟩ | ⟨x,t,rfl,rfl⟩
     ·exact ⟨t,rfl⟩
     ·exact ⟨t,rfl⟩
 have x:Ext m H1 m (hpk H1 s1.heap.objs.size S bs as vs):=⟨⟨[],by simp,by simp⟩,fun c o q _ _=>live c o q,fun c q=>by
  cases g:H1 c with
  | none=>rfl
  | some o=>rw[live c o g] at q;cases q⟩
 have ni:∀ c:Addr,s1.heap.objs.size<=c->c∉m:=fun c hc=>R.fm (fresh c hc)
 have ln:=rel.length
 refine ⟨_,Inv.B4 (s:=s1) (tk:=tk) (fp:=[]) I1 (fun b hb=>nomatch hb) (fun b o _ e=>k b o e) low hok,atS,x,live,fresh S hS,mY (by omega) (rk.ext x) fun j a p q1 q2=>⟨atA j a p q1 q2,ni a (Ph hlo (PK (g3.above a (OM q1))))⟩⟩
theorem Gf {h:Heap}{a:Addr}{us:List (Key×Oz)} (dd:h.DictOf (aM X.prog X.w) a us):∃ ep,h.DictAt (aM X.prog X.w) a us ep:=by
 obtain ⟨o,es,ep,z⟩:=dd
 exact ⟨ep,o,es,z⟩
theorem B7 {x z:BT.W}{h h':BT.HH} (e:BT.Fi x h=some (z,h')):∃ n kvs,x=.r n/\BT.dat h n=some kvs/\kvs.length<=BT.lim/\z=.p (.lst (BT.ef kvs))/\h'=h:=by
 cases x with
 | p _=>cases e
 | k _=>cases e
 | o _=>cases e
 | c _ _=>cases e
 | r n =>
  rw[BT.Fj] at e
  obtain ⟨kvs,e1,e2⟩:=Option.bind_eq_some_iff.mp e
  split at e2
  case isFalse=>cases e2
  rename_i c
  cases e2
  exact ⟨n,kvs,rfl,e1,c,rfl,rfl⟩
theorem Gg {sc:OW}{N:List Str} (O:Ok X F G sc N) {o:BT.E}{oe:Ox}{np p apos pos:Pos} (hg:aF sc "list"=true) (hb:aE oe=true) (hl:(apos.endLine==pos.line)=true) (hO:PE X oe (tD X F G o)) :
 PE X (.Call (.Name "list" np) [.Call (.Attribute oe "items" apos) [] [] pos] [] p) (tD X F G (.dli o)):=by
 intro pins s σ H Q I q
 refine Call_ (cV (u:=.type "list") I (aT O hg) (O.blt _ (by decide)) (by decide +kernel) (O5 ?_ (ah rfl) rfl))
 rw[ah (show noStar (.Call (.Attribute oe "items" apos) [] [] pos)=true from rfl)]
 show wpAny _ _ (SQ ((false,eval (.Call (.Attribute oe "items" apos) [] [] pos) X.env) :: QE p (O4 [] X.env))) _ _ s
 obtain ⟨m,sl,h,z,h',R,S,ee,post⟩:=q
 simp only[BT.ev] at ee
 obtain ⟨x,h1,e1,e2⟩:=ak ee
 obtain ⟨n,kvs,rfl,e3,e4,rfl,rfl⟩:=B7 e2
 refine P6 (yZ hb hl hO I (RQ:=fun a vs H1=>∃ m1,RH X.K m1 H1 h'/\RKs X.K m1 H1 vs kvs/\Post X.prog X.w X.K m1 H1 (.p (.lst (BT.ef kvs))) h' Q) ⟨m,sl,h,.r n,h',R,S,e1,fun v H1 m1 x1 R1 r1=>?_⟩ fun a vs H1 s2 r I2 e q1 iv hsz=>Qw ?_)
 ·cases r1 with
  | @r a _ hn =>
   obtain ⟨vs,hH,rk⟩:=R1.DX n a kvs hn e3
   exact ⟨a,vs,rfl,hH,m1,R1,rk,fun v5 H5 m5 x5 R5 r5=>post v5 H5 m5 (x1.trans x5) R5 r5⟩
 ·obtain ⟨m1,R1,rk,post⟩:=q1
  obtain ⟨zz,hd,us,rel,dd⟩:=xq I2.hok e
  obtain ⟨ep,da⟩:=Gf dd
  have l1:=rel.length
  refine PySem.W.kdx_call (I2.ok.hd O.calm) iv da (by omega) fun h2 tk acc c as k g1 g2 g3 g4=>?_
  obtain ⟨H2,I3,atS,x,le,fr,rr⟩:=vK (tk:=tk) I2 rel R1 rk (OE _) (OE _) (fun hm=>Pi _ (g3.above _ hm)) (by omega) k g1 g2 g3 g4
  have ni:s2.heap.objs.size∉m1:=R1.fm fr
  exact ⟨.ref s2.heap.objs.size,H2,I3,rfl,post _ _ m1 x (R1.ext x le) (.p (.lst (.inl ⟨.inl atS,ni⟩) rr))⟩
end
end BS
end
section
namespace BS
open PySem PySem.Spec PyProof.Rows L2
theorem lq:∀ (ns:List Int),(O8 ns.length).map (fun i=>ns.getD i 0)=ns:=by
 intro ns
 refine List.ext_getElem (by simp) fun i h1 h2=>?_
 simp only[List.getElem_map,List.getElem_range]
 rw[QV,OF h2];rfl
theorem B8 (ns:List Int):Qv (fun i=>ns.getD i 0) ns.length=BT.ded ns:=by
 unfold Qv
 rw[lq];rfl
section
variable {F:FT}{G:Str->Option BT.W}
theorem tL:∀ {xs:List V}{us:List Oz},xs.length=us.length->(∀ (j:Nat) x u,xs[j]?=some x->us[j]?=some u->RelV x u)->aq xs us:=by
 intro xs
 induction xs with
 | nil =>
  intro us h _
  cases us with
  | nil=>exact .nil
  | cons _ _=>simp at h
 | cons x xs ih =>
  intro us h q
  cases us with
  | nil=>simp at h
  | cons u us=>exact .cons (q 0 x u rfl rfl) (ih (by simpa using h) fun j a b e1 e2=>q (j+1) a b (by simpa using e1) (by simpa using e2))
theorem y9 {X:Cx}{sc:OW}{N:List Str} (O:Ok X F G sc N) {mu:Bool}{ex:Ox}{sa:BT.Es}{np zp p pos:Pos} (hg:aF sc "list"=true) (hg2:aF sc "range"=true) (hs:noStar ex=true) (hA:PA X [ex] (tDs X F G sa)) :
 PE X (.Call (.Name "list" np) [.Call (.Name "range" zp) [ex] [] pos] [] p) (tD X F G (.lsr mu .rng1 sa)):=by
 intro pins s σ H Q I q
 have q:=gZ (as:=sa) (k:=fun ws h=>BT.kLs mu .rng1 ws h) (fun s h=>by simp only[BT.ev]) q (R':=fun vs H1=>∃ m h ws z h',RH X.K m H1 h/\RWs X.prog X.w X.K m H1 vs ws/\BT.kLs mu .rng1 ws h=some (z,h')/\Post X.prog X.w X.K m H1 z h' Q) fun m h xs z h' vs H1 R r e post=>⟨m,h,xs,z,h',R,r,e,post⟩
 refine Call_ (cV (u:=.type "list") I (aT O hg) (O.blt _ (by decide)) (by decide +kernel) (O5 ?_ (ah rfl) rfl))
 rw[ah (show noStar (.Call (.Name "range" zp) [ex] [] pos)=true from rfl)]
 show wpAny _ _ (SQ ((false,eval (.Call (.Name "range" zp) [ex] [] pos) X.env) :: QE p (O4 [] X.env))) _ _ s
 refine P6 (Call_ (cV (u:=.type "range") I (aT O hg2) (O.blt _ (by decide)) (by decide +kernel) (O5 (thn (hA pos pins s σ H _ I q) fun us s1 ⟨vs,H1,I1,r1,q1⟩=>?_) (ah hs) rfl)))
 obtain ⟨m,h,ws,z,h',R,rws,e,post⟩:=q1
 unfold BT.kLs at e
 cases g1:(BT.rds ws h).bind (BT.dH .rng1) with
 | none=>rw[g1] at e;cases e
 | some ds =>
  rw[g1] at e
  simp only at e
  by_cases cl:ds.length<=BT.lim
  case neg=>rw[if_neg cl] at e;cases e
  rw[if_pos cl] at e
  have ez:BT.new mu ds h=(z,h'):=OP e
  obtain ⟨xs,e1,e2⟩:=Option.bind_eq_some_iff.mp g1
  have rr:=eB R rws e1
  have hd:∃ j:Int,xs=[.int j]:=by
   match xs,e2 with
   | [.int j],_=>exact ⟨j,rfl⟩
  obtain ⟨j,rfl⟩:=hd
  rw[BT.bI] at e2
  split at e2
  case isFalse=>cases e2
  rename_i c
  simp only[OC,decide_eq_true_eq] at c
  have ed:BT.upto 0 j.toNat=ds:=OP e2
  obtain ⟨v,rfl,r⟩:=rr.one
  cases r with
  | d r =>
   cases r
   obtain ⟨u,rfl,eu⟩:=vals1 r1
   obtain ⟨t,rfl⟩:=eu
   refine call_range_1 (Qw ?_)
   refine call_list_range (s:={ s1 with heap:=s1.heap.push { cls:=.type "range",data:=.fields #[.int 0 s1.toks,.int j t,.int 1 (s1.toks+1)] },toks:=s1.toks+1+1 }) (I1.ok.hd O.calm) (IsRange.new ..) (small_one (by omega) (by omega) (by omega) (by omega)) (n:=j.toNat) (by rw[rangeSize_one];split<;>omega) (by omega) fun h2 tk acc c' hk hS hacc=>?_
   have nn:ds=((O8 j.toNat).map fun (k:Nat)=>(0:Int)+(k:Int)).map BT.D.int:=by rw[← ed,Qc];rfl
   have hk':∀ b u,s1.heap.get? b=some u->h2.get? b=some u:=fun b u q=>hk b u (OA _ q)
   have hle:s1.heap.objs.size<=(s1.heap.push { cls:=.type "range",data:=.fields #[.int 0 s1.toks,.int j t,.int 1 (s1.toks+1)] }).objs.size:=by rw[PM];exact P9 _
   have hv:aq (((O8 j.toNat).map fun (k:Nat)=>(0:Int)+(k:Int)).map V.int) acc.toList:=by
    refine tL (by simp[hacc.1]) fun i x u e1 e2=>?_
    obtain ⟨t',rfl⟩:=hacc.2 i u (by simpa using e2)
    have:x=.int (0+(i:Int)):=by
     rw[Qc,O2] at e1
     rcases OR i j.toNat with z | z
     ·rw[QB z] at e1
      exact (OP e1).symm
     ·rw[OJ (by simpa using z)] at e1;cases e1
    subst this
    exact ⟨t',by simp⟩
   have sl:sizeLine=16777216:=Uz
   refine ⟨.ref _,_,I1.laid (h':=h2) (t':=tk) (o:=.lst (((O8 j.toNat).map fun (k:Nat)=>(0:Int)+(k:Int)).map V.int)) hk' hle ⟨by rw[OQ,OQ,R6];omega,acc.toList,c',hv,by simpa using hS⟩,rfl,?_⟩
   refine jg (mu:=mu) R (I1.hok.fresh hle) (k8 _) ?_
   rw[← nn,ez]
   exact post
end
end BS
end
section
namespace BS
open PySem PySem.Spec PyProof.Rows L2
theorem za:T6 (.type "list_reverseiterator") "__len__"=pure none:=by rw[SO,RC];kernel_rfl
theorem B9:T6 (.type "list_reverseiterator") "__length_hint__"=pure (some (.builtin "list_reverseiterator.__length_hint__")):=by rw[SO,RC];kernel_rfl
section
variable {prog:OO}{w:O6}{A:PL}{E:Oz->OB->Prop}{s:OB}
theorem zb {J l:Addr}{i:Int}{Q:Bool->OB->Prop} (hi:s.heap.IsRevIter J l i) (h:Q false s):wpAny (OY prog w) A (QC (.ref J)) Q E s:=by
 delta QC
 refine wpAny_bind (Uy hi.typeIs za ?_)
 show wpAny _ A (specialOf (Pu J) (OT "__length_hint__") >>= _) _ _ _
 refine wpAny_bind (Uy hi.typeIs B9 ?_)
 generalize hid:("list_reverseiterator.__length_hint__":String)=id1
 wp_delta
 rw[show splitId id1=some ("list_reverseiterator","__length_hint__") from by subst hid;decide +kernel]
 subst hid
 exact wpAny_bind (Q6 (b:=true) hi.typeIs (by rw[US];kernel_rfl) (wpAny_pure h))
theorem mq {J l:Addr}{its:Array Oz}{Q:Oz->OB->Prop} (hh:A.handled=none) (hi:s.heap.IsRevIter J l ((its.size:Int) - 1)) (hl:s.heap.IsList l its) (hne:l≠J) (hz:its.size<=sizeLine)
 (hQ:∀ h' tk acc c,(∀ b o,b≠J->s.heap.get? b=some o->h'.get? b=some o)->h'.get? s.heap.objs.size=some { cls:=.type "list",data:=.seq acc c }->ItemsOf (fun i v=>its[its.size - 1 - i]?=some v) acc its.size->Q (.ref s.heap.objs.size) { s with heap:=h',toks:=tk }) :
 wpAny (OY prog w) A (call (.type "list") [.ref J]) Q E s:=by
 refine callType_codes (Q₁:=fun y t=>y=.ref s.heap.objs.size/\t={ s with heap:=s.heap.push { cls:=.type "list",data:=.seq #[] } }) F.called_list (F.typeCall_list_1 _) F.entry_list_init (code_list_new _ ⟨rfl,rfl⟩) fun y t q=>?_
 obtain ⟨rfl,rfl⟩:=q
 have nS:(s.heap.push { cls:=.type "list",data:=.seq #[] }).get? s.heap.objs.size=some { cls:=.type "list",data:=.seq #[] }:=OI _ rfl
 have hiJ:J < s.heap.objs.size:=by obtain ⟨o,e,_⟩:=hi;exact OG e
 have hlL:l < s.heap.objs.size:=by obtain ⟨o,e,_⟩:=hl;exact OG e
 have SJ:s.heap.objs.size≠J:=fun e=>Pi _ (e ▸ hiJ)
 have Sl:s.heap.objs.size≠l:=fun e=>Pi _ (e ▸ hlL)
 have Sf:s.heap.objs.size∉[J,l]:=fun hm=>by
  rcases List.mem_cons.mp hm with e | e
  ·exact SJ e
  ·exact Sl (List.mem_singleton.mp e)
 refine ⟨⟨_,nS,rfl⟩,F.args_list_init_2 _ _,?_⟩
 show wpAny _ _ (Tu (.ref s.heap.objs.size) >>= fun old=>Builtin.List.listUpdate (.ref s.heap.objs.size) (fun _=>#[]) >>= fun _=>letGo old.toList.reverse >>= fun _=>Pz (.ref s.heap.objs.size) (.ref J) .none) _ _ _
 refine wpAny_bind ?_
 delta Tu
 refine wpAny_bind (UP nS rfl (wpAny_pure ?_))
 show wpAny _ _ (updateSeq s.heap.objs.size (fun _=>#[]) >>= fun _=>letGo (#[]:Array Oz).toList.reverse >>= fun _=>Pz (.ref s.heap.objs.size) (.ref J) .none) _ _ _
 refine wpAny_bind (RM nS rfl ?_)
 have nS2:=Pb (Qe (fun _=>(#[]:Array Oz))) nS rfl
 have oth:∀ b o,s.heap.get? b=some o->((s.heap.push { cls:=.type "list",data:=.seq #[] }).update s.heap.objs.size (Qe (fun _=>(#[]:Array Oz)))).get? b=some o :=
  fun b o e=>(Qj _ _ (fun z=>Pi _ (z ▸ OG e))).trans (OA _ e)
 refine wpAny_bind (wpAny_letGo ?_)
 have hi2:=hi.at (h':=(s.heap.push { cls:=.type "list",data:=.seq #[] }).update s.heap.objs.size (Qe (fun _=>(#[]:Array Oz)))) (oth J)
 have hl2:=hl.at (h':=(s.heap.push { cls:=.type "list",data:=.seq #[] }).update s.heap.objs.size (Qe (fun _=>(#[]:Array Oz)))) (oth l)
 delta Pz
 refine wpAny_bind (Rc (T:="list_reverseiterator") (let ⟨o,e,c,_⟩:=hi2;⟨o,e,c⟩) ?_)
 rw[if_neg (by rw[show QO (.ref s.heap.objs.size) (.ref J)=false by simp[QO,SJ]];decide)]
 refine wpAny_bind (Tc hi2 ?_)
 refine wpAny_bind (PU (zb hi2 ?_))
 rw[if_neg (by decide)]
 have W:=(Walks.listRev (prog:=prog) (w:=w) (A:=A.in1.in1) hh J l hne its).toS
 refine wpAny_pure ⟨plainId_quiet F.plain_extend_loop _,codeAny_extend_loopS W hz _ Sf _ its.size 0 _ _ _ rfl (Pq _) ⟨Pq _,by simpa using hi2,hl2⟩ nS2 (ItemsOf.nil _) fun s' acc c hm hS' hacc=>⟨rfl,?_⟩⟩
 rw[Moved.eq_with hm]
 refine hQ s'.heap s'.toks acc c (fun b o hb e=>hm.heap b o (fun hmem=>?_) (oth b o e)) hS' hacc
 rcases List.mem_cons.mp hmem with z | z
 ·exact Pi _ (z ▸ OG e)
 ·exact hb (List.mem_singleton.mp z)
end
section
variable {F:FT}{G:Str->Option BT.W}
theorem zc {X:Cx}{sc:OW}{N:List Str} (O:Ok X F G sc N) {mu:Bool}{ex:Ox}{sa:BT.Es}{np zp p pos:Pos} (hg:aF sc "list"=true) (hg2:aF sc "reversed"=true) (hs:noStar ex=true) (hA:PA X [ex] (tDs X F G sa)) :
 PE X (.Call (.Name "list" np) [.Call (.Name "reversed" zp) [ex] [] pos] [] p) (tD X F G (.lsr mu .rev sa)):=by
 intro pins s σ H Q I q
 have q:=gZ (as:=sa) (k:=fun ws h=>BT.kLs mu .rev ws h) (fun s h=>by simp only[BT.ev]) q (R':=fun vs H1=>∃ m h ws z h',RH X.K m H1 h/\RWs X.prog X.w X.K m H1 vs ws/\BT.kLs mu .rev ws h=some (z,h')/\Post X.prog X.w X.K m H1 z h' Q) fun m h xs z h' vs H1 R r e post=>⟨m,h,xs,z,h',R,r,e,post⟩
 refine Call_ (cV (u:=.type "list") I (aT O hg) (O.blt _ (by decide)) (by decide +kernel) (O5 ?_ (ah rfl) rfl))
 rw[ah (show noStar (.Call (.Name "reversed" zp) [ex] [] pos)=true from rfl)]
 show wpAny _ _ (SQ ((false,eval (.Call (.Name "reversed" zp) [ex] [] pos) X.env) :: QE p (O4 [] X.env))) _ _ s
 refine P6 (Call_ (cV (u:=.type "reversed") I (aT O hg2) (O.blt _ (by decide)) (by decide +kernel) (O5 (thn (hA pos pins s σ H _ I q) fun us s1 ⟨vs,H1,I1,r1,q1⟩=>?_) (ah hs) rfl)))
 obtain ⟨m,h,ws,z,h',R,rws,e,post⟩:=q1
 unfold BT.kLs at e
 cases g1:(BT.rds ws h).bind (BT.dH .rev) with
 | none=>rw[g1] at e;cases e
 | some ds =>
  rw[g1] at e
  simp only at e
  by_cases cl:ds.length<=BT.lim
  case neg=>rw[if_neg cl] at e;cases e
  rw[if_pos cl] at e
  have ez:BT.new mu ds h=(z,h'):=OP e
  obtain ⟨xs,e1,e2⟩:=Option.bind_eq_some_iff.mp g1
  have rr:=eB R rws e1
  have hd:∃ ys:List BT.D,xs=[.lst ys]/\ds=ys.reverse:=by
   match xs,e2 with
   | [.lst ys],e2=>exact ⟨ys,rfl,(OP e2).symm⟩
  obtain ⟨ys,rfl,ed⟩:=hd
  obtain ⟨v,rfl,r⟩:=rr.one
  obtain ⟨a,vt,rfl,ha,ra⟩:=r.lst
  obtain ⟨u,rfl,eu⟩:=vals1 r1
  cases eu
  obtain ⟨zz,its,nn,rv,hl,ee⟩:=rdL I1 ha
  have hL:s1.heap.IsList a its.toArray:=⟨_,ee,rfl,_,rfl⟩
  refine call_reversed_list hL (Qw ?_)
  have la:=OG ee
  have hle:s1.heap.objs.size<=(s1.heap.push (revObj a ((its.toArray.size:Int) - 1))).objs.size:=by rw[PM];exact P9 _
  refine mq (s:={ s1 with heap:=s1.heap.push (revObj a ((its.toArray.size:Int) - 1)) }) (I1.ok.hd O.calm) ⟨_,OI _ rfl,rfl,rfl⟩ (hL.at fun o e=>OA _ e) (O3 la) (by rw[OD,← hl];exact zz) fun h2 tk acc c hk hS hacc=>?_
  have hk':∀ b u,s1.heap.get? b=some u->h2.get? b=some u:=fun b u q=>hk b u (O3 (OG q)) (OA _ q)
  have sz:its.toArray.size=vt.length:=by rw[OD,hl]
  have hv:aq vt.reverse acc.toList:=by
   refine tL (by simp[hacc.1,hl]) fun j x u e1 e2=>?_
   have jl:j < vt.length:=by
    have:=(List.getElem?_eq_some_iff.mp e1).1
    rwa [U6] at this
   rw[UN jl] at e1
   have e3:=hacc.2 j u (by simpa using e2)
   rw[sz] at e3
   obtain ⟨u',e4,r4⟩:=rv.get e1
   have:its.toArray[vt.length - 1 - j]?=its[vt.length - 1 - j]?:=by simp
   rw[this,e4] at e3
   cases e3
   exact r4
  refine ⟨.ref _,_,I1.laid (h':=h2) (t':=tk) (o:=.lst vt.reverse) hk' hle ⟨by rw[U6];exact zz,acc.toList,c,hv,by simpa using hS⟩,rfl,?_⟩
  refine jg (mu:=mu) R (I1.hok.fresh hle) ra.reverse ?_
  rw[← ed,ez]
  exact post
end
end BS
end
section
namespace BX
open PySem PyProof.Rows
theorem NX.keep {w:O6}{h h':Heap}{it a S:Addr}{ord:List Oz}{i:Nat}{oS:Obj} (N:NX w h it a ord i) (hS:h.get? S=some oS) (hc:oS.cls=.type "list") (ha:a≠S) (k:∀ b o,b≠S->h.get? b=some o->h'.get? b=some o):NX w h' it a ord i:=by
 obtain ⟨o,es,ep,t,first,ho,hd,hf,hi,m⟩:=N.ex
 refine ⟨o,es,ep,t,first,k _ _ ha ho,hd,hf,k _ _ (fun z=>?_) hi,?_⟩
 ·subst z
  rw[hS] at hi
  cases hi
  exact absurd (show (RT "set_iterator")=.type "list" from hc) (by decide)
 ·cases m with
  | A hb=>exact .A hb
  | B hT hp =>
   obtain ⟨oT,e,c,n,d⟩:=hT
   refine .B ⟨oT,k _ _ (fun z=>?_) e,c,n,d⟩ hp
   subst z
   rw[hS] at e
   cases e
   rw[hc] at c
   exact absurd c (by decide)
  | C hb hd ht=>exact .C hb hd ht
section
variable {prog:OO}{w:O6}{A:PL}{E:Oz->OB->Prop}{s:OB}{R:UD->OB->Prop}
theorem zd (hh:A.handled=none) {it a S:Addr}{ord:List Oz}{oa:Obj}{es:Array (Int×Oz)}{ep:Nat}{t:SetTable}{h₁:Heap} (hia:it≠a) (haS:a≠S) (hiS:it≠S) (hn:ord.length<=sizeLine) (hA:h₁.get? a=some oa) (hd:oa.data=.set es ep t) (hl:ord.length=es.size) (res:Oz)
 (hR:∀ h' c,(∀ b o,b≠S->b≠it->h₁.get? b=some o->h'.get? b=some o)->h'.get? S=some { cls:=.type "list",dict:=none,data:=.seq ord.toArray c,slots:=#[] }->R (.ok (.ret res)) { s with heap:=h' }) :
 ∀ (k i:Nat) (h:Heap) (c:Nat),ord.length - i=k->i<=ord.length->NX w h it a ord i->(∀ b o,b≠S->b≠it->h₁.get? b=some o->h.get? b=some o) →
  h.get? S=some { cls:=.type "list",dict:=none,data:=.seq (ord.take i).toArray c,slots:=#[] } →
  codeAny (OY prog w) A (.builtin "list.extend.loop" ⟨[.ref S,.ref it,res],[]⟩) R { s with heap:=h }:=by
 intro k
 induction k with
 | zero =>
  intro i h c hk hi N hkeep hS
  have hin:i=ord.length:=by omega
  refine codeAny_builtin TN ?_
  rw[Qt Qn _]
  show wpAny _ A.in1 (TH (.ref it) >>= _) _ _ _
  refine wpAny_bind (E1 (s:={ s with heap:=h }) (A:=A.in1) hh N hin (fun o es' ep' t' e1 e2=>?_) fun h' he=>?_)
  ·have e3:=hkeep a oa haS hia.symm hA
   replace e1:h.get? a=some o:=e1
   rw[e3] at e1
   cases e1
   rw[hd] at e2
   cases e2
   exact hl
  ·subst hin
   rw[List.take_length] at hS
   exact wpAny_pure (hR h' c (fun b o n1 n2 e=>he b o n2 (hkeep b o n1 n2 e)) (he S _ hiS.symm hS))
 | succ k ih =>
  intro i h c hk hi N hkeep hS
  have hlt:i < ord.length:=by omega
  have hx:ord[i]?=some ord[i]:=OF hlt
  refine codeAny_builtin TN ?_
  rw[Qt Qn _]
  show wpAny _ A.in1 (TH (.ref it) >>= _) _ _ _
  refine wpAny_bind (Bh (s:={ s with heap:=h }) N hia hx fun h' N' sb=>?_)
  have hkp:∀ b o,b≠it->h.get? b=some o->h'.get? b=some o:=sb.extBut
  have hS':=hkp S _ hiS.symm hS
  have up:∀ b o,b≠S->h'.get? b=some o->(h'.update S (Qe (·.push ord[i]))).get? b=some o:=fun b o hb e=>(Qj _ _ (PD hb)).trans e
  have hsz:(ord.take i).toArray.size=i:=by simp;omega
  show wpAny _ A.in1 (updateSeq S (·.push ord[i]) >>= _) _ _ _
  refine wpAny_bind ?_
  have tk:(ord.take i).toArray.push ord[i]=(ord.take (i+1)).toArray:=by rw[List.push_toArray,List.take_append_getElem]
  obtain ⟨c',hg⟩:∃ c',(h'.update S (Qe (·.push ord[i]))).get? S=some { cls:=.type "list",dict:=none,data:=.seq (ord.take (i+1)).toArray c',slots:=#[] }:=⟨_,by rw[← tk];exact Pb (Qe (·.push ord[i])) hS' rfl⟩
  exact RM hS' rfl (wpAny_pure ⟨plainId_quiet Qn _,ih (i+1) _ c' (by omega) hlt (N'.keep hS' rfl haS up) (fun b o h1 h2 e=>up b o h1 (hkp b o h2 (hkeep b o h1 h2 e))) hg⟩) (by rw[hsz];omega) (by show ((ord.take i).toArray.push ord[i]).size<=sizeLine+1;rw[Array.size_push,hsz];omega)
end
theorem Ca:T6 (.type "set") "__len__"=pure (some (.builtin "set.__len__")):=by rw[SO,RC];kernel_rfl
section
variable {prog:OO}{w:O6}{A:PL}{E:Oz->OB->Prop}{s:OB}
theorem ze {r:Addr} (hT:s.TypeIs (.ref r) "set") {Q:Bool->OB->Prop} (h:Q false s):wpAny (OY prog w) A (QC (.ref r)) Q E s:=by
 unfold QC
 refine wpAny_bind (Uy hT Ca ?_)
 generalize hid:("set.__len__":String)=id0
 wp_delta
 rw[show splitId id0=some ("set","__len__") from by subst hid;decide +kernel]
 subst hid
 refine wpAny_bind (Q6 (T:="set") (b:=true) hT (by rw[US];kernel_rfl) ?_)
 refine SM (fun hab=>absurd hab (by decide)) (fun _=>?_)
 refine SM (fun _=>?_) (fun hab=>absurd (by decide +kernel) hab)
 refine wpAny_bind (Rc hT ?_)
 exact wpAny_pure h
theorem rG {R:UD->OB->Prop} (hh:A.handled=none) {a S:Addr}{o:Obj}{es:Array (Int×Oz)}{ep:Nat}{t:SetTable} (ho:s.heap.get? a=some o) (hx:o.ExactSet) (hd:o.data=.set es ep t) (hf:t.fits es.size=true) (hb:es.size < RB) (ht:Tb (w.params.followText "set-order") t) (haS:a≠S) (res:Oz) (c₀:Nat) (hS:s.heap.get? S=some { cls:=.type "list",data:=.seq #[] c₀ })
 (hR:∀ h' d (ord:List Oz) c,(∀ b o,b≠S->s.heap.get? b=some o->h'.get? b=some o)->ord.Perm (es.toList.map (·.2))->h'.get? S=some { cls:=.type "list",dict:=none,data:=.seq ord.toArray c,slots:=#[] }->R (.ok (.ret res)) { s with heap:=h',drawn:=d }) :
 wpAny (OY prog w) A.in1 (Pz (.ref S) (.ref a) res)
  (fun fin s'=>match fin with | .done f=>R (.ok f) s' | .again c'=>c'.quiet=true/\codeAny (OY prog w) A c' R s') (fun e s'=>R (.error e) s') s:=by
 have hT:s.TypeIs (.ref a) "set":=⟨o,ho,hx.1⟩
 have al:a < s.heap.objs.size:=OG ho
 have Sl:S < s.heap.objs.size:=OG hS
 unfold Pz
 refine wpAny_bind (Rc hT ?_)
 have h1:QO (.ref S) (.ref a)=false:=by simp[QO,haS.symm]
 have h2:(RT "set"==RT "list")=false:=by decide
 have h3:(RT "set"==RT "tuple")=false:=by decide
 simp only[h1,h2,h3,S9,Bool.false_eq_true,if_false]
 refine wpAny_bind (xM (s:=s) ho hx hd hf hb ht fun h₁ d it ord N up hit hsz hp=>?_)
 have ln:ord.length=es.size:=by rw[hp.length_eq,OQ,P1]
 have fit:=Rr hb
 have key:∀ (h:Heap) (c₁:Nat),(∀ b o,b≠S->h₁.get? b=some o->h.get? b=some o)->h.get? S=some { cls:=.type "list",data:=.seq #[] c₁ }->codeAny (OY prog w) A (.builtin "list.extend.loop" ⟨[.ref S,.ref it,res],[]⟩) R { s with heap:=h,drawn:=d }:=by
  intro h c₁ hk hS₁
  refine zd (s:={ s with drawn:=d }) (h₁:=h₁) (t:=t) hh (QA (O1 al hit)) haS (QA (O1 Sl hit)) (by omega) (up a o ho) hd ln res (fun h' c hk' hS'=>hR h' d ord c (fun b o hb e=>hk' b o hb (O3 (O1 (OG e) hit)) (up b o e)) hp hS')
   ord.length 0 h c₁ (Nat.sub_zero _) (Pq _) (N.keep (up S _ hS) rfl haS hk) (fun b o hb _ e=>hk b o hb e) (by simpa using hS₁)
 have hS₁:=up S _ hS
 refine wpAny_bind (PU (ze (s:={ s with heap:=h₁,drawn:=d }) ⟨o,up a o ho,hx.1⟩ ?_))
 refine SM (fun _=>?_) (fun _=>wpAny_pure ⟨plainId_quiet Qn _,key _ c₀ (fun b o _ e=>e) hS₁⟩)
 refine wpAny_bind (T5 ?_)
 refine wpAny_bind ?_
 show wpAny _ _ (updateSeq S (·.push .none) >>= fun _=>updateSeq S (·.pop)) _ _ _
 refine wpAny_bind (RM hS₁ rfl ?_)
 have hS₂:=Pb (Qe (·.push Rx)) hS₁ rfl
 refine RM (hz:=by seq_fits) hS₂ rfl ?_
 have hS₃:=Pb (Qe (·.pop)) hS₂ rfl
 refine wpAny_pure ⟨plainId_quiet Qn _,key _ _ (fun b o hb e=>?_) hS₃⟩
 exact (Qj _ _ (PD hb)).trans ((Qj _ _ (PD hb)).trans e)
theorem p6 {R:List Oz->OB->Prop} (hh:A.handled=none) {a:Addr}{o:Obj}{es:Array (Int×Oz)}{ep:Nat}{t:SetTable} (ho:s.heap.get? a=some o) (hx:o.ExactSet) (hd:o.data=.set es ep t) (hf:t.fits es.size=true) (hb:es.size < RB) (ht:Tb (w.params.followText "set-order") t)
 (h:∀ h' d ord,s.heap.objs.size < h'.objs.size->(∀ b o,s.heap.get? b=some o->h'.get? b=some o)->ord.Perm (es.toList.map (·.2))->R ord { s with heap:=h',drawn:=d }) :
 wpAny (OY prog w) A (collect (.ref a)) R E s:=by
 have hr:a < s.heap.objs.size:=OG ho
 unfold collect
 refine wpAny_bind (wpAny_runValue (codeAny_builtin PySem.F.entry_proto_collect ?_))
 rw[Qt PySem.F.plain_proto_collect _]
 show wpAny _ A.in1 (newList [] >>= fun l=>again (.builtin "list.__iadd__" ⟨[l,.ref a],[]⟩)) _ _ s
 refine wpAny_bind (Pf ?_)
 refine wpAny_pure ⟨plainId_quiet Uc _,codeAny_builtin PySem.F.entry_list_iadd ?_⟩
 rw[Qt Uc _]
 have hS₁:(s.heap.push { cls:=.type "list",data:=.seq ([]:List Oz).toArray }).get? s.heap.objs.size=some { cls:=.type "list",data:=.seq #[] }:=OI _ rfl
 show wpAny _ A.in1 (Pz (.ref s.heap.objs.size) (.ref a) (.ref s.heap.objs.size)) _ _ _
 have key:=rG (prog:=prog) (A:=A) (s:={ s with heap:=s.heap.push { cls:=.type "list",data:=.seq ([]:List Oz).toArray } })
  (R:=fun (q:UD) (s':OB)=>∃ (h':Heap) (d:Drawn) (ord:List Oz) (c':Nat),q=.ok (.ret (.ref s.heap.objs.size))/\s'={ s with heap:=h',drawn:=d } ∧
   (∀ b o,s.heap.get? b=some o->h'.get? b=some o)/\ord.Perm (es.toList.map (·.2))/\h'.get? s.heap.objs.size=some { cls:=.type "list",dict:=none,data:=.seq ord.toArray c',slots:=#[] })
  hh (OA _ ho) hx hd hf hb ht (O3 hr) (.ref s.heap.objs.size) 0 hS₁
  (fun h' d ord c' hk hp hS'=>⟨h',d,ord,c',rfl,rfl,fun b o e=>hk b o (O3 (OG e)) (OA _ e),hp,hS'⟩)
 refine wpAny_mono key (fun fin s' x=>?_) fun e s' x=>?_
 ·cases fin with
  | done f =>
   obtain ⟨h',d,ord,c',e,rfl,hk,hp,hS'⟩:=x
   cases e
   show wpAny _ A (load s.heap.objs.size >>= _) _ _ _
   refine wpAny_bind (wpAny_load hS' ?_)
   refine wpAny_pure ?_
   show R ord.toArray.toList _
   exact h h' d ord (OG hS') hk hp
  | again c₁ =>
   refine ⟨x.1,codeAny_mono x.2 fun q s₂ y=>?_⟩
   obtain ⟨h',d,ord,c',rfl,rfl,hk,hp,hS'⟩:=y
   show wpAny _ A (load s.heap.objs.size >>= _) _ _ _
   refine wpAny_bind (wpAny_load hS' ?_)
   refine wpAny_pure ?_
   show R ord.toArray.toList _
   exact h h' d ord (OG hS') hk hp
 ·obtain ⟨_,_,_,_,e',_⟩:=x
  cases e'
theorem tM:∀ {vs:List Oz},(∀ v∈vs,∃ k,TM k v=true)->∃ ks,RX vs ks/\∀ k,k∈ks↔∃ v∈vs,TM k v=true
 | [],_=>⟨[],.nil,fun k=>by simp⟩
 | v :: vs,h=>by
  obtain ⟨k,hk⟩:=h v ON
  obtain ⟨ks,h1,h2⟩:=tM fun u hu=>h u (OL _ hu)
  obtain ⟨t,rfl⟩:=Vf hk
  refine ⟨k :: ks,.cons k t h1,fun j=>?_⟩
  constructor
  ·intro hj
   rcases List.mem_cons.mp hj with rfl | hj
   ·exact ⟨_,ON,hk⟩
   ·obtain ⟨u,u1,u2⟩:=(h2 j).mp hj
    exact ⟨u,OL _ u1,u2⟩
  ·rintro ⟨u,u1,u2⟩
   rcases List.mem_cons.mp u1 with rfl | u1
   ·rw[Value.isInt_inj _ _ _ u2 hk];exact ON
   ·exact OL _ ((h2 j).mpr ⟨u,u1,u2⟩)
theorem mZ:∀ {l ks:List Int},l.Nodup->(∀ k∈l,k∈ks)->ks.length=l.length->l.Perm ks
 | [],ks,_,_,h=>by rw[List.length_eq_zero_iff.mp h]
 | x :: l,ks,n,m,h=>by
  have hx:=m x ON
  obtain ⟨n1,n2⟩:=List.nodup_cons.mp n
  have:=mZ (l:=l) (ks:=ks.erase x) n2 (fun k hk=>(List.mem_erase_of_ne (a:=k) (b:=x) (fun z=>n1 (by rw[← z];exact hk))).mpr (m k (OL _ hk))) (by rw[List.length_erase_of_mem hx,h];simp)
  exact (this.cons x).trans (List.perm_cons_erase hx).symm
theorem rH:∀ (ns acc:List Int),acc.Nodup->(ns.foldl (fun σ v=>if σ.any (·==v) then σ else σ++[v]) acc).Nodup
 | [],acc,h=>h
 | n :: ns,acc,h=>by
  show (ns.foldl _ (if acc.any (·==n) then acc else acc++[n])).Nodup
  by_cases c:acc.any (·==n)=true
  ·rw[if_pos c];exact rH ns acc h
  ·rw[if_neg c]
   refine rH ns _ (List.nodup_append.mpr ⟨h,by simp,fun a ha b hb=>?_⟩)
   rw[List.mem_singleton.mp hb]
   intro z
   subst z
   exact c (List.any_eq_true.mpr ⟨a,ha,by simp⟩)
theorem vL (ns:List Int):(BT.ded ns).Nodup:=rH ns [] SG
theorem vM {vs us:List Oz}{ks:List Int} (p:us.Perm vs) (h:RX vs ks):∃ ks',RX us ks'/\ks'.Perm ks:=by
 induction p generalizing ks with
 | nil=>exact ⟨ks,h,.refl _⟩
 | cons x p ih =>
  cases h with
  | cons n t h =>
   obtain ⟨ks',a,b⟩:=ih h
   exact ⟨n :: ks',.cons n t a,b.cons n⟩
 | swap x y l =>
  cases h with
  | cons n t h =>
   cases h with
   | cons n2 t2 h=>exact ⟨n2 :: n :: _,.cons n2 t2 (.cons n t h),.swap _ _ _⟩
 | trans p q ih1 ih2 =>
  obtain ⟨k1,a,b⟩:=ih2 h
  obtain ⟨k2,a2,b2⟩:=ih1 a
  exact ⟨k2,a2,b2.trans b⟩
theorem rJ {a:Addr}{ns:List Int}{Q:Oz->OB->Prop} (hh:A.handled=none) (hs:lV prog w (w.params.followText "set-order") s.heap a (fun k'=>(BT.ded ns).any (·==k')) (BT.ded ns).length) (h64:(BT.ded ns).length < 64)
 (hQ:∀ h' d p out e,RX out.toList (BT.sortI (BT.ded ns))->(∀ b o,s.heap.get? b=some o->h'.get? b=some o)->s.heap.objs.size<=p->h'.get? p=some (seqObj "list" out e)->Q (.ref p) { s with heap:=h',drawn:=d }) :
 wpAny (OY prog w) A (call (.builtin "sorted") [.ref a]) Q E s:=by
 obtain ⟨o,es,ep,t,ho,hex,hd,hel,hS,hb,hf,hn,ht⟩:=hs
 have fit:=Rr hb
 refine BS.p5 (p6 (A:=A.in1) hh ho hex hd hf hb ht fun h' d ord al up hp=>⟨by rw[hp.length_eq,OQ,P1];omega,?_⟩)
 obtain ⟨ks,k1,k2⟩:=tM (vs:=es.toList.map (·.2)) fun v hv=>by
  obtain ⟨e,he,rfl⟩:=List.mem_map.mp hv
  obtain ⟨⟨k,hk,_⟩,_⟩:=hel e he
  exact ⟨k,hk⟩
 obtain ⟨ks',k3,k4⟩:=vM hp k1
 have ln:ks.length=(BT.ded ns).length:=by
  have:=U1 k1
  simp at this
  omega
 have pm:(BT.ded ns).Perm ks:=mZ (vL ns) (fun k hk=>(k2 k).mpr (by
  obtain ⟨e,he,q⟩:=(hS k).mp (List.any_eq_true.mpr ⟨k,hk,by simp⟩)
  exact ⟨e.2,List.mem_map.mpr ⟨e,he,rfl⟩,q⟩)) ln
 refine PyProof.Rows.list_sort_tree (OI _ rfl) k3 (by rw[hp.length_eq,OQ,P1];omega) fun out ns' a1 a2 a3=>⟨_,rfl,?_⟩
 obtain ⟨e,he⟩:=PyProof.Rows.sortedHeap_at (h:=h'.push (seqObj "list" ord.toArray 0)) (a:=h'.objs.size) (vs:=ord) (n:=0) (out:=out) (OI _ rfl)
 have es':ns'=BT.sortI (BT.ded ns):=UZ ((a2.trans k4).trans (pm.symm.trans (BT.sortI_perm _).symm)) a3 (BT.pO _)
 subst es'
 refine hQ _ d _ out e a1 (fun b ob q=>?_) (PK al) he
 have q2:=up b ob q
 have lt:=OG q2
 rw[PyProof.Rows.sortedHeap_old (O3 lt) (by rw[PM];exact Tq lt)]
 exact OA _ q2
end
end BX
namespace BS
open PySem PySem.Spec PyProof.Rows L2
theorem Inv.drew {X:Cx}{pins:List (Addr×Obj)}{σ:List (Option V)}{H:Hp}{s:OB}{d:Drawn} (I:Inv X pins σ H s):Inv X pins σ H { s with drawn:=d }:=⟨I.ok,I.os,I.bare,I.base,I.loc,I.cell,I.free,I.freeC,I.pin,I.hok,I.len⟩
theorem rK:∀ (ns acc:List Int),(ns.foldl (fun σ v=>if σ.any (·==v) then σ else σ++[v]) acc).length<=ns.length+acc.length
 | [],acc=>by simp
 | n :: ns,acc=>by
  show (ns.foldl _ (if acc.any (·==n) then acc else acc++[n])).length<=_
  by_cases c:acc.any (·==n)=true
  ·rw[if_pos c]
   have:=rK ns acc
   simp only[OZ]
   omega
  ·rw[if_neg c]
   have:=rK ns (acc++[n])
   simp only[OZ,OS,PN] at this ⊢
   omega
section
variable {F:FT}{G:Str->Option BT.W}
theorem zf {X:Cx}{sc:OW}{N:List Str} (O:Ok X F G sc N) {ex:Ox}{sa:BT.Es}{np zp p pos:Pos} (hg:aF sc "sorted"=true) (hg2:aF sc "set"=true) (hs:noStar ex=true) (hA:PA X [ex] (tDs X F G sa)) :
 PE X (.Call (.Name "sorted" np) [.Call (.Name "set" zp) [ex] [] pos] [] p) (tD X F G (.bi .sset false sa)):=by
 intro pins s σ H Q I q
 have q:=jn q
 refine Call_ (cV (u:=.builtin "sorted") I (aT O hg) (O.blt _ (by decide)) (by decide +kernel) (Sz ?_ (ah rfl) rfl))
 rw[ah (show noStar (.Call (.Name "set" zp) [ex] [] pos)=true from rfl)]
 show wpAny _ _ (SQ ((false,eval (.Call (.Name "set" zp) [ex] [] pos) X.env) :: QE p (O4 [] X.env))) _ _ s
 refine P6 (Call_ (cV (u:=.type "set") I (aT O hg2) (O.blt _ (by decide)) (by decide +kernel) (O5 (thn (hA pos pins s σ H _ I q) fun us s1 ⟨vs,H1,I1,r1,q1⟩=>?_) (ah hs) rfl)))
 obtain ⟨m,h,ws,z,h',R,rws,e,post⟩:=q1
 obtain ⟨ds,d,e1,e2,⟨_,rfl,rfl⟩ | ⟨_,q,_⟩⟩:=gB e
 rotate_left
 ·cases q
 have rr:=eB R rws e1
 have hd:∃ xs,ds=[.lst xs]:=by
  match ds,e2 with
  | [.lst xs],_=>exact ⟨xs,rfl⟩
 obtain ⟨xs,rfl⟩:=hd
 rw[BT.pN] at e2
 obtain ⟨ns,g1,g2⟩:=Option.bind_eq_some_iff.mp e2
 by_cases c:ns.length < 64
 rotate_left
 ·rw[if_neg c] at g2;cases g2
 rw[if_pos c] at g2
 cases g2
 obtain ⟨v,rfl,r⟩:=rr.one
 obtain ⟨a,vt,rfl,ha,ra⟩:=r.lst
 rw[kZ g1] at ra
 have ev:=gC ra
 subst ev
 obtain ⟨u,rfl,eu⟩:=vals1 r1
 cases eu
 obtain ⟨its,rv,pl,hz⟩:=I1.list ha.sq
 have hi:=intsAre_of rv
 have ln:=rv.length
 rw[OQ] at ln
 have sz:its.toArray.size=ns.length:=by simp;omega
 refine BX.xF (items:=its.toArray) (ns:=ns) (I1.ok.hd O.calm) pl.isList (by simpa using hi) (by rw[sz];unfold RB;omega) fun h2 tk hS hk=>?_
 rw[sz,B8] at hS
 refine Qw ?_
 have dl:=rK ns []
 have dl2:(BT.ded ns).length < 64:=by
  have:(BT.ded ns).length<=ns.length+0:=dl
  omega
 refine BX.rJ (s:={ s1 with heap:=h2,toks:=tk }) (ns:=ns) (I1.ok.hd O.calm) hS dl2 fun h3 d p out e k1 k2 k3 k4=>?_
 have ge:s1.heap.objs.size<=p:=by
  obtain ⟨o,_,_,_,ho,_⟩:=hS
  exact Ph (PK (OG ho)) k3
 have hv:=jG k1
 have sl:sizeLine=16777216:=Uz
 have l2:(BT.sortI (BT.ded ns)).length=(BT.ded ns).length:=(BT.sortI_perm _).length_eq
 exact ⟨.ref _,_,Inv.drew (I1.laid (o:=.lst ((BT.sortI (BT.ded ns)).map V.int)) (t':=tk) (fun b u q=>k2 b u (hk b u q)) ge ⟨by rw[OQ];omega,out.toList,e,hv,k4⟩),rfl,gU R (I1.hok.fresh ge) (k8 _) post⟩
end
end BS
end
section
namespace BS
open PySem PySem.Spec PyProof.Rows L2
noncomputable def j9 (sc:OW) (x:Str):Bool:=match sc.names.lookup x with
 | some .local=>true
 | some .cell=>true
 | _=>false
inductive CT (sc:OW) (N:List Str):List (Nat×Str)->Ox->Prop where
 | one {i:Nat}{x:Str}{p:Pos} (h1:N[i]?=some x) (h2:j9 sc x=true):CT sc N [(i,x)] (.Name x p)
 | two {i j:Nat}{x y:Str}{p p1 p2:Pos}{k:Nat} (h1:N[i]?=some x) (h2:j9 sc x=true) (h3:N[j]?=some y) (h4:j9 sc y=true):CT sc N [(i,x),(j,y)] (.Tuple [.Name x p1,.Name y p2] k p)
section
variable {F:FT}{G:Str->Option BT.W}
theorem RS.set {P:OO}{w:O6}{K:Ow}{m:List Addr}{H:Hp}{σ:L2.St}{s:BT.Sl}{i:Nat}{v:V}{z:BT.W} (S:RS P w K m H σ s) (r:RW P w K m H v z):RS P w K m H (σ.set i (some v)) (s.set i (some z)):=by
 refine ⟨by simp[S.len],fun j y e=>?_⟩
 by_cases c:i=j
 ·subst c
  have hl:i < s.length:=by
   rcases OR i s.length with q | q
   ·exact q
   ·rw[OJ (by simpa using q)] at e;cases e
  rw[PY hl] at e
  cases e
  exact ⟨v,by rw[PY (by rw[S.len];exact hl)],r⟩
 ·rw[Pd c] at e
  obtain ⟨u,h1,h2⟩:=S.get j y e
  exact ⟨u,by rw[Pd c];exact h1,h2⟩
theorem iL {X:Cx}{sc:OW}{N:List Str} (O:Ok X F G sc N) {x:Str} (h:j9 sc x=true):L2.Loc X.env.scope x:=by
 rw[O.hsc]
 unfold j9 at h
 unfold L2.Loc
 cases e:sc.names.lookup x with
 | none=>rw[e] at h;cases h
 | some k=>rw[e] at h;cases k<;>first | (exact .inl rfl) | (exact .inr rfl) | cases h
theorem tN {e:Ox}{env:Env} (h:iI e=true):∀ x,foldedSetIterable e env x=pure x:=by
 intro x
 cases e<;>first | rfl | cases h
noncomputable def GOk (X:Cx) (tg:List (Nat×Str)) (g:TG):Prop:=∀ (m:List Addr) (H:Hp) (σ:L2.St) (s:BT.Sl) (x:V) (d:BT.D) (ds:List BT.D) (Q:L2.St->Hp->Prop),RS X.prog X.w X.K m H σ s->RD X.K m H x d->BT.target tg.length d=some ds →
 (∀ σ',RS X.prog X.w X.K m H σ' (BT.sets tg ds s)->Q σ' H)->g x σ H Q
theorem sCT {X:Cx}{sc:OW}{N:List Str} (O:Ok X F G sc N) {tg:List (Nat×Str)}{te:Ox} (h:CT sc N tg te) (hf:∀ q∈tg,X.fn q.2=true\/X.env.scope.names.lookup q.2=some .local):∃ g,PG X te g/\GOk X tg g:=by
 cases h with
 | @one i x p h1 h2 =>
  refine ⟨_,nv (i:=i) O.nd (by rw[O.hN];exact h1) (iL O h2) (hf (i,x) (by simp)),?_⟩
  intro m H σ s v d ds Q S r e q
  simp only[OZ,PN,UU,BT.gn] at e
  cases e
  exact q _ (S.set (.p r))
 | @two i j x y p p1 p2 k h1 h2 h3 h4 =>
  refine ⟨_,Er (n:=2) O.calm (o9 (nv (i:=i) O.nd (by rw[O.hN];exact h1) (iL O h2) (hf (i,x) (by simp))) (o9 (nv (i:=j) O.nd (by rw[O.hN];exact h3) (iL O h4) (hf (j,y) (by simp))) AK)),?_⟩
  intro m H σ s v d ds Q S r e q
  have e:BT.unpack 2 d=some ds:=e
  cases r with
  | @tup a vs dd h r =>
   rw[BT.xQ] at e
   split at e
   ·rename_i c
    cases e
    have hl:=r.length
    refine ⟨a,vs,rfl,h.elim (fun q=>.inl q.1) fun ⟨o,its,n,q,_⟩=>.inr ⟨o,its,n,q⟩,by rw[hl];exact c,?_⟩
    cases r with
    | nil=>simp at c
    | @cons v1 d1 vs' ds' ra t =>
     cases t with
     | nil=>simp at c
     | @cons v2 d2 vs2 ds2 rb t2 =>
      cases t2 with
      | cons _ _=>simp at c
      | nil =>
       refine ⟨v1,[v2],rfl,?_⟩
       show DI (o8 j) Ep [v2] (σ.set i (some v1)) H Q
       refine ⟨v2,[],rfl,?_⟩
       show Ep [] ((σ.set i (some v1)).set j (some v2)) H Q
       refine ⟨rfl,q _ ?_⟩
       show RS X.prog X.w X.K m H ((σ.set i (some v1)).set j (some v2)) ((s.set i (some (.p d1))).set j (some (.p d2)))
       exact RS.set (RS.set S (.p ra)) (.p rb)
   ·cases e
  | _=>cases e
end
end BS
end
section
namespace BC
open PySem
section
variable {prog:OO}{w:O6}{A:PL}{s:OB}
theorem vN {elt target iter:Ox}{ifs:List Ox}{scope:OW}{pos:Pos}{it acc:Oz}{env:Env}{R:UD->OB->Prop} (I:Nat->OB->Prop)
 (turn:∀ n s,I n s->wpAny (OY prog w) A (TH it) (fun r s₁=>match r with
  | none=>R (.ok .next) s₁
  | some v=>wpAny (OY prog w) A (SR target it v) (fun _ s₀=>wpAny (OY prog w) A (UB target env v) (fun _ s₂ =>
   wpAny (OY prog w) A (forIn ifs true fun c r=>if r=true then do let ok ← isTrue c env (eval c env);pure (Sa ok) else pure (Sa r)) (fun ok s₃ =>
    if ok=true then wpAny (OY prog w) A (eval elt env) (fun x s₄ =>
     wpAny (OY prog w) A (call (.builtin "list.append") [acc,x]) (fun _ s₅=>∃ m,m < n/\I m s₅) (fun _ _=>False) s₄) (fun _ _=>False) s₃
    else ∃ m,m < n/\I m s₃) (fun _ _=>False) s₂) (fun _ _=>False) s₀) (fun _ _=>False) s₁) (fun _ _=>False) s)
 (n:Nat) (h:I n s):codeAny (OY prog w) A (.compLoop (.ListComp elt [⟨target,iter,ifs,0⟩] scope pos) 0 it acc env) R s:=by
 refine codeAny_loop rfl I (fun n s hI=>?_) n h
 show wpAny _ A ((compTurn (.ListComp elt [⟨target,iter,ifs,0⟩] scope pos) 0 it acc env).onRaise (fun x=>do noteFrame x env;theTreesLotGoes x)) _ _ s
 refine wpAny_noted ?_
 rw[compTurn_list]
 refine wpAny_bind (U8 (wpAny_bind (wpAny_mono (turn n s hI) (fun r s₁ h₁=>?_) fun _ _ h'=>h'.elim)))
 cases r with
 | none=>exact wpAny_pure h₁
 | some v =>
  refine wpAny_bind (wpAny_mono h₁ (fun _ s₀ h₀'=>?_) fun _ _ h'=>h'.elim)
  refine wpAny_bind (wpAny_mono h₀' (fun _ s₂ h₂=>wpAny_bind (wpAny_mono h₂ (fun ok s₃ h₃=>?_) fun _ _ h'=>h'.elim)) fun _ _ h'=>h'.elim)
  cases ok with
  | false=>exact wpAny_pure ⟨rfl,h₃⟩
  | true =>
   exact wpAny_bind (wpAny_bind (wpAny_mono h₃ (fun x s₄ h₄=>wpAny_bind (wpAny_mono h₄ (fun _ s₅ h₅=>wpAny_pure (wpAny_pure ⟨rfl,h₅⟩)) fun _ _ h'=>h'.elim)) fun _ _ h'=>h'.elim))
end
noncomputable def cz (cells:List (Str×Addr)):List (Str×QY)->List (Str×Addr)->List (Str×Addr)
 | [],acc=>acc
 | (n,k) :: r,acc=>if k==.free then (match cells.lookup n with | some c=>cz cells r ((n,c) :: acc) | none=>cz cells r acc) else cz cells r acc
noncomputable def rL (cells:List (Str×Addr)) (names:List (Str×QY)):Prop:=∀ x∈names,x.2=.free->∃ c,cells.lookup x.1=some c
theorem lu {env:Env}:∀ (names:List (Str×QY)) (acc:List (Str×Addr)),rL env.cells names →
 (forIn names acc fun x (r:List (Str×Addr))=>(if x.2==.free then do let c ← cellOf env x.1;pure (Sa ((x.1,c) :: r)) else pure (Sa r):Sem (ForInStep (List (Str×Addr)))))=pure (cz env.cells names acc)
 | [],acc,_=>rfl
 | (n,k) :: r,acc,h=>by
  have ih:=fun acc=>lu (env:=env) r acc fun x hx=>h x (OL _ hx)
  rw[List.forIn_cons]
  by_cases c:k=.free
  ·subst c
   obtain ⟨a,e⟩:=h (n,.free) ON rfl
   have e:env.cells.lookup n=some a:=e
   simp only[cz,e]
   show (cellOf env n >>= _) >>= _=_
   unfold cellOf
   rw[e]
   exact ih _
  ·have cb:(k==Py)=false:=by simpa using c
   simp only[cz,cb]
   exact ih _
theorem jO {α β:Type}{m m':Sem α}{f:α->Sem β} (h:m=m'):(m >>= f)=(m' >>= f):=by rw[h]
theorem ly {scope:OW}{env:Env} (h:rL env.cells scope.names):closureFor scope env=pure (cz env.cells scope.names []):=by
 have:=lu (env:=env) scope.names [] h
 unfold closureFor
 exact (jO this).trans rfl
theorem lz {cells:List (Str×Addr)}:∀ {names:List (Str×QY)}{acc:List (Str×Addr)},(∀ x c,acc.lookup x=some c->cells.lookup x=some c)->∀ x c,(cz cells names acc).lookup x=some c->cells.lookup x=some c
 | [],acc,h,x,c,e=>h x c e
 | (n,k) :: r,acc,h,x,c,e=>by
  rw[cz] at e
  split at e
  ·split at e
   ·rename_i a ea
    refine lz (fun y b q=>?_) x c e
    rw[PR] at q
    split at q
    ·rename_i hy
     have:y=n:=by simpa using hy
     subst this
     cases q;exact ea
    ·exact h y b q
   ·exact lz h x c e
  ·exact lz h x c e
theorem kr {cells:List (Str×Addr)}{x:Str}:∀ {names:List (Str×QY)}{acc:List (Str×Addr)},(∃ c,acc.lookup x=some c)->∃ c,(cz cells names acc).lookup x=some c
 | [],acc,h=>h
 | (n,k) :: r,acc,h=>by
  rw[cz]
  split
  ·split
   ·refine kr ?_
    rw[PR]
    split
    ·exact ⟨_,rfl⟩
    ·exact h
   ·exact kr h
  ·exact kr h
theorem lA {cells:List (Str×Addr)}{x:Str}:∀ {names:List (Str×QY)}{acc:List (Str×Addr)},(x,Py)∈names->(∃ c,cells.lookup x=some c)->∃ c,(cz cells names acc).lookup x=some c
 | [],acc,h,_=>nomatch h
 | (n,k) :: r,acc,h,q=>by
  rw[cz]
  rcases List.mem_cons.mp h with e | e
  ·cases e
   obtain ⟨c,ec⟩:=q
   rw[if_pos (by rfl),ec]
   refine kr ?_
   exact ⟨c,by simp⟩
  ·split
   ·split
    ·exact lA e q
    ·exact lA e q
   ·exact lA e q
end BC
end
section
namespace BS
open PySem PySem.Spec PyProof.Rows L2
noncomputable def lB (F:FT) (G:Str->Option BT.W) (sc:OW) (N:List Str) (cond:BT.Es) (ifs:List Ox):Prop :=
 (cond=.nil/\ifs=[])\/∃ c c',cond=.cons c .nil/\ifs=[c']/\∀ X',Ok X' F G sc N->PT X' c' (tDT X' F G c)
structure p7 (sc:OW) (N tg:List Str) (fv:List (Nat×Str)) (scope:OW):Prop where
 k1:scope.kind=.function
 k2:sc.kind=.function
 cell:∀ y∈scope.names,y.2≠.cell
 loc:∀ y∈scope.names,y.2=.local->scope.names.lookup y.1=some .local
 free:∀ y∈scope.names,y.2=.free->sc.names.lookup y.1=some .cell
 fvs:∀ q∈fv,N[q.1]?=some q.2/\(q.2,Py)∈scope.names/\sc.names.lookup q.2=some .cell/\(aY scope sc).names.lookup q.2=some .cell
 nd:(tg++fv.map (·.2)).Nodup
theorem m6:∀ {l:List Str},iJ l=true->l.Nodup
 | [],_=>SG
 | x :: r,h=>by
  simp only[iJ,OC,Rh] at h
  refine List.nodup_cons.mpr ⟨fun z=>?_,m6 h.2⟩
  have:=h.1
  simp[z] at this
theorem JD {sc:OW}{N tg:List Str}{fv:List (Nat×Str)}{scope:OW} (h:iK sc N tg fv scope=true):p7 sc N tg fv scope:=by
 simp only[iK,OC] at h
 obtain ⟨⟨⟨⟨⟨⟨h1,h2⟩,h3⟩,h4⟩,h5⟩,h6⟩,h7⟩:=h
 rw[P7] at h3 h4 h5 h6
 refine ⟨eq_of_beq h1,eq_of_beq h2,fun y hy e=>?_,fun y hy e=>?_,fun y hy e=>?_,fun q hq=>?_,m6 h7⟩
 ·have:=h3 y hy
  rw[e] at this;simp at this
 ·have:=h4 y hy
  rw[e] at this;simpa using this
 ·have:=h5 y hy
  rw[e] at this;simpa using this
 ·have:=h6 q hq
  simp only[OC] at this
  obtain ⟨⟨⟨a,b⟩,c⟩,d⟩:=this
  exact ⟨by simpa using a,by simpa using b,by simpa using c,by simpa using d⟩
theorem iM {sc:OW}{x:Str}{k:QY} (hk:k=.cell\/k=.free):∀ {names:List (Str×QY)},(∀ y∈names,y.2≠.cell) →
 (names.map fun (n,k)=>if (k==Py&&sc.kind==.function&&sc.names.lookup n==some .cell) then (n,SD) else (n,k)).lookup x=some k->(x,Py)∈names
 | [],_,h=>by simp at h
 | (n,q) :: r,hc,h=>by
  have ih:=iM (sc:=sc) (x:=x) hk (names:=r) fun y hy=>hc y (OL _ hy)
  replace h:QZ x ((if (q==Py&&sc.kind==.function&&sc.names.lookup n==some .cell)=true then (n,SD) else (n,q)) :: (r.map fun (n,k)=>if (k==Py&&sc.kind==.function&&sc.names.lookup n==some .cell) then (n,SD) else (n,k)))=some k:=h
  have go:∀ (q':QY),(q'=q\/(q'=.cell/\q=.free))->QZ x ((n,q') :: (r.map fun (n,k)=>if (k==Py&&sc.kind==.function&&sc.names.lookup n==some .cell) then (n,SD) else (n,k)))=some k->(x,Py)∈(n,q) :: r:=by
   intro q' hq gl
   rw[PR] at gl
   split at gl
   ·rename_i hx
    have hx:x=n:=by simpa using hx
    subst hx
    have e:q'=k:=OP gl
    have hqf:q=.free:=by
     rcases hq with rfl | ⟨_,e2⟩
     ·rcases hk with z | z
      ·exact absurd (e.trans z) (hc (x,q') ON)
      ·exact e.trans z
     ·exact e2
    rw[hqf];exact ON
   ·exact OL _ (ih gl)
  by_cases c:(q==Py&&sc.kind==.function&&sc.names.lookup n==some .cell)=true
  ·rw[if_pos c] at h
   refine go .cell (.inr ⟨rfl,?_⟩) h
   simp only[OC] at c
   exact eq_of_beq c.1.1
  ·rw[if_neg c] at h
   exact go q (.inl rfl) h
noncomputable def blk (X:Cx) (N':List Str) (s2:OB) (H1:Hp) (scope:OW) (C:Addr) (fp:List Addr):Cx :=
 { X with N:=N',s₀:=s2,H₀:=H1,env:=Vd scope (BC.cz X.env.cells scope.names []) C X.env,outer:=X.stack,stack:=X.stack,ex:=fp,fn:=fun _=>false,pn:=[],xe:=fun _ _=>False }
section
variable {X:Cx}{F:FT}{G:Str->Option BT.W}{sc:OW}{N:List Str}{pins:List (Addr×Obj)}{σ:L2.St}{H1:Hp}{s2:OB}
theorem j3 {scope:OW}{x:Str}{c:Addr} (e:(BC.cz X.env.cells scope.names []).lookup x=some c):X.env.cells.lookup x=some c :=
 BC.lz (fun _ _ z=>by simp at z) x c e
theorem p8 (hsc:X.env.scope=sc) {scope:OW}{C:Addr} (x:Str):(Vd scope (BC.cz X.env.cells scope.names []) C X.env).kindOf x=(aY scope sc).names.lookup x:=by
 subst hsc;rfl
theorem tO (I1:Inv X pins σ H1 s2) (hsc:X.env.scope=sc) {scope:OW}{tg:List Str}{fv:List (Nat×Str)} (cf:p7 sc N tg fv scope) {x:Str} (hx:(x,Py)∈scope.names):∃ c,(BC.cz X.env.cells scope.names []).lookup x=some c:=by
 refine BC.lA hx (I1.ok.has x (.inl ?_))
 have:=cf.free _ hx rfl
 rw[← hsc] at this
 exact this
theorem Gi (I1:Inv X pins σ H1 s2) (hsc:X.env.scope=sc) {scope:OW}{tg:List Str}{fv:List (Nat×Str)} (cf:p7 sc N tg fv scope) {N':List Str}{C:Addr}{fp:List Addr} (hC:C=s2.heap.objs.size+1)
 (hf:∀ b∈fp,lR X pins H1 b) (hlt:∀ b∈fp,b < s2.heap.objs.size):(blk X N' s2 H1 scope C fp).Ok where
 mod:=I1.ok.mod
 kind:=cf.k1
 glob:=I1.ok.glob
 blt:=I1.ok.blt
 above:=by show s2.heap.objs.size<=C;rw[hC];exact P9 _
 inj:=fun x y c a b=>I1.ok.inj x y c (j3 a) (j3 b)
 has:=fun x hx=>by
  refine tO I1 hsc cf ?_
  have hx':(aY scope sc).names.lookup x=some .cell\/(aY scope sc).names.lookup x=some .free:=by
   rw[← p8 hsc (C:=C)];exact hx
  rcases hx' with e | e
  ·exact iM (.inl rfl) cf.cell e
  ·exact iM (.inr rfl) cf.cell e
 cab:=fun x c z=>by cases z
 hd:=I1.ok.hd
 frames:=I1.ok.frames
 stk:=.inl rfl
 exf:=fun b hb=>⟨fun z=>by
  have l:=hlt b hb
  have z:b=C:=z
  rw[z,hC] at l
  exact absurd l (Nat.not_lt.mpr (P9 _)),fun x c e=>(hf b hb).2.2.2.2.1 x c (j3 e)⟩
 bs:=I1.bs
 bsz:=Ph I1.ok.bsz I1.sz
 noex:=fun b o e hb=>by
  have q:=(I1.ok.bs b o e).1
  rcases (hf b hb).2.2.2.1 with z | z
  ·exact I1.ok.noex b o e z
  ·exact absurd (OG q) (Nat.not_lt.mpr z)
 exfs:=fun b hb z=>by
  rcases List.mem_cons.mp (I1.kG b z) with e | e
  ·exact (hf b hb).2.1 e
  ·exact (hf b hb).2.2.1 e
 iC:=I1.stack
 frf:=I1.nu
end
noncomputable def lobj (us:List Oz) (n:Nat):Obj:={ cls:=.type "list",data:=.seq us.toArray n }
section
variable {X:Cx}{F:FT}{G:Str->Option BT.W}{sc:OW}{N:List Str}{pins:List (Addr×Obj)}{σ:L2.St}{H1:Hp}{s2:OB}
noncomputable def iN (n:Nat) (σ:L2.St) (fv:List (Nat×Str)):L2.St:=OX n none++fv.map fun q=>(σ[q.1]?).getD none
theorem Cb (I1:Inv X pins σ H1 s2) (hsc:X.env.scope=sc) (hN:X.N=N) {scope:OW}{tg:List Str}{fv:List (Nat×Str)} (cf:p7 sc N tg fv scope) {C:Addr}{fp:List Addr} (hC:C=s2.heap.objs.size+1)
 (hf:∀ b∈fp,lR X pins H1 b) (hlt:∀ b∈fp,b < s2.heap.objs.size) {h1:Heap}{tk:Nat}{m:Str->Option Oz} (old:∀ b o,s2.heap.get? b=some o->h1.get? b=some o) (hns:h1.Ns C m) (hD:h1.get? s2.heap.objs.size=some (lobj [] 0)) :
 Inv (blk X (tg++fv.map (·.2)) s2 H1 scope C fp) [(s2.heap.objs.size,lobj [] 0)] (iN tg.length σ fv) H1 { s2 with heap:=h1,toks:=tk } where
 ok:=Gi I1 hsc cf hC hf hlt
 os:=rfl
 bare:=I1.bare
 base:=Un.kept old
 loc:=by
  refine ⟨m,hns,fun i x v e1 e2 e3=>?_⟩
  have e1:(tg++fv.map (·.2))[i]?=some x:=e1
  unfold iN at e2
  by_cases c:i < tg.length
  ·rw[OH (by simpa using c),Q9,if_pos c] at e2
   cases e2
  ·rw[OU (by simpa using c)] at e2
   rw[OU (by simpa using c)] at e1
   simp only[Rn,O2] at e1 e2
   cases g:fv[i - tg.length]? with
   | none=>rw[g] at e1;cases e1
   | some q =>
    rw[g] at e1 e2
    simp only[Option.map_some,RG] at e1 e2
    subst e1
    obtain ⟨f1,f2,f3,f4⟩:=cf.fvs q (OM g)
    have e2':σ[q.1]?=some (some v):=by
     cases gg:σ[q.1]? with
     | none=>rw[gg] at e2;cases e2
     | some o=>rw[gg] at e2;simp only[Vi] at e2;rw[e2]
    obtain ⟨m0,hn0,hl0⟩:=I1.loc
    obtain ⟨u,ru,lk⟩:=hl0 q.1 q.2 v (by rw[hN];exact f1) e2' (by rw[hsc];exact .inr (.inl f3))
    refine ⟨u,ru,?_⟩
    have kc:X.env.kindOf q.2=some .cell:=by
     show X.env.scope.names.lookup q.2=_
     rw[hsc];exact f3
    rcases lk with ⟨k,_⟩ | ⟨k,c,ec,o,ho,hd⟩
    ·rw[kc] at k;cases k
    ·obtain ⟨c',ec'⟩:=tO I1 hsc cf f2
     have:=j3 ec'
     rw[ec] at this
     cases this
     refine .inr ⟨.inl ?_,c,ec',o,old c o ho,hd⟩
     show (Vd scope (BC.cz X.env.cells scope.names []) C X.env).kindOf q.2=_
     rw[p8 hsc];exact f4
 cell:=fun x c e=>by
  obtain ⟨v,o,ho,hd⟩:=I1.cell x c (j3 e)
  exact ⟨v,o,old c o ho,hd⟩
 free:=I1.hok.fresh (by show s2.heap.objs.size<=C;rw[hC];exact P9 _)
 freeC:=fun x c e=>I1.freeC x c (j3 e)
 pin:=fun p hp=>by
  have e:p=(s2.heap.objs.size,lobj [] 0):=by
   have:p∈[]++[(s2.heap.objs.size,lobj [] 0)]:=hp
   simpa using this
  subst e
  refine ⟨hD,I1.hok.fresh (OE _),?_,?_,fun v z=>by cases (show Data.seq _ _=Data.cell v from z)⟩
  ·show s2.heap.objs.size≠C
   rw[hC];exact O3 (P8 _)
  ·intro z
   obtain ⟨_,o,ho,_⟩:=I1.stack.mem z
   exact absurd (OG ho) (Pi _)
 hok:=I1.hok.kept old
 len:=by
  show (iN tg.length σ fv).length=(tg++fv.map (·.2)).length
  simp[iN]
end
noncomputable def tgI:List Str->List (Nat×Str)
 | [x]=>[(0,x)]
 | [x,y]=>[(0,x),(1,y)]
 | _=>[]
theorem om {te:Ox}{x:Str} (h:nmE te=some x):∃ p,te=.Name x p:=by
 cases te with
 | Name y p=>cases h;exact ⟨p,rfl⟩
 | _=>exact absurd (show (none:Option Str)=some _ from h) (fun z=>nomatch z)
theorem zg {te a:Ox}{l:List Ox} (h:Ft te=a :: l):∃ k p,te=.Tuple (a :: l) k p:=by
 cases te with
 | Tuple xs k p=>cases h;exact ⟨k,p,rfl⟩
 | _=>exact absurd (show ([]:List Ox)=_ :: _ from h) (fun z=>nomatch z)
theorem Cc {sc:OW}{tg:List Str}{fs:List Str}{te:Ox} (h:pT sc tg te=true):CT sc (tg++fs) (tgI tg) te/\(tgI tg).length=tg.length/\∀ q∈tgI tg,sc.names.lookup q.2=some .local:=by
 have st:∀ {x:Str},sc.names.lookup x=some .local->j9 sc x=true:=fun e=>by unfold j9;rw[e]
 unfold pT at h
 rw[OC,QN,OC,P7] at h
 obtain ⟨h,ha⟩:=h
 have lo:∀ {x},x∈tg->sc.names.lookup x=some .local:=fun {x} hx=>eq_of_beq (ha x hx)
 rcases h with h | ⟨h1,h2⟩
 ·have e:=eq_of_beq h
  cases tg with
  | nil=>exact absurd (congrArg Sd e) (by simp)
  | cons x r =>
   cases r with
   | cons _ _=>exact absurd (congrArg Sd e) (by simp)
   | nil =>
    obtain ⟨p,rfl⟩:=om (Se e).symm
    have l:sc.names.lookup x=some .local:=lo ON
    exact ⟨.one rfl (st l),rfl,fun q hq=>by simp[tgI] at hq;subst hq;exact l⟩
 ·have e:=eq_of_beq h2
  obtain ⟨x,y,rfl⟩:∃ x y,tg=[x,y]:=by
   have h1:=eq_of_beq h1
   cases tg with
   | nil=>simp at h1
   | cons x r =>
    cases r with
    | nil=>simp at h1
    | cons y r =>
     cases r with
     | nil=>exact ⟨x,y,rfl⟩
     | cons _ _=>simp at h1
  cases g:Ft te with
  | nil=>rw[g] at e;exact absurd (congrArg Sd e) (by simp)
  | cons a l =>
   rw[g] at e
   cases l with
   | nil=>exact absurd (congrArg Sd e) (by simp)
   | cons b r =>
    cases r with
    | cons _ _=>exact absurd (congrArg Sd e) (by simp)
    | nil =>
     have e1:some x=nmE a:=Se e
     have e2:some y=nmE b:=Se (List.tail_eq_of_cons_eq e)
     obtain ⟨p1,rfl⟩:=om e1.symm
     obtain ⟨p2,rfl⟩:=om e2.symm
     obtain ⟨k,p,rfl⟩:=zg g
     have l1:sc.names.lookup x=some .local:=lo ON
     have l2:sc.names.lookup y=some .local:=lo (OL _ ON)
     exact ⟨.two rfl (st l1) rfl (st l2),rfl,fun q hq=>by
      simp[tgI] at hq
      rcases hq with rfl | rfl
      ·exact l1
      ·exact l2⟩
theorem Cd {tg:List Str}{d0:BT.D}{ds:List BT.D}{sl fs:BT.Sl} (h:(tgI tg).length=tg.length) (h0:tg≠[]) (hd:BT.target tg.length d0=some ds) (hl:sl.length=tg.length+fs.length) (hr:sl.drop tg.length=fs) :
 BT.sets (tgI tg) ds sl=ds.map BT.c7++fs/\(ds.map BT.c7++fs).length=tg.length+fs.length/\(ds.map BT.c7++fs).drop tg.length=fs:=by
 match tg,h,h0 with
 | [],_,h0=>exact absurd rfl h0
 | [x],_,_ =>
  simp only[OZ,PN,UU,BT.gn] at hd hl hr
  cases hd
  match sl,hl,hr with
  | a :: r,hl,hr =>
   simp only[U7,SH] at hr
   subst hr
   exact ⟨rfl,by simp[Nat.add_comm],rfl⟩
 | [x,y],_,_ =>
  have hd:BT.unpack 2 d0=some ds:=hd
  cases d0<;>simp only[BT.unpack] at hd<;>try contradiction
  split at hd
  ·rename_i c
   cases hd
   match ds,c with
   | [d1,d2],_ =>
    simp only[OZ,PN,UU] at hl hr
    match sl,hl,hr with
    | a :: b :: r,hl,hr =>
     simp only[U7,SH] at hr
     subst hr
     exact ⟨rfl,by simp;omega,rfl⟩
    | [a],hl,_=>simp at hl;omega
    | [],hl,_=>simp at hl;omega
  ·cases hd
 | x :: y :: z :: r,h,_=>simp[tgI] at h
theorem jP {s:BT.Sl}:∀ {fv:List (Nat×Str)}{fs:BT.Sl},BT.frees s fv=some fs->fs.length=fv.length/\∀ (i:Nat) (q:Nat×Str),fv[i]?=some q->fs[i]?=s[q.1]?
 | [],fs,e=>by simp[BT.frees] at e;subst e;exact ⟨rfl,fun i q z=>by simp at z⟩
 | q :: r,fs,e=>by
  simp only[BT.frees] at e
  cases g:s[q.1]? with
  | none=>rw[g] at e;cases e
  | some w =>
   rw[g] at e
   obtain ⟨fs',e1,e2⟩:=aG e
   subst e2
   obtain ⟨h1,h2⟩:=jP e1
   refine ⟨by simp[h1],fun i p z=>?_⟩
   cases i with
   | zero=>simp at z;subst z;simp[g]
   | succ i=>simpa using h2 i p (by simpa using z)
theorem vO {P:OO}{w:O6}{K:Ow}{m:List Addr}{H:Hp}{σ:L2.St}{s fs:BT.Sl}{fv:List (Nat×Str)}{n:Nat} (S:RS P w K m H σ s) (hf:BT.frees s fv=some fs):RS P w K m H (iN n σ fv) (OX n none++fs):=by
 obtain ⟨h1,h2⟩:=jP hf
 refine ⟨by simp[iN,h1],fun i y e=>?_⟩
 by_cases c:i < n
 ·rw[OH (by simpa using c),Q9,if_pos c] at e
  cases e
 ·rw[OU (by simpa using c)] at e
  simp only[Rn] at e
  have hi:i - n < fv.length:=by
   rw[← h1]
   rcases OR (i - n) fs.length with z | z
   ·exact z
   ·rw[OJ z] at e;cases e
  have g:=OF hi
  rw[h2 _ _ g] at e
  obtain ⟨v,hv,r⟩:=S.get _ _ e
  refine ⟨v,?_,r⟩
  unfold iN
  rw[OU (by simpa using c)]
  simp only[Rn,O2,g,Option.map_some,hv,Vi]
theorem Ce {f:List BT.D->BT.HH->Option (Option BT.D×BT.HH)}{n:Nat}{d:BT.D}{r rest:List BT.D}{h h2:BT.HH} (e:BT.bf f n (d :: r) h=some (rest,h2)) :
 ∃ xs o hA rest',BT.target n d=some xs/\f xs h=some (o,hA)/\BT.bf f n r hA=some (rest',h2)/\rest=(match o with | some x=>x :: rest' | none=>rest'):=by
 rw[BT.bf] at e
 cases g:BT.target n d with
 | none=>rw[g] at e;cases e
 | some xs =>
  rw[g] at e
  obtain ⟨o,hA,e1,e2⟩:=ak e
  unfold BT.vn at e2
  obtain ⟨rest',h3,e3,e4⟩:=ak e2
  unfold BT.sF at e4
  cases e4
  exact ⟨xs,o,hA,rest',rfl,e1,e3,rfl⟩
theorem Un.behind {fs ex:List Addr}{H H' H2:Hp}{h h1 h2:Heap} (u:Un fs ex H H' h h1) (a:∀ b,b < h.objs.size->H2 b=H' b) (lt:∀ b o,H b=some o->b < h.objs.size) (k:∀ b o,b < h.objs.size->h1.get? b=some o->h2.get? b=some o):Un fs ex H H2 h h2 where
 keep:=fun b o e n c d=>k b o (OG e) (u.keep b o e n c d)
 slot:=fun b o e n c d=>by obtain ⟨sl,q⟩:=u.slot b o e n c d;exact ⟨sl,k b _ (OG e) q⟩
 free:=fun b o e n d=>by rw[a b (OG e)];exact u.free b o e n d
 there:=fun b o e d=>by obtain ⟨o',q⟩:=u.there b o e d;exact ⟨o',k b o' (OG e) q⟩
 tups:=fun b xs e=>by rw[a b (lt b _ e)];exact u.tups b xs e
 frzs:=fun b o w e=>by rw[a b (lt b _ e)];exact u.frzs b o w e
 tbls:=fun b ps e=>by rw[a b (lt b _ e)];exact u.tbls b ps e
section
variable {X:Cx}{F:FT}{G:Str->Option BT.W}{sc:OW}{N:List Str}
theorem Gj (O:Ok X F G sc N) {scope:OW}{tg:List Str}{fv:List (Nat×Str)} (cf:p7 sc N tg fv scope) {s2:OB}{H1:Hp}{C:Addr}{fp:List Addr} :
 Ok (blk X (tg++fv.map (·.2)) s2 H1 scope C fp) F G (aY scope sc) (tg++fv.map (·.2)) where
 hsc:=by have:=O.hsc;subst this;rfl
 hN:=rfl
 nd:=cf.nd
 calm:=O.calm
 hu:=O.hu
 own:=Td
 glob:=O.glob
 call:=O.call
 meth:=O.meth
 mkc:=O.mkc
 blt:=O.blt
 lam:=O.lam
 lamx:=fun h=>absurd (show false=true from h "") (by decide)
noncomputable abbrev LI (X:Cx) (F:FT) (G:Str->Option BT.W) (scope:OW) (tg:List Str) (fv:List (Nat×Str)) (cond:BT.Es) (elt:BT.E) (s2:OB) (H1:Hp) (C:Addr) (fp:List Addr) (tn:Nat->Heap->Prop) (m1:List Addr) (ds outs:List BT.D) (fs:BT.Sl) (h2:BT.HH) (n:Nat) (s:OB):Prop :=
 ∃ (i:Nat) (σ':L2.St) (H':Hp) (m':List Addr) (hh:BT.HH) (out rest:List BT.D) (vs:List V) (us:List Oz) (nn:Nat) (sl:BT.Sl),
  i<=ds.length/\n=ds.length - i/\Inv (blk X (tg++fv.map (·.2)) s2 H1 scope C fp) [(s2.heap.objs.size,lobj us nn)] σ' H' s/\tn i s.heap/\(∀ b∈fp,H' b=none)/\Ext m1 H1 m' H'/\RH X.K m' H' hh ∧
  RS X.prog X.w X.K m' H' σ' sl/\sl.length=tg.length+fs.length/\sl.drop tg.length=fs/\aq vs us/\RDs X.K m' H' vs out/\BT.bf (BT.dZ (BT.evs F G cond) (BT.ev F G elt) fs) tg.length (ds.drop i) hh=some (rest,h2)/\out++rest=outs
structure Apart (X:Cx) (pins:List (Addr×Obj)) (H:Hp) (C:Addr):Prop where
 fr:H C=none
 lo:C≠X.env.locals
 ab:X.s₀.heap.objs.size<=C
 ce:∀ x c,X.env.cells.lookup x=some c->c≠C
 pi:∀ p∈X.pn++pins,p.1≠C
theorem m7 (O:Ok X F G sc N) {mu:Bool}{sr:BT.Sr}{sa:BT.Es}{tg:List Str}{fv:List (Nat×Str)}{cond:BT.Es}{elt:BT.E}{te iter elt':Ox}{ifs:List Ox}{scope:OW}{pos:Pos}
 (hk:iK sc N tg fv scope=true) (ht:pT (aY scope sc) tg te=true) (hset:iI iter=true) (hI:PI X te iter (iD X F G sr sa)) (hC:lB F G (aY scope sc) (tg++fv.map (·.2)) cond ifs)
 (hE:∀ X',Ok X' F G (aY scope sc) (tg++fv.map (·.2))->PE X' elt' (tD X' F G elt)):∀ (pins:List (Addr×Obj)) (s:OB) (σ:L2.St) (H:Hp) (Q:VK) (use:Option (Oz->Sem Unit)) (Q':Oz->OB->Prop),Inv X pins σ H s->tD X F G (.comp mu sr sa tg fv cond elt) σ H Q →
 (∀ (s6:OB) (H6:Hp) (C D:Addr) (m:Str->Option Oz),Inv X pins σ H6 s6->s6.heap.Ns C m->Apart X pins H6 C->Q (.ref D) H6->compPost (OY X.prog X.w) X.A X.xe use Q' (.ref D) C (.ok .next) s6) →
 wpAny (OY X.prog X.w) X.A (comprehension (.ListComp elt' [⟨te,iter,ifs,0⟩] scope pos) scope X.env (firstIterPos [⟨te,iter,ifs,0⟩] pos) (newList []) false (eval iter X.env) use) Q' X.xe s:=by
 have cf:=JD hk
 obtain ⟨ct,tl,tloc⟩:=Cc (fs:=fv.map (·.2)) ht
 have t0:tg≠[]:=by
  rintro rfl
  simp[pT] at ht
 intro pins s σ H Q use Q' I q hfin
 obtain ⟨m,s',h,z,h',R,S,ee,post⟩:=q
 simp only[BT.ev] at ee
 obtain ⟨ws,h1,e1,e2⟩:=ak ee
 unfold BT.xT at e2
 cases g1:(BT.rds ws h1).bind (BT.dH sr) with
 | none=>rw[g1] at e2;cases e2
 | some ds =>
  cases g2:BT.frees s' fv with
  | none=>rw[g1,g2] at e2;cases e2
  | some fs =>
   rw[g1,g2] at e2
   simp only at e2
   by_cases ca:BT.f6 ws=true
   case neg=>rw[if_neg ca] at e2;cases e2
   rw[if_pos ca] at e2
   obtain ⟨outs,h2,e3,e4⟩:=ak e2
   unfold BT.kR at e4
   by_cases cl:outs.length<=BT.lim
   case neg=>rw[if_neg cl] at e4;cases e4
   rw[if_pos cl] at e4
   have ez:BT.new mu outs h2=(z,h'):=OP e4
   have hfree:BC.rL X.env.cells scope.names:=fun x hx e=>I.ok.has x.1 (.inl (by
    have:=cf.free x hx e
    show X.env.scope.names.lookup x.1=_
    rw[O.hsc];exact this))
   refine wpAny_comprehension_free (use:=use) rfl (tN hset) (BC.ly hfree) cf.k1 cf.loc
    (thn (hI pins s σ H (fun J H1=>∃ m1,Ext m H m1 H1/\RH X.K m1 H1 h1/\vI X.K J m1 H1 ds) I ⟨m,s',h,ws,h1,ds,R,S,e1,g1,ca,fun H1 m1 J x1 R1 it=>⟨m1,x1,R1,it⟩⟩) fun v s1 hv=>thn hv fun itv s2 h2'=>?_)
   obtain ⟨it,fp,tn,J,H1,rfl,I1,T,st,hf,m1,x1,R1,ito⟩:=h2'
   have hlt:∀ b∈fp,b < s2.heap.objs.size:=fun b hb=>by
    obtain ⟨o,ho,_⟩:=T.obj 0 _ st b hb
    exact OG ho
   refine Pf (wpAny_newFunctionEnv cf.cell (by intro y hy;simp at hy) (fun h3 hns hsb=>?_) cf.k1)
   dsimp only at hns hsb ⊢
   generalize hH2:s2.heap.push { cls:=.type "list",dict:=none,data:=.seq ([]:List Oz).toArray }=H2 at hns hsb ⊢
   have hCs:H2.objs.size=s2.heap.objs.size+1:=by rw[← hH2,PM]
   have old:∀ b o,s2.heap.get? b=some o->h3.get? b=some o:=fun b o e=>hsb.extBut b o (by rw[hCs];exact O3 (Tq (OG e))) (OA _ (hH2 ▸ OA _ e))
   have hacc:h3.get? s2.heap.objs.size=some (lobj [] 0):=hsb.extBut _ _ (by rw[hCs];exact O3 (P8 _)) (OA _ (hH2 ▸ OI _ rfl))
   have I4:=Cb (tk:=s2.toks+([]:List (Str×Oz)).length) I1 O.hsc O.hN cf hCs hf hlt old hns hacc
   have O':=Gj (s2:=s2) (H1:=H1) (C:=H2.objs.size) (fp:=fp) O cf
   obtain ⟨g,hg1,hg2⟩:=sCT O' ct fun q hq=>.inr (by rw[O'.hsc];exact tloc q hq)
   have hfl:fs.length=fv.length:=(jP g2).1
   have stat:∀ {H':Hp}{o:Obj},(∀ b∈fp,H' b=none)->∀ b∈fp,lR (blk X (tg++fv.map (·.2)) s2 H1 scope H2.objs.size fp) [(s2.heap.objs.size,o)] H' b:=fun {H' o} hn b hb=>by
    refine ⟨hn b hb,?_,?_,.inl hb,fun x c e=>(hf b hb).2.2.2.2.1 x c (j3 e),fun p hp=>?_⟩
    ·show b≠H2.objs.size
     rw[hCs];exact O3 (Tq (hlt b hb))
    ·intro zz
     rcases List.mem_cons.mp (I1.kG b zz) with e | e
     ·exact (hf b hb).2.1 e
     ·exact (hf b hb).2.2.1 e
    ·have hp':p=(s2.heap.objs.size,o):=by
      have:p∈[]++[(s2.heap.objs.size,o)]:=hp
      simpa using this
     rw[hp']
     show s2.heap.objs.size≠b
     exact QA (hlt b hb)
   have loop:∀ s4:OB,s4={ s2 with heap:=h3,toks:=s2.toks+([]:List (Str×Oz)).length } →
    codeAny (OY X.prog X.w) X.A (.compLoop (.ListComp elt' [⟨te,iter,ifs,0⟩] scope pos) 0 (.ref it) (.ref s2.heap.objs.size) (Vd scope (BC.cz X.env.cells scope.names []) H2.objs.size X.env))
     (compPost (OY X.prog X.w) X.A X.xe use Q' (.ref s2.heap.objs.size) H2.objs.size) s4:=by
    rintro s4 rfl
    refine BC.vN (LI X F G scope tg fv cond elt s2 H1 H2.objs.size fp tn m1 ds outs fs h2) ?_
     ds.length ⟨0,_,H1,m1,h1,[],outs,[],[],0,_,Pq _,rfl,I4,T.keep 0 _ _ st (fun b hb o e=>old b o e),fun b hb=>(hf b hb).1,.refl _ _,R1,vO (S.ext x1) g2,by simp,by simp,.nil,.nil,by rw[SH];exact e3,rfl⟩
    rintro n s5 ⟨i,σ5,H5,m5,hh,out,rest,vs,us,nn,sl,hi,rfl,I5,st5,fr5,x5,R5,S5,sl1,sl2,rv5,rd5,go5,ou5⟩
    by_cases c:i < ds.length
    ·rw[Uk c] at go5
     obtain ⟨xs,o,hA,rest',eT,eF,eG,eR⟩:=Ce go5
     refine thn (T.item (blk X (tg++fv.map (·.2)) s2 H1 scope H2.objs.size fp) rfl rfl rfl O.calm i _ s5 σ5 H5 _ I5 (stat fr5) st5 (ito.go m5 H5 i x5 c)) fun r s6 hr=>?_
     obtain ⟨u,rfl,hr⟩:=hr
     refine thn hr fun _ s7 ⟨x,H7,I7,r7,y7,st7,fr7⟩=>?_
     obtain ⟨x7,k7,rd7⟩:=ito.yld m5 H5 hh i x H7 ds[i] x5 R5 (OF c) y7
     have R7:=R5.ext x7 k7
     have I7':=I7.pinned (stat fr7) (T.obj _ _ st7)
     obtain ⟨sq1,sq2,sq3⟩:=Cd tl t0 eT sl1 sl2
     refine thn (hg1 _ s7 σ5 H7 x u (fun σ8 H8=>H8=H7/\RS X.prog X.w X.K m5 H7 σ8 (xs.map BT.c7++fs)) I7' r7 (hg2 m5 H7 σ5 sl x ds[i] xs _ (S5.ext x7) rd7 (by rw[tl];exact eT) fun σ8 S8=>⟨rfl,by rw[← sq1];exact S8⟩)) fun _ s8 h8=>?_
     obtain ⟨σ8,H8,I8,rfl,S8⟩:=h8
     have kept:∀ {s9:OB}{σ9:L2.St}{H9:Hp},Inv (blk X (tg++fv.map (·.2)) s2 H1 scope H2.objs.size fp) ([(s2.heap.objs.size,lobj us nn)]++jD fp s7.heap) σ9 H9 s9->tn (i+1) s9.heap/\∀ b∈fp,H9 b=none:=fun {s9 σ9 H9} I9=>by
      refine ⟨T.keep _ _ _ st7 fun b hb o e=>(I9.pin (b,o) (O7 _ (O7 _ (fR hb e)))).1,fun b hb=>?_⟩
      obtain ⟨o,e,_⟩:=T.obj _ _ st7 b hb
      exact (I9.pin (b,o) (O7 _ (O7 _ (fR hb e)))).2.1
     have elem:∀ {s9:OB}{H9:Hp}{m9:List Addr}{h9:BT.HH}{w:BT.W}{hB:BT.HH}{d:BT.D},Inv (blk X (tg++fv.map (·.2)) s2 H1 scope H2.objs.size fp) ([(s2.heap.objs.size,lobj us nn)]++jD fp s7.heap) σ8 H9 s9->Ext m5 H8 m9 H9->RH X.K m9 H9 h9 →
      BT.ev F G elt (xs.map BT.c7++fs) h9=some (w,hB)->BT.lZ w hB=some (some d,hA)->o=some d →
      wpAny (OY X.prog X.w) X.A (eval elt' (Vd scope (BC.cz X.env.cells scope.names []) H2.objs.size X.env)) (fun x s₄ =>
       wpAny (OY X.prog X.w) X.A (call (.builtin "list.append") [.ref s2.heap.objs.size,x]) (fun _ s₅=>∃ m,m < ds.length - i/\LI X F G scope tg fv cond elt s2 H1 H2.objs.size fp tn m1 ds outs fs h2 m s₅) (fun _ _=>False) s₄) (fun _ _=>False) s9:=by
      intro s9 H9 m9 h9 w hB d I9 x9 R9 eE eK eO
      have ew:w=.p d/\hB=hA:=by
       unfold BT.lZ at eK
       cases w with
       | p d'=>cases eK;exact ⟨rfl,rfl⟩
       | r _=>cases eK
       | k _=>cases eK
       | c _ _=>cases eK
       | o _=>cases eK
      obtain ⟨rfl,rfl⟩:=ew
      refine thn (hE _ O' _ s9 σ8 H9 (fun v Ha=>∃ ma,Ext m9 H9 ma Ha/\RH X.K ma Ha hB/\RD X.K ma Ha v d) I9 ⟨m9,_,h9,_,hB,R9,S8.ext x9,eE,fun v Ha ma xa Ra ra=>by
       cases ra with | p ra=>exact ⟨ma,xa,Ra,ra⟩⟩) fun u10 s10 ⟨v10,H10,I10,r10,m10,x10,R10,rd10⟩=>?_
      obtain ⟨pD,nD,neD,nfD,_⟩:=I10.pin (s2.heap.objs.size,lobj us nn) (by simp)
      have lus:=rv5.length
      have lvs:=rd5.length
      have lou:out.length<=outs.length:=by rw[← ou5];simp
      have lle:=cJ
      have cl':outs.length<=BT.lim:=cl
      refine wpAny_list_append_plain ⟨nn,pD⟩ (fun h11 hp11 sb11=>?_) (by rw[OD];omega)
      obtain ⟨nn',hp11⟩:=hp11
      have hp11:h11.get? s2.heap.objs.size=some (lobj (us++[u10]) nn'):=by rw[hp11];simp[lobj]
      have sb11:PJ s2.heap.objs.size s10.heap h11:=sb11
      obtain ⟨st10,fr10⟩:=kept I10
      have I11:Inv (blk X (tg++fv.map (·.2)) s2 H1 scope H2.objs.size fp) [] σ8 H10 { s10 with heap:=h11 } :=
       Inv.turned (t':=s10.toks) (I10.kj (fun p hp=>by cases hp)) (fun b o hb e=>(sb11.2 b hb).trans e) nD neD (.inr (OE _)) (fun x c e zz=>by
        obtain ⟨v,o,ho,_⟩:=I1.cell x c (j3 e)
        have:=OG ho
        rw[zz] at this
        exact absurd this (Pi _)) fun p hp=>by cases hp
      have I12:Inv (blk X (tg++fv.map (·.2)) s2 H1 scope H2.objs.size fp) [(s2.heap.objs.size,lobj (us++[u10]) nn')] σ8 H10 { s10 with heap:=h11 }:=I11.kj fun p hp=>by
       simp only[List.mem_singleton] at hp
       subst hp
       exact ⟨hp11,nD,neD,nfD,fun v zz=>by cases (show Data.seq _ _=Data.cell v from zz)⟩
      have xt:Ext m5 H5 m10 H10:=(x7.trans x9).trans x10
      refine ⟨ds.length - (i+1),by omega,i+1,σ8,H10,m10,hB,out++[d],rest',vs++[v10],us++[u10],nn',_,c,rfl,I12,?_,fr10,x5.trans xt,R10,(S8.ext x9).ext x10,sq2,sq3,rv5.append (.cons r10 .nil),(rd5.ext xt).append (.cons rd10 .nil),eG,?_⟩
      ·refine T.keep _ _ _ st10 fun b hb o' e=>(sb11.2 b ?_).trans e
       exact O3 (hlt b hb)
      ·rw[← ou5,eR,eO,PF];rfl
     unfold BT.dZ at eF
     obtain ⟨cs,hc,eC,eK⟩:=ak eF
     rcases hC with ⟨rfl,rfl⟩ | ⟨cc,cc',rfl,rfl,hCC⟩
     ·simp only[BT.evs] at eC
      cases eC
      have eK:=(show BT.bnd _ BT.lZ=_ from eK)
      obtain ⟨w,hB,eE,eL⟩:=ak eK
      refine wpAny_tests_nil ?_
      rw[if_pos rfl]
      have:∃ d,o=some d:=by
       unfold BT.lZ at eL
       cases w with
       | p d'=>cases eL;exact ⟨_,rfl⟩
       | r _=>cases eL
       | k _=>cases eL
       | c _ _=>cases eL
       | o _=>cases eL
      obtain ⟨d,rfl⟩:=this
      exact elem I8 (.refl _ _) R7 eE eL rfl
     ·simp only[BT.evs] at eC
      obtain ⟨wc,hc2,eC1,eC2⟩:=ak eC
      simp only[BT.kT,BT.aZ,BT.iH] at eC2
      cases eC2
      have hb:∃ b,wc=.p (.bl b):=by
       cases wc with
       | p d =>
        cases d<;>first | exact ⟨_,rfl⟩ | exact aj eK
       | r _=>exact aj eK
       | k _=>exact aj eK
       | c _ _=>exact aj eK
       | o _=>exact aj eK
      obtain ⟨b,rfl⟩:=hb
      refine wpAny_tests_one (thn (hCC _ O' _ s8 σ8 H8 (fun b' Ha=>b'=b/\∃ ma,Ext m5 H8 ma Ha/\RH X.K ma Ha hc) I8 ⟨m5,_,hh,b,hc,R7,S8,eC1,fun Ha ma xa Ra=>⟨rfl,ma,xa,Ra⟩⟩) fun b' s9 ⟨H9,I9,hbb,m9,x9,R9⟩=>?_)
      subst hbb
      cases b' with
      | false =>
       have eK:=(show some ((none:Option BT.D),hc)=some _ from eK)
       cases eK
       rw[if_neg (by decide)]
       obtain ⟨st9,fr9⟩:=kept I9
       have xt:Ext m5 H5 m9 H9:=x7.trans x9
       refine ⟨ds.length - (i+1),by omega,i+1,σ8,H9,m9,hA,out,rest',vs,us,nn,_,c,rfl,I9.iV,st9,fr9,x5.trans xt,R9,S8.ext x9,sq2,sq3,rv5,rd5.ext xt,eG,?_⟩
       rw[← ou5,eR]
      | true =>
       have eK:=(show BT.bnd _ BT.lZ=_ from eK)
       rw[if_pos rfl]
       obtain ⟨w,hB,eE,eL⟩:=ak eK
       have:∃ d,o=some d:=by
        unfold BT.lZ at eL
        cases w with
        | p d'=>cases eL;exact ⟨_,rfl⟩
        | r _=>cases eL
        | k _=>cases eL
        | c _ _=>cases eL
        | o _=>cases eL
       obtain ⟨d,rfl⟩:=this
       exact elem I9 x9 R9 eE eL rfl
    ·have ei:i=ds.length:=by omega
     subst ei
     rw[List.drop_length,BT.bf] at go5
     cases go5
     rw[Pk] at ou5
     subst ou5
     refine thn (T.done (blk X (tg++fv.map (·.2)) s2 H1 scope H2.objs.size fp) rfl rfl rfl O.calm _ _ s5 σ5 H5 _ I5 (stat fr5) st5 (ito.stop m5 H5 x5)) fun r s6 ⟨hr,I6⟩=>?_
     subst hr
     obtain ⟨mm,hmm,_⟩:=I6.loc
     obtain ⟨pD,nD,neD,nfD,_⟩:=I6.pin (s2.heap.objs.size,lobj us nn) (by simp)
     have neD:s2.heap.objs.size≠H2.objs.size:=neD
     have hos:s6.os=s2.os:=I6.os
     have lus:=rv5.length
     have lvs:=rd5.length
     have lle:=cJ
     have cl':out.length<=BT.lim:=cl
     have hok:HOk X.prog X.w (upd H5 s2.heap.objs.size (.lst vs)) s6.heap:=fun b u e=>by
      by_cases eb:b=s2.heap.objs.size
      ·subst eb
       rw[aB] at e
       cases e
       exact ⟨by omega,us,nn,rv5,pD⟩
      ·rw[au eb] at e
       refine (I6.hok b u e).stay (fun c v hc q=>q) (fun c q=>?_) fun c l q=>?_
       ·rw[au (fun zz=>by rw[zz,nD] at q;cases q)];exact q
       ·rw[au (fun zz=>by rw[zz,nD] at q;cases q)];exact q
     have u7:Un (frs X.stack) fp H1 (upd H5 s2.heap.objs.size (.lst vs)) s2.heap s6.heap:=Un.behind (h1:=s6.heap) I6.base (fun b hb=>au (O3 hb)) (fun b o e=>I1.hok.lt e) fun b o hb e=>e
     have I7:=I1.call (g':=s6.gens) (t':=s6.toks) (d':=s6.drawn) (ch:=fp) u7 hok I6.bare fun b hb=>⟨(hf b hb).2.2.2.1,(hf b hb).2.1,(hf b hb).2.2.2.2.1,(hf b hb).2.2.2.2.2⟩
     have fr6:H5 H2.objs.size=none:=I6.free
     have ltC:s2.heap.objs.size < H2.objs.size:=by rw[hCs];exact P8 _
     have ap:Apart X pins (upd H5 s2.heap.objs.size (.lst vs)) H2.objs.size:=by
      refine ⟨by rw[au (PD neD)];exact fr6,?_,?_,fun x c e zz=>?_,fun p hp zz=>?_⟩
      ·exact QA (Tv I1.lt ltC)
      ·exact Ph I1.sz (PK ltC)
      ·obtain ⟨v,o,ho,_⟩:=I1.cell x c e
       have l:=OG ho
       rw[zz] at l
       exact absurd (Tv l ltC) (Pi _)
      ·have l:=OG (I1.pin p hp).1
       rw[zz] at l
       exact absurd (Tv l ltC) (Pi _)
     refine hfin s6 _ _ _ mm ?_ hmm ap (jg (mu:=mu) R5 nD rd5 (by rw[ez];exact fun v' H' m' xx RR rr=>post v' H' m' ((x1.trans x5).trans xx) RR rr))
     obtain ⟨hp6,g6,d6,t6,os6⟩:=s6
     have hos:os6=s2.os:=hos
     subst hos
     exact I7
   exact codeAny_compStart_list (loop _ rfl) (T.self _ 0 _ _ _ (T.keep 0 _ _ st (fun b hb o e=>old b o e)) (loop _ rfl))
theorem Cf (O:Ok X F G sc N) {mu:Bool}{sr:BT.Sr}{sa:BT.Es}{tg:List Str}{fv:List (Nat×Str)}{cond:BT.Es}{elt:BT.E}{te iter elt':Ox}{ifs:List Ox}{scope:OW}{pos:Pos}
 (hk:iK sc N tg fv scope=true) (ht:pT (aY scope sc) tg te=true) (hset:iI iter=true) (hI:PI X te iter (iD X F G sr sa)) (hC:lB F G (aY scope sc) (tg++fv.map (·.2)) cond ifs)
 (hE:∀ X',Ok X' F G (aY scope sc) (tg++fv.map (·.2))->PE X' elt' (tD X' F G elt)):PE X (.ListComp elt' [⟨te,iter,ifs,0⟩] scope pos) (tD X F G (.comp mu sr sa tg fv cond elt)):=by
 intro pins s σ H Q I q
 rw[eval_ListComp]
 refine m7 O hk ht hset hI hC hE pins s σ H Q none _ I q fun s6 H6 C D m I6 hn ap hq=>?_
 refine ⟨m,hn,fun h7 sb7=>?_⟩
 have sb7:PJ C s6.heap h7:=sb7
 exact ⟨.ref D,H6,Inv.turned (t':=s6.toks) I6 (fun b o hb e=>(sb7.2 b hb).trans e) ap.fr ap.lo (.inr ap.ab) ap.ce ap.pi,rfl,hq⟩
theorem Cg (O:Ok X F G sc N) {i:Nat}{y:Str}{mu:Bool}{sr:BT.Sr}{sa:BT.Es}{tg:List Str}{fv:List (Nat×Str)}{cond:BT.Es}{elt:BT.E}{te iter elt':Ox}{ifs:List Ox}{scope:OW}{pos py spos:Pos}
 (hk:iK sc N tg fv scope=true) (ht:pT (aY scope sc) tg te=true) (hset:iI iter=true) (hI:PI X te iter (iD X F G sr sa)) (hC:lB F G (aY scope sc) (tg++fv.map (·.2)) cond ifs)
 (hE:∀ X',Ok X' F G (aY scope sc) (tg++fv.map (·.2))->PE X' elt' (tD X' F G elt)) (hy:N[i]?=some y) (hl:sc.names.lookup y=some .local)
 (hsw:RN (.ListComp elt' [⟨te,iter,ifs,0⟩] scope pos) (some (.Name y py)) spos.line X.env=pure true) :
 PS X (.Assign [.Name y py] (.ListComp elt' [⟨te,iter,ifs,0⟩] scope pos) spos) (uS (tD X F G (.comp mu sr sa tg fv cond elt)) (o8 i)):=by
 intro pins s σ H D I q
 rw[exec_Assign_Name_used _ _ _ _ hsw]
 refine wpAny_bind (U8 (wpAny_bind ?_))
 show wpAny _ X.A (do let _ ← comprehension (.ListComp elt' [⟨te,iter,ifs,0⟩] scope pos) scope X.env _ (newList []) false (eval iter X.env) (some (UB (.Name y py) X.env))) _ _ s
 refine wpAny_bind (thn (m7 O hk ht hset hI hC hE pins s σ H _ (some (UB (.Name y py) X.env)) (fun _ s'=>SP X pins D .next s') I q fun s6 H6 C D' m I6 hn ap hq=>?_) fun _ s' hq=>wpAny_pure (wpAny_pure hq))
 show wpAny _ X.A (UB (.Name y py) X.env (.ref D')) _ _ _
 refine wpAny_assign_Name (mO I6 O.nd (by rw[O.hN];exact hy) (.inl (by rw[O.hsc];exact hl)) (v:=.ref D') rfl (fun s7 I7 hs=>?_) (.inr (by rw[O.hsc];exact hl)))
 obtain ⟨a,sb,ha⟩:=hs
 have neC:C≠a:=by
  rcases ha with rfl | ha
  ·exact ap.lo
  ·exact fun z=>ap.ce y a ha z.symm
 refine ⟨m,hn.sameBut sb neC,fun h8 sb8=>?_⟩
 have sb8:PJ C s7.heap h8:=sb8
 exact ⟨_,H6,Inv.turned (t':=s7.toks) I7 (fun b o hb e=>(sb8.2 b hb).trans e) ap.fr ap.lo (.inr ap.ab) ap.ce ap.pi,hq⟩
end
end BS
end
section
namespace BS
open PySem PySem.Spec PyProof.Rows L2
section
variable {F:FT}{G:Str->Option BT.W}
theorem vP {X:Cx}{v:V}{ds:List BT.D} (r:∀ m H,RW X.prog X.w X.K m H v (.p (.tup ds))):∃ a vs,v=.ref a/\KT X.K a vs:=by
 have z:=r [] (fun _=>none)
 cases z with
 | p z =>
  cases z with
  | @tup a vs _ h _ =>
   rcases h with ⟨h,_⟩ | h
   ·rcases h with h | ⟨o,h⟩<;>cases h
   ·exact ⟨a,vs,rfl,h⟩
theorem vQ {X:Cx}{sc:OW}{N:List Str} (O:Ok X F G sc N) {x:Str}{as:BT.Es}{es:List Ox}{np apos cpos:Pos} (h2:aF sc x=true) (h3:cu x=true) (hl:(apos.endLine==cpos.line)=true) (hlen:es.length < 20) (hc:CEs sc N as es) (ha:PA X es (tDs X F G as)) :
 PE X (.Call (.Attribute (.Name x np) "index" apos) es [] cpos) (tD X F G (.me .tindex (.glo x) as)):=by
 have hst:=c9 hc
 intro pins s σ H Q I q
 obtain ⟨m,s',h,z,h',R,S,ee,post⟩:=q
 simp only[BT.ev] at ee
 obtain ⟨w,g,e1,e2⟩:=ak ee
 obtain ⟨_,e2⟩:=sQ e2
 obtain ⟨ws,g2,e3,e4⟩:=ak e2
 obtain ⟨w',e5,e6⟩:=aG e1
 cases e6
 obtain ⟨u,v0,hm,rv,rw0⟩:=O.glob _ _ e5
 have hT:∃ ds xs,BT.aV ws=some ds/\w=.p (.tup xs)/\ds≠[]:=by
  cases w with
  | r n=>cases ws<;>(first | (cases e4;done) | simp[BT.meW] at e4)
  | k q=>cases ws<;>(first | (cases e4;done) | simp[BT.meW] at e4)
  | c _ _=>cases ws<;>(first | (cases e4;done) | simp[BT.meW] at e4)
  | o q=>cases ws<;>(first | (cases e4;done) | simp[BT.meW] at e4)
  | p d =>
   rw[BT.kP] at e4
   cases gp:BT.aV ws with
   | none=>rw[gp] at e4;cases e4
   | some ds =>
    rw[gp] at e4
    obtain ⟨b,e7,e8⟩:=aG e4
    cases d with
    | tup xs=>refine ⟨ds,xs,rfl,rfl,fun z=>?_⟩;subst z;exact aj e7
    | _=>cases ds<;>exact aj e7
 obtain ⟨ds,xs,gp,rfl,hne⟩:=hT
 obtain ⟨a,vt,rfl,o,its,n,⟨k1,k2,k3,k4,k5⟩,k6⟩:=vP rw0
 cases es with
 | nil =>
  cases as with
  | cons a r=>cases hc
  | nil=>simp only[BT.evs] at e3;cases e3;simp[BT.aV] at gp;exact absurd gp hne
 | cons e es =>
  simp only[av,OC] at hst
  have h30:decide ((e :: es).length+([]:List Tt).length+(if ([]:List Tt).isEmpty then 0 else 1) < 30)=true:=decide_eq_true (by
   simp only[OZ,PN,List.isEmpty_nil,if_true] at hlen ⊢;omega)
  refine (DN PySem.F.plainAttrs_tuple PySem.F.slot_tuple_index PySem.F.type_tuple_index (vF O.hu) (rZ (aT O h2) hm rv (dJ h3).1) ha rfl (by
   rw[jk (es:=e :: es) (by simp only[av,OC];exact hst),h30];rfl) hl (ah hst.1) (aH hst.2)) pins s σ H Q I ?_
  refine ⟨.inr (.inl ⟨rfl,o,k1,k2,k6⟩),m,s',h,ws,g2,R,S,e3,fun vs H2 m2 x2 R2 r2=>?_⟩
  exact ⟨m2,g2,.p (.tup xs),ws,z,h',R2,rw0 m2 H2,r2,e4,fun v5 H5 m5 x5 R5 r5=>post v5 H5 m5 (x2.trans x5) R5 r5⟩
theorem Gk {X:Cx}{me:BT.Me} (hm:me=.append\/me=.pop\/me=.extend) {o:BT.E}:∀ (m:List Addr) (h h2:BT.HH) (H:Hp) (v:V) (x:BT.W) ws r,RH X.K m H h->RW X.prog X.w X.K m H v x->BT.pQ x h=true->BT.meW me x ws h2=some r->(∃ σ s,RS X.prog X.w X.K m H σ s/\∃ h0,BT.ev F G o s h0=some (x,h))->tyV X.K "list" v H:=by
 intro m h h2 H v x ws r R rq ok e _
 obtain ⟨n,rfl⟩:=M5 hm e
 exact ty_list R rq ok
theorem M6 {X:Cx}{e:BT.E} (σ:L2.St) (H:Hp) (Q:Bool->Hp->Prop) (q:tDT X F G e σ H Q):tB (tD X F G e) σ H Q:=by
 obtain ⟨m,s,h0,b,h',R,S,ee,post⟩:=q
 refine ⟨m,s,h0,_,h',R,S,ee,fun v H' m' x R' r=>?_⟩
 exact ⟨b,jL r,post H' m' x R'⟩
noncomputable def XE (F:FT) (G:Str->Option BT.W) (X:Cx) (e':BT.E) (e:Ox):Prop:=PE X e (tD X F G e')/\(tOK e'=true->PT X e (tDT X F G e')/\∀ op vs p,e=.BoolOp op vs p->PW X e (tDT X F G e'))
noncomputable def XO (F:FT) (G:Str->Option BT.W) (X:Cx) (es':BT.Es) (o:Option Ox):Prop:=∃ t,PO X o t ∧
 ∀ σ H (Q:Option Int->Hp->Prop),(∃ m s h l zs h',RH X.K m H h/\RS X.prog X.w X.K m H σ s/\BT.evs F G es' s h=some (zs,h')/\(BT.aV zs).bind BT.nG=some l/\∀ H' m',Ext m H m' H'->RH X.K m' H' h'->Q l H')->t σ H Q
theorem bR {X:Cx}{e':BT.E}{e:Ox} (p:PE X e (tD X F G e')) (hb:∀ op vs q,e≠.BoolOp op vs q) (he:∀ whole,isTrue e X.env whole=(do let v ← whole;standAt e.pos;holding [v] (truthy v)):=by intro _;rfl):XE F G X e' e :=
 ⟨p,fun _=>⟨PT.weak (Ei p he) M6,fun op vs q z=>absurd z (hb op vs q)⟩⟩
theorem Gm {X:Cx}:XO F G X .nil none:=⟨_,A3,fun σ H Q q=>by
 obtain ⟨m,s,h,l,zs,h',R,S,e1,e2,post⟩:=q
 simp only[BT.evs] at e1
 cases e1
 simp[BT.aV,BT.nG] at e2
 subst e2
 exact post H m (.refl _ _) R⟩
theorem Gn {X:Cx}{a:BT.E}{e:Ox} (ha:PE X e (tD X F G a)):XO F G X (.cons a .nil) (some e):=by
 refine ⟨_,A4 ha,fun σ H Q q=>?_⟩
 obtain ⟨m,s,h,l,zs,h',R,S,e1,e2,post⟩:=q
 simp only[BT.evs] at e1
 obtain ⟨x,h1,e3,e4⟩:=ak e1
 simp only[BT.kT,BT.aZ,BT.iH] at e4
 cases e4
 refine ⟨m,s,h,x,h',R,S,e3,fun v H1 m1 x1 R1 r1=>?_⟩
 cases r1 with
 | r _=>simp[BT.aV] at e2
 | k _ _=>simp[BT.aV] at e2
 | c _ _=>simp[BT.aV] at e2
 | g _ _=>simp[BT.aV] at e2
 | o _=>simp[BT.aV] at e2
 | p r =>
  cases r<;>simp[BT.aV,BT.nG] at e2
  subst e2
  exact ⟨_,rfl,post H1 m1 x1 R1⟩
theorem iO {X:Cx}{a:BT.E}{e:Ox} (ha:PE X e (tD X F G a)) (hs:noStar e=true):PA X [e] (tDs X F G (.cons a .nil)) :=
 PA.weak (gP ha ny (ah hs)) fun σ H Q q=>by
  obtain ⟨m,s,h,z0,h',R,S,ee,post⟩:=cons_of σ H Q q
  exact ⟨m,s,h,z0,h',R,S,ee,fun v H1 m1 x1 R1 r1=>g9 (post v H1 m1 x1 R1 r1)⟩
theorem rM {X:Cx}{a b:BT.E}{e f:Ox} (ha:PE X e (tD X F G a)) (hb:PE X f (tD X F G b)) (hs:noStar e=true) (hs2:noStar f=true):PA X [e,f] (tDs X F G (.cons a (.cons b .nil))) :=
 PA.weak (gP ha (iO hb hs2) (ah hs)) cons_of
theorem sMe {X:Cx}{sc:OW}{N:List Str} (O:Ok X F G sc N) {m:BT.Me}{o:BT.E}{as:BT.Es}{oe:Ox}{name:Str}{apos cpos:Pos}{es:List Ox} (h1:yl m o=true) (h2:name=yj m) (h3:aE oe=true) (h6:(apos.endLine==cpos.line)=true) (h7:es.length < 20) (ho:CE' sc N o oe) (ha:CEs sc N as es) (hO:PE X oe (tD X F G o)) (hA:PA X es (tDs X F G as)) :
 PE X (.Call (.Attribute oe name apos) es [] cpos) (tD X F G (.me m o as)):=by
 subst h2
 cases m with
 | append=>exact rE (sc:=sc) (N:=N) RU PySem.F.slot_list_append PySem.F.type_list_append vD h3 h6 h7 hO ha hA (Gk (.inl rfl))
 | pop=>exact rE (sc:=sc) (N:=N) RU PySem.F.slot_list_pop PySem.F.type_list_pop FI h3 h6 h7 hO ha hA (Gk (.inr (.inl rfl)))
 | extend=>exact rE (sc:=sc) (N:=N) RU PySem.F.slot_list_extend PySem.F.type_list_extend vE h3 h6 h7 hO ha hA (Gk (.inr (.inr rfl)))
 | sindex=>simp[yl] at h1
 | tindex =>
  cases ho with
  | glo hg hn=>exact vQ O hg hn h6 h7 ha hA
  | _=>simp[yl,yk] at h1
 | dget=>simp[yl] at h1
theorem JE {X:Cx}{a b:BT.E}{x:Ox}{r:List Ox}{p:Pos} (pe:PE X (.BoolOp .And (x :: r) p) (tD X F G (.and a b))) (w:tOK (.and a b)=true->PW X (.BoolOp .And (x :: r) p) (tDT X F G (.and a b))):XE F G X (.and a b) (.BoolOp .And (x :: r) p) :=
 ⟨pe,fun ht=>⟨(w ht).pt,fun _ _ _ e=>by cases e;exact w ht⟩⟩
theorem sOr {X:Cx}{a b:BT.E}{x:Ox}{r:List Ox}{p:Pos} (pe:PE X (.BoolOp .Or (x :: r) p) (tD X F G (.or a b))) (w:tOK (.or a b)=true->PW X (.BoolOp .Or (x :: r) p) (tDT X F G (.or a b))):XE F G X (.or a b) (.BoolOp .Or (x :: r) p) :=
 ⟨pe,fun ht=>⟨(w ht).pt,fun _ _ _ e=>by cases e;exact w ht⟩⟩
theorem ku {a b:BT.E} (h:tOK (.and a b)=true):tOK a=true/\tOK b=true:=by
 have h:(tOK a&&tOK b)=true:=h
 simpa only[OC] using h
theorem oq {a b:BT.E} (h:tOK (.or a b)=true):tOK a=true/\tOK b=true:=by
 have h:(tOK a&&tOK b)=true:=h
 simpa only[OC] using h
theorem sX {sc:OW}{N:List Str}{e':BT.E}{e:Ox} (h:CE' sc N e' e) {X:Cx} (O:Ok X F G sc N):XE F G X e' e:=by
 refine @CE'.rec (fun sc N e' e _=>∀ (X:Cx),Ok X F G sc N->XE F G X e' e) (fun sc N as es _=>∀ (X:Cx),Ok X F G sc N->PA X es (tDs X F G as)) (fun sc N es' o _=>∀ (X:Cx),Ok X F G sc N->XO F G X es' o) (fun sc N cond ifs _=>lB F G sc N cond ifs) (fun sc N sr sa iter _=>∀ (X:Cx),Ok X F G sc N->∀ (tg:Ox),pS sr tg=true->PI X tg iter (iD X F G sr sa))
  (fun h1 h2 h3 X O=>bR (n9 O h1 h2 h3) (fun _ _ _ z=>nomatch z))
  (fun h X O=>bR (BK h) (fun _ _ _ z=>nomatch z))
  (fun h2 h3 X O=>bR (BN O h2 h3) (fun _ _ _ z=>nomatch z))
  (fun h _ _ ia ib X O=>bR (PE.weak (Ig (opB h) (ia _ O).1 (ib _ O).1) (n8 fun s h=>by simp only[BT.ev])) (fun _ _ _ z=>nomatch z))
  (fun _ ia X O=>bR (PE.weak (DJ wN (ia _ O).1) FU) (fun _ _ _ z=>nomatch z))
  (fun _ ia X O=>⟨PE.weak (El (ia _ O).1) BU,fun ht=>⟨PT.weak (Ek ((ia _ O).2 ht).1) BQ,fun _ _ _ e=>nomatch e⟩⟩)
  (fun _ _ ia ib X O=>JE (PE.weak (wD (ia _ O).1 (wC (ib _ O).1)) sU) fun ht=>PW.weak (wB ((ia _ O).2 (ku ht).1).1 (AG ((ib _ O).2 (ku ht).2).1)) sV)
  (fun _ _ ia ib X O=>JE (PE.weak (wD (ia _ O).1 (ib _ O).1) sU) fun ht=>PW.weak (wB ((ia _ O).2 (ku ht).1).1 (((ib _ O).2 (ku ht).2).2 _ _ _ rfl)) sV)
  (fun _ _ ia ib X O=>sOr (PE.weak (DH (ia _ O).1 (wC (ib _ O).1)) yI) fun ht=>PW.weak (DE ((ia _ O).2 (oq ht).1).1 (Ej ((ib _ O).2 (oq ht).2).1)) yJ)
  (fun _ _ ia ib X O=>sOr (PE.weak (DH (ia _ O).1 (ib _ O).1) yI) fun ht=>PW.weak (DE ((ia _ O).2 (oq ht).1).1 (((ib _ O).2 (oq ht).2).2 _ _ _ rfl)) yJ)
  (fun h _ _ hm ia ib X O=>⟨PE.weak (AS (opC O h) (ia _ O).1 (ib _ O).1 hm) (n8 fun s h=>by simp only[BT.ev]),fun _=>⟨PT.weak (AU (opC O h) (ia _ O).1 (ib _ O).1 hm) (pV (n8 fun s h=>by simp only[BT.ev])),fun _ _ _ e=>nomatch e⟩⟩)
  (fun h h' _ _ _ hm ia ib ic X O=>⟨PE.weak (wR (opC O h) (opC O h') (ia _ O).1 (ib _ O).1 (ic _ O).1 hm) pW,fun _=>⟨PT.weak (wU (opC O h) (opC O h') (ia _ O).1 (ib _ O).1 (ic _ O).1 hm) (pV pW),fun _ _ _ e=>nomatch e⟩⟩)
  (fun h _ _ _ ic ia ib X O=>⟨PE.weak (wF ((ic _ O).2 h).1 (ia _ O).1 (ib _ O).1) FQ,fun ht=>nomatch ht⟩)
  (fun _ ia X O=>⟨PE.weak (EI (ia _ O)) FZ,fun ht=>nomatch ht⟩)
  (fun _ ia X O=>⟨PE.weak (EJ (ia _ O)) F3,fun ht=>nomatch ht⟩)
  (fun _ _ hs ia ii X O=>bR (PE.weak (Iz FH (ia _ O).1 (ii _ O).1 (yF hs)) (n8 fun s h=>by simp only[BT.ev])) (fun _ _ _ z=>nomatch z))
  (fun _ _ _ ia il iu X O=>bR (by
   obtain ⟨tl,hl1,hl2⟩:=il _ O
   obtain ⟨tu,hu1,hu2⟩:=iu _ O
   exact PE.weak (xo osl (ia _ O).1 hl1 hu1) (FW hl2 hu2)) (fun _ _ _ z=>nomatch z))
  (fun hg hn ha ia X O=>bR (yK O hg hn ha (ia _ O)) (fun _ _ _ z=>nomatch z))
  (fun hg hg2 hs _ ia X O=>bR (zf O hg hg2 hs (iO (ia _ O).1 hs)) (fun _ _ _ z=>nomatch z))
  (fun hg hg2 hs _ ia X O=>bR (y9 O hg hg2 hs (iO (ia _ O).1 hs)) (fun _ _ _ z=>nomatch z))
  (fun hg hg2 hs _ ia X O=>bR (zc O hg hg2 hs (iO (ia _ O).1 hs)) (fun _ _ _ z=>nomatch z))
  (fun hb hg hs _ ia X O=>bR (FY O hb hg (by simp[av,hs]) (iO (ia _ O).1 hs)) (fun _ _ _ z=>nomatch z))
  (fun hb hg hg2 hs _ ia X O=>bR (yL O hb hg hg2 hs (ia _ O).1) (fun _ _ _ z=>nomatch z))
  (fun h1 h2 h3 h6 h7 ho ha io ia X O=>bR (sMe O h1 h2 h3 h6 h7 ho ha (io _ O).1 (ia _ O)) (fun _ _ _ z=>nomatch z))
  (fun hk ht hz hs _ _ _ ii ic ie X O=>⟨Cf O hk ht hs (ii _ O _ hz) ic fun X' O'=>(ie _ O').1,fun ht=>nomatch ht⟩)
  (fun hb hf _ ia X O=>bR (BW (sc:=sc) (N:=N) hb hf (ia _ O).1) (fun _ _ _ z=>nomatch z))
  (fun h3 h6 h7 _ ha io ia X O=>bR (yN O h3 h6 h7 (io _ O).1 ha (ia _ O)) (fun _ _ _ z=>nomatch z))
  (fun hk _ ia X O=>bR (BY hk (ia _ O).1) (fun _ _ _ z=>nomatch z))
  (fun hb hg hs1 hs2 _ _ ia ib X O=>bR (BZ O hb hg (by simp[av,hs1,hs2]) (rM (ia _ O).1 (ib _ O).1 hs1 hs2)) (fun _ _ _ z=>nomatch z))
  (fun hg hn ha ia X O=>bR (yO O hg hn ha (ia _ O)) (fun _ _ _ z=>nomatch z))
  (fun h1 h2 h3 ha ia X O=>bR (yT O h1 h2 h3 ha (ia _ O)) (fun _ _ _ z=>nomatch z))
  (fun X O=>bR B6 (fun _ _ _ z=>nomatch z))
  (fun hg h3 h6 _ io X O=>bR (Gg O hg h3 h6 (io _ O).1) (fun _ _ _ z=>nomatch z))
  (fun X O=>PA.weak ny fun σ H Q q=>g9 q)
  (fun hs _ _ ia ir X O=>PA.weak (gP (ia _ O).1 (ir _ O) (ah hs)) cons_of)
  (fun X O=>Gm)
  (fun _ ia X O=>Gn (ia _ O).1)
  (.inl ⟨rfl,rfl⟩)
  (fun ht _ ia=>.inr ⟨_,_,rfl,rfl,fun X' O'=>((ia _ O').2 ht).1⟩)
  (fun hg hs _ ia X O _ _=>pY O hg hs (iO (ia _ O).1 hs))
  (fun hg hs hs2 _ _ ia ib X O _ _=>pZ O hg hs hs2 (rM (ia _ O).1 (ib _ O).1 hs hs2))
  (fun hg hs _ ia X O _ _=>tK O hg hs (ia _ O).1)
  (fun _ ia X O _ _=>tH (ia _ O).1)
  sc N e' e h X O
theorem sE {sc:OW}{N:List Str}{e':BT.E}{e:Ox} (h:CE' sc N e' e) {X:Cx} (O:Ok X F G sc N):PE X e (tD X F G e'):=(sX h O).1
theorem sT {sc:OW}{N:List Str}{e':BT.E}{e:Ox} (h:CE' sc N e' e) {X:Cx} (O:Ok X F G sc N) (ht:tOK e'=true):PT X e (tDT X F G e')/\∀ op vs p,e=.BoolOp op vs p->PW X e (tDT X F G e'):=(sX h O).2 ht
theorem sCC {sc:OW}{N:List Str}{cond:BT.Es}{ifs:List Ox} (h:CC sc N cond ifs):lB F G sc N cond ifs:=by
 cases h with
 | nil=>exact .inl ⟨rfl,rfl⟩
 | one ht ha=>exact .inr ⟨_,_,rfl,rfl,fun X' O'=>(sT ha O' ht).1⟩
theorem sCI {sc:OW}{N:List Str}{sr:BT.Sr}{sa:BT.Es}{iter:Ox} (h:CI sc N sr sa iter) {X:Cx} (O:Ok X F G sc N) {tg:Ox} (hz:pS sr tg=true):PI X tg iter (iD X F G sr sa):=by
 cases h with
 | seq h=>exact tH (sE h O)
 | rng1 hg hs h=>exact pY O hg hs (iO (sE h O) hs)
 | rng2 hg hs hs2 ha hb=>exact pZ O hg hs hs2 (rM (sE ha O) (sE hb O) hs hs2)
 | rev hg hs h=>exact tK O hg hs (sE h O)
end
end BS
end
section
namespace BS
open PySem PySem.Spec PyProof.Rows L2
noncomputable def mk3 (H:Hp) (P c f:Addr) (t c0 f0:HO):Hp:=upd (upd (upd H P t) c c0) f f0
theorem b8 {H:Hp}{P c f a:Addr}{t c0 f0 u:HO}{ps:Array Oz} (hP:H P=some (.tbl ps)) (hc:H c=none) (hf:H f=none) (e:H a=some u) (n:yr u=false):mk3 H P c f t c0 f0 a=some u:=by
 unfold mk3
 rw[au (az e hf),au (az e hc),au (fun z=>by subst z;rw[hP] at e;cases e;cases n)];exact e
theorem rN {pos:Pos}{a b:Int}{v0 v:Oz} (l:List Oz) (h:TriplesOk l) (e:RP pos (l++[QH a,QH b,v0])=some v):RP pos l=some v\/v=v0:=by
 fun_induction TriplesOk l with
 | case1 =>
  simp only[Q8,QH,RP] at e
  split at e
  ·cases e;exact .inr rfl
  ·cases e
 | case2 a' t b' u x rest ih =>
  simp only[List.cons_append,RP] at e ⊢
  split at e
  ·rename_i hc;rw[if_pos hc];exact .inl e
  ·rename_i hc;rw[if_neg hc];exact ih h e
 | case3 l h1 h2=>exact h.elim
structure Made (X:Cx) (pins:List (Addr×Obj)) (σ:L2.St) (m:List Addr) (H:Hp) (h:BT.HH) (q:Str) (pa:QI) (be:Ox) (sc:OW) (cl:List (Str×Addr)) (f:Addr) (H3:Hp) (s3:OB):Prop where
 inv:Inv X pins σ H3 s3
 ext:Ext m H m H3
 rh:RH X.K m H3 h
 ex:∃ pm ctv c' oc os t,Tr m H3 f (Sg "<lambda>" q pa be sc cl pm c' ctv)/\Tr m H3 c' oc/\oc.data=.fields os/\os[1]?=some (.str q t)
theorem Ci {X:Cx}{pins:List (Addr×Obj)}{σ:L2.St}{H:Hp}{s:OB}{m:List Addr}{h:BT.HH} (I:Inv X pins σ H s) (R:RH X.K m H h) {x:Str} (lx:LX X x) {c P:Addr} (tc:Pw X.K x=some (c,P)) {ps:Array Oz} (hP:H P=some (.tbl ps))
 (ht:TriplesOk ps.toList) (hall:∀ pos v,RP pos ps.toList=some v->∃ c' oc os t,v=.ref c'/\H c'=some (.frz oc (.own 0))/\oc.data=.fields os/\os[1]?=some (.str (vv x) t))
 (uniq:∀ y∈BT.dD,∀ c2,Pw X.K y=some (c2,P)->y=x)
 {pos:Pos} (hn:RP pos ps.toList=none) {c' f:Addr}{h':Heap}{tk:Nat}{fo:Obj} (hfo:fo.isFreed=false) {oc:Obj}{os:Array Oz}{t:Tok} (hx:TX P s.heap h') (hge:s.heap.objs.size<=c') (hlt:c' < h'.objs.size) (ho:h'.get? c'=some oc) (hd:oc.data=.fields os) (hq:os[1]?=some (.str (vv x) t))
 (hT:h'.get? P=some (QU (ps++#[QH pos.line,QH pos.col,.ref c']))) :
 Inv X pins σ (mk3 H P c' h'.objs.size (.tbl (ps++#[QH pos.line,QH pos.col,.ref c'])) (.frz oc (.own 0)) (.frz fo (.own 0))) { s with heap:=h'.push fo,toks:=tk }/\Ext m H m (mk3 H P c' h'.objs.size (.tbl (ps++#[QH pos.line,QH pos.col,.ref c'])) (.frz oc (.own 0)) (.frz fo (.own 0))) ∧
 RH X.K m (mk3 H P c' h'.objs.size (.tbl (ps++#[QH pos.line,QH pos.col,.ref c'])) (.frz oc (.own 0)) (.frz fo (.own 0))) h:=by
 have hPs:s.heap.get? P=some (QU ps):=I.hok _ _ hP
 have szP:P < s.heap.objs.size:=OG hPs
 have cP:c'≠P:=fun z=>by rw[z] at hge;exact absurd szP (Nat.not_lt.mpr hge)
 have fP:h'.objs.size≠P:=fun z=>by rw[← z] at szP;exact absurd (O1 szP hge) (Nat.not_lt.mpr (PK hlt))
 have fc:h'.objs.size≠c':=QA hlt
 have fr:∀ a,s.heap.objs.size<=a->H a=none:=fun a ha=>I.hok.fresh ha
 have hc:=fr c' hge
 have hf:=fr h'.objs.size (PK (Tf hge hlt))
 have at1:∀ t c0 f0,mk3 H P c' h'.objs.size t c0 f0 h'.objs.size=some f0:=fun _ _ _=>aB
 have at2:∀ t c0 f0,mk3 H P c' h'.objs.size t c0 f0 c'=some c0:=fun _ _ _=>by unfold mk3;rw[au (PD fc),aB]
 have at3:∀ t c0 f0,mk3 H P c' h'.objs.size t c0 f0 P=some t:=fun _ _ _=>by unfold mk3;rw[au (PD fP),au (PD cP),aB]
 have at4:∀ t c0 f0 b,b≠P->b≠c'->b≠h'.objs.size->mk3 H P c' h'.objs.size t c0 f0 b=H b:=fun _ _ _ b n1 n2 n3=>by unfold mk3;rw[au n3,au n2,au n1]
 have nP:∀ b,H b=none->b≠P:=fun b e z=>by rw[z,hP] at e;cases e
 have lt:∀ b o,s.heap.get? b=some o->b≠c'/\b≠h'.objs.size:=fun b o e=>by
  have l:=OG e
  exact ⟨fun z=>by rw[z] at l;exact absurd l (Nat.not_lt.mpr hge),fun z=>by rw[z] at l;exact absurd (O1 l hge) (Nat.not_lt.mpr (PK hlt))⟩
 have kp:∀ b o,b≠P->s.heap.get? b=some o->(h'.push fo).get? b=some o:=fun b o n e=>OA _ (hx b o n e)
 refine ⟨I.un ⟨fun b o e n _ _=>kp b o (nP b n) e,fun b o e n _ _=>⟨o.slots,kp b o (nP b n) e⟩,fun b o e n _=>?_,fun b o e _=>?_,fun b xs e=>b8 hP hc hf e rfl,fun b o u e=>b8 hP hc hf e rfl,fun b qs e=>?_⟩ fun b u e=>?_,?_,?_⟩
 ·rw[at4 _ _ _ b (nP b n) (lt b o e).1 (lt b o e).2];exact n
 ·by_cases z:b=P
  ·exact ⟨_,by rw[z];exact OA _ hT⟩
  ·exact ⟨o,kp b o z e⟩
 ·by_cases z:b=P
  ·subst z;rw[hP] at e;cases e;exact ⟨_,at3 _ _ _⟩
  ·exact ⟨#[],by rw[at4 _ _ _ b z (az e hc) (az e hf),e];simp⟩
 ·by_cases z1:b=h'.objs.size
  ·subst z1;rw[at1] at e;cases e;exact ⟨OI _ hfo,_,OI _ hfo⟩
  by_cases z2:b=c'
  ·subst z2;rw[at2] at e;cases e;exact ⟨OA _ ho,_,OA _ ho⟩
  by_cases z3:b=P
  ·subst z3;rw[at3] at e;cases e;exact OA _ hT
  rw[at4 _ _ _ b z3 z2 z1] at e
  refine (I.hok b u e).stay (fun d o hd q=>kp d o ?_ q) (fun d q=>b8 hP hc hf q rfl) fun d xs q=>b8 hP hc hf q rfl
  rcases hd with rfl | hd
  ·exact z3
  ·rintro rfl;rw[hP] at hd;cases hd
 ·refine ⟨⟨[],by simp,by simp⟩,fun a o e n t=>b8 hP hc hf e t,fun a e=>?_⟩
  by_cases z1:a=h'.objs.size
  ·rw[z1];exact hf
  by_cases z2:a=c'
  ·rw[z2];exact hc
  by_cases z3:a=P
  ·subst z3;rw[at3] at e;cases e
  rw[at4 _ _ _ a z3 z2 z1] at e;exact e
 ·have sq:k9 H (mk3 H P c' h'.objs.size (.tbl (ps++#[QH pos.line,QH pos.col,.ref c'])) (.frz oc (.own 0)) (.frz fo (.own 0))) :=
   ⟨fun a vs r=>r.elim (fun z=>.inl (b8 hP hc hf z rfl)) fun ⟨o,z⟩=>.inr ⟨o,b8 hP hc hf z rfl⟩,fun a vs r=>r.elim (fun z=>.inl (b8 hP hc hf z rfl)) fun ⟨o,z⟩=>.inr ⟨o,b8 hP hc hf z rfl⟩⟩
  refine R.tr sq (fun a ha=>?_) fun y hy c2 P2 e2=>?_
  ·obtain ⟨o,e,z⟩:=R.mu ha
   rw[e];exact b8 hP hc hf e (by cases o<;>first | rfl | cases z)
  ·by_cases z:P2=P
   ·subst z
    obtain rfl:=uniq y hy c2 e2
    refine ⟨_,at3 _ _ _,?_,fun pos' v e=>?_⟩
    ·have:=TriplesOk_snoc pos.line pos.col (.ref c') ps.toList ht
     simpa using this
    ·have e':RP pos' (ps.toList++[QH pos.line,QH pos.col,.ref c'])=some v:=by simpa using e
     rcases rN _ ht e' with q | q
     ·obtain ⟨c3,oc3,os3,t3,q1,q2,q3⟩:=hall pos' v q
      exact ⟨c3,oc3,os3,t3,q1,b8 hP hc hf q2 rfl,q3⟩
     ·subst q
      exact ⟨c',oc,os,t,rfl,at2 _ _ _,hd,hq⟩
   ·obtain ⟨qs,e3,e4,e5⟩:=R.tb y hy c2 P2 e2
    refine ⟨qs,by rw[at4 _ _ _ P2 z (az e3 hc) (az e3 hf)];exact e3,e4,fun pos' v e=>?_⟩
    obtain ⟨c3,oc3,os3,t3,q1,q2,q3⟩:=e5 pos' v e
    exact ⟨c3,oc3,os3,t3,q1,b8 hP hc hf q2 rfl,q3⟩
theorem zh {X:Cx}{pins:List (Addr×Obj)}{σ:L2.St}{H:Hp}{s:OB}{m:List Addr}{h:BT.HH} (I:Inv X pins σ H s) (R:RH X.K m H h) {x:Str} (lx:LX X x) {pa:QI}{be:Ox}{scope:OW}{lp:Pos}{ps:List Str} (hp:LPa pa ps)
 (hfree:∀ y∈scope.names,y.2=.free->X.env.scope.names.lookup y.1=some .cell) {Q:Oz->OB->Prop}{E:Oz->OB->Prop}
 (hQ:∀ f H3 s3,Made X pins σ m H h (vv x) pa be scope (BC.cz X.env.cells scope.names []) f H3 s3->Q (.ref f) s3):wpAny (OY X.prog X.w) X.A (eval (.Lambda pa be scope lp) X.env) Q E s:=by
 obtain ⟨c,P,tc,hcode,chd,uniq⟩:=lx.ex
 obtain ⟨ts,hP,ht,hall⟩:=R.tb x lx.mem c P tc
 have hPs:s.heap.get? P=some (QU ts):=I.hok _ _ hP
 have hg:=I.ok.mod.glob.keeps I.bk
 obtain ⟨bm,ob,b1,b2,b3,b4,b5,b6⟩:=lx.bm
 have b3':=I.bk _ _ b3
 have hgP:OV≠P:=fun q=>by
  obtain ⟨o,es,ep,e,hd,_⟩:=hg
  rw[q,hPs] at e;cases e;cases hd
 have hbP:bm≠P:=fun q=>by
  rw[q,hPs] at b3';cases b3';cases b4
 have hbG:bm≠OV:=fun q=>by
  obtain ⟨o,es,ep,e,hd,_⟩:=hg
  rw[q,e] at b3';cases b3';rw[hd] at b6;cases b6
 have hcl:closureFor scope X.env=pure (BC.cz X.env.cells scope.names []):=BC.ly fun y hy e=>I.ok.has y.1 (.inl (hfree y hy e))
 have hB:s.heap.BuiltinsAt X.mg P:=⟨bm,ob,b1,b2,hbG,hbP,b3',b4,b5,b6⟩
 refine PySem.W.kla_eval (by cases hp<;>rfl) ?_
 rw[lx.ql]
 cases hq:RP lp ts.toList with
 | none =>
  refine PySem.W.kla_makeFunction (mg:=X.mg) hcl I.ok.glob hg hcode (chd.keeps I.bk) hPs ht hq hgP hB fun c' ctv h' tk hx hge hlt hrec htb=>?_
  obtain ⟨c2,oc,vs,t,e2,hoc,hd,hv⟩:=hrec
  cases e2
  obtain ⟨z1,z2,z3⟩:=Ci (tk:=tk) (fo:=Sg "<lambda>" (vv x) pa be scope (BC.cz X.env.cells scope.names []) ((X.mg "__name__").getD .none) c' ctv) I R lx tc hP ht hall uniq (f:=h'.objs.size) hq rfl hx hge hlt hoc hd hv htb
  have nf:h'.objs.size≠c':=QA hlt
  have e1:=I.hok.fresh (PK (Tf hge hlt))
  have e2:=I.hok.fresh hge
  exact hQ _ _ _ ⟨z1,z2,z3,_,ctv,c',oc,vs,t,⟨aB,R.fm e1⟩,⟨by unfold mk3;rw[au (PD nf),aB],R.fm e2⟩,hd,hv⟩
 | some cv =>
  obtain ⟨c',oc,os,t,rfl,q2,q3,q4⟩:=hall _ _ hq
  refine PySem.W.kla_makeFunctionHit (mg:=X.mg) hcl I.ok.glob hg hcode (chd.keeps I.bk) hPs ht hq hB fun ctv h' tk hk hsz=>?_
  have e1:=I.hok.fresh hsz
  refine hQ _ _ _ ⟨I.laid (o:=.frz (Sg "<lambda>" (vv x) pa be scope (BC.cz X.env.cells scope.names []) ((X.mg "__name__").getD .none) c' ctv) (.own 0)) (t':=tk) (fun b u e=>OA _ (hk b u e)) hsz ⟨OI _ rfl,_,OI _ rfl⟩,fW e1,R.new e1,_,ctv,c',oc,os,t,⟨aB,R.fm e1⟩,⟨yt e1 _ _ q2,R.nin q2 rfl⟩,q3,q4⟩
end BS
end
section
namespace BS
open PySem PySem.Spec PyProof.Rows L2
open Classical in
noncomputable def jo (cl:List (Str×Addr)) (h:Heap) (H:Hp):Hp:=fun b=>if ∃ x,cl.lookup x=some b then some (.frz ((h.get? b).getD default) (.own 0)) else H b
section
variable {cl:List (Str×Addr)}{h:Heap}{H:Hp}{b:Addr}
theorem kB {x:Str}{o:Obj} (e:cl.lookup x=some b) (g:h.get? b=some o):jo cl h H b=some (.frz o (.own 0)):=by
 unfold jo;rw[if_pos ⟨x,e⟩,g];rfl
theorem eN (e:¬ ∃ x,cl.lookup x=some b):jo cl h H b=H b:=if_neg e
theorem Cj (N:∀ x c,cl.lookup x=some c->H c=none):Le H (jo cl h H):=fun a u e=>by
 rw[eN (fun ⟨x,q⟩=>by rw[N x a q] at e;cases e)];exact e
end
theorem kC {cells:List (Str×Addr)}{y:Str}{d:Addr}:∀ {names:List (Str×QY)}{acc:List (Str×Addr)},(BC.cz cells names acc).lookup y=some d->acc.lookup y=some d\/(y,Py)∈names
 | [],acc,e=>.inl e
 | (n,k) :: r,acc,e=>by
  rw[BC.cz] at e
  split at e
  ·rename_i hk
   have hk:k=.free:=eq_of_beq hk
   split at e
   ·rename_i a ea
    rcases kC e with q | q
    ·rw[PR] at q
     split at q
     ·rename_i hy
      have:y=n:=by simpa using hy
      subst this;subst hk
      exact .inr ON
     ·exact .inl q
    ·exact .inr (OL _ q)
   ·rcases kC e with q | q
    ·exact .inl q
    ·exact .inr (OL _ q)
  ·rcases kC e with q | q
   ·exact .inl q
   ·exact .inr (OL _ q)
theorem Gp {cells:List (Str×Addr)}{y:Str}{d:Addr}{names:List (Str×QY)} (e:(BC.cz cells names []).lookup y=some d):(y,Py)∈names:=by
 rcases kC e with q | q
 ·simp at q
 ·exact q
theorem RWs.le {P:OO}{w:O6}{K:Ow}{m:List Addr}{H H':Hp} (q:Le H H') {vs:List V}{ws:List BT.W} (r:RWs P w K m H vs ws):RWs P w K m H' vs ws:=by
 induction r with
 | nil=>exact .nil
 | cons r t ih=>exact .cons (r.le q) ih
section
variable {F:FT}{G:Str->Option BT.W}
theorem Gq {P:OO}{w:O6}{K:Ow}{m:List Addr}{H:Hp}{v:V}{x:BT.W}{cp:BT.Cp} (r:RW P w K m H v x) (e:BT.pK x=some cp):RA K m H v cp.w:=by
 cases r with
 | p r=>cases e;exact .p r
 | o h=>cases e;exact .o h
 | r h=>cases e
 | k _ _=>cases e
 | c _ _=>cases e
 | g _ _=>cases e
theorem p9 {X:Cx}{pins:List (Addr×Obj)}{σ:L2.St}{H:Hp}{s:OB}{m:List Addr}{g:BT.HH}{cl:List (Str×Addr)}{sc:OW}{N:List Str}{sl:BT.Sl} (I:Inv X pins σ H s) (R:RH X.K m H g) (hsc:X.env.scope=sc) (hN:X.N=N) (S:RS X.prog X.w X.K m H σ sl)
 (hsub:∀ x c,cl.lookup x=some c->X.env.cells.lookup x=some c):∀ (fv:List (Nat×Str)) (cs:List BT.Cp),ym sc N fv=true->(∀ q∈fv,∃ c,cl.lookup q.2=some c)->BT.caps sl fv=some cs->∃ cvs,f7 m (jo cl s.heap H) cl (fv.map (·.2)) cvs/\RCs X.K m H cvs cs
 | [],cs,_,_,e=>by cases e;exact ⟨[],.nil,.nil⟩
 | q :: r,cs,hv,hc,e=>by
  simp only[ym,Uu,OC] at hv
  rw[BT.vp] at e
  split at e
  ·rename_i w g1
   obtain ⟨cp,e1,e2⟩:=Option.bind_eq_some_iff.mp e
   obtain ⟨cs',e3,rfl⟩:=aG e2
   obtain ⟨cvs,c1,c2⟩:=p9 I R hsc hN S hsub r cs' hv.2 (fun q hq=>hc q (OL _ hq)) e3
   obtain ⟨v,s1,rv⟩:=S.get _ _ g1
   obtain ⟨c,hcc⟩:=hc q ON
   have hce:=hsub _ _ hcc
   obtain ⟨mm,hn,hl⟩:=I.loc
   have kc:X.env.scope.names.lookup q.2=some .cell:=by rw[hsc];exact eq_of_beq hv.1.2
   obtain ⟨u,ru,lk⟩:=hl q.1 q.2 v (by rw[hN];exact eq_of_beq hv.1.1) s1 (.inr (.inl kc))
   rcases lk with ⟨k,_⟩ | ⟨k,c',ec,o,ho,hd⟩
   ·have:X.env.scope.names.lookup q.2=some .local:=k
    rw[kc] at this;cases this
   ·rw[hce] at ec
    cases ec
    exact ⟨v :: cvs,.cons hcc ⟨kB hcc ho,R.fm (I.freeC _ _ hce)⟩ hd ru c1,.cons (Gq rv e1) c2⟩
  ·cases e
theorem vR {m:Str}{ea:BT.HH->Option (List BT.W×BT.HH)}{L:Nat}{ocs:Option (List BT.Cp)}{x:BT.W}{h:BT.HH}{r:BT.W×BT.HH} (e:BT.rj F m ea L ocs x h=some r) :
 ∃ n c fs ws g cs,x=.o n/\BT.oat h n=some (c,fs)/\(BT.aX m fs).isNone=true/\ea h=some (ws,g)/\ocs=some cs/\F (.m c m) (.o n :: (ws++[.c (.l L) cs])) g=some r/\BT.noC [r.1]=true:=by
 cases x with
 | o n =>
  rw[BT.xV] at e
  cases g:BT.oat h n with
  | none=>rw[g] at e;cases e
  | some q =>
   obtain ⟨c,fs⟩:=q
   rw[g] at e
   simp only at e
   split at e
   ·rename_i c1
    obtain ⟨ws,g2,e1,e2⟩:=ak e
    cases ocs with
    | none=>cases e2
    | some cs =>
     rw[BT.vq] at e2
     obtain ⟨z,h2,e3,e4⟩:=ak e2
     refine ⟨n,c,fs,ws,g2,cs,rfl,g,c1,e1,rfl,?_⟩
     cases z with
     | c _ _=>cases e4
     | p _=>cases e4;exact ⟨e3,rfl⟩
     | r _=>cases e4;exact ⟨e3,rfl⟩
     | k _=>cases e4;exact ⟨e3,rfl⟩
     | o _=>cases e4;exact ⟨e3,rfl⟩
   ·cases e
 | p d=>cases e
 | r n=>cases e
 | k q=>cases e
 | c _ _=>cases e
noncomputable def Gs (X:Cx) (F:FT) (G:Str->Option BT.W) (as:BT.Es) (args:List Ox) (lam:Ox):Prop :=
 ∀ (pos:Pos) (pins:List (Addr×Obj)) (s:OB) (σ:L2.St) (H:Hp) (m:List Addr) (sl:BT.Sl) (h:BT.HH) (ws:List BT.W) (g:BT.HH) (Q:List Oz->OB->Prop),Inv X pins σ H s->RH X.K m H h->RS X.prog X.w X.K m H σ sl->BT.evs F G as sl h=some (ws,g) →
  (∀ vs us H1 s1 m1,Inv X pins σ H1 s1->aq vs us->Ext m H m1 H1->RH X.K m1 H1 g->RWs X.prog X.w X.K m1 H1 vs ws->wpAny (OY X.prog X.w) X.A (eval lam X.env) (fun u s2=>Q (us++[u]) s2) X.xe s1) →
  wpAny (OY X.prog X.w) X.A (SQ (QE pos (O4 args X.env))) Q X.xe s
theorem JF {X:Cx}{pa:QI}{be:Ox}{scope:OW}{lp:Pos}:Gs X F G .nil [.Lambda pa be scope lp] (.Lambda pa be scope lp):=by
 intro pos pins s σ H m sl h ws g Q I R S e k
 simp only[BT.evs] at e
 cases e
 show wpAny _ _ (SQ ((false,eval (.Lambda pa be scope lp) X.env) :: QE pos (O4 [] X.env))) _ _ s
 exact P6 (thn (k [] [] H s m I .nil (.refl _ _) R .nil) fun u s2 q=>Qw q)
theorem JG {X:Cx}{a:BT.E}{e:Ox}{pa:QI}{be:Ox}{scope:OW}{lp:Pos} (hs:noStar e=true) (ha:PE X e (tD X F G a)):Gs X F G (.cons a .nil) [e,.Lambda pa be scope lp] (.Lambda pa be scope lp):=by
 intro pos pins s σ H m sl h ws g Q I R S ee k
 simp only[BT.evs] at ee
 obtain ⟨z,g1,e1,e2⟩:=ak ee
 simp only[BT.kT,BT.aZ,BT.iH] at e2
 cases e2
 rw[ah hs]
 show wpAny _ _ (SQ ((false,eval e X.env) :: QE pos (O4 [.Lambda pa be scope lp] X.env))) _ _ s
 refine P6 (thn (ha pins s σ H (fun v H1=>∃ m1,Ext m H m1 H1/\RH X.K m1 H1 g/\RW X.prog X.w X.K m1 H1 v z) I ⟨m,sl,h,z,g,R,S,e1,fun v H1 m1 x1 R1 r1=>⟨m1,x1,R1,r1⟩⟩) fun u s1 ⟨v,H1,I1,r1,m1,x1,R1,w1⟩=>?_)
 show wpAny _ _ (SQ ((false,eval (.Lambda pa be scope lp) X.env) :: QE pos (O4 [] X.env))) _ _ s1
 exact P6 (thn (k [v] [u] H1 s1 m1 I1 (.cons r1 .nil) x1 R1 (.cons w1 .nil)) fun u s2 q=>Qw q)
theorem qa {X:Cx}{sc:OW}{N:List Str} (O:Ok X F G sc N) (hf:∀ x,X.fn x=true) {o bt:BT.E}{m:Str}{as:BT.Es}{L:Nat}{fv:List (Nat×Str)}{oe be e0:Ox}{rest:List Ox}{apos cpos lp:Pos}{pa:QI}{scope:OW}{ns ps:List Str}
 (hl:BT.nQ L=some ⟨ns,ns,.ret bt⟩) (hp:LPa pa ps) (hn:ns=ps++fv.map (·.2)) (hk:mV ps (fv.map (·.2)) scope=true) (hv:ym sc N fv=true) (ht:N.contains (BT.cj (BT.yf L))=true) (hc:CE' scope ns bt be) (h3:aE oe=true) (h6:(apos.endLine==cpos.line)=true)
 (hO:PE X oe (tD X F G o)) (hst:av (e0 :: rest)=true) (hlen:(e0 :: rest).length < 20) (hS:Gs X F G as (e0 :: rest) (.Lambda pa be scope lp)) :
 PE X (.Call (.Attribute oe m apos) (e0 :: rest) [] cpos) (tD X F G (.methL o m as L fv)):=by
 have lx:=O.lamx hf _ ht
 have lf:=JB hk
 subst hn
 intro pins s σ H Q I q
 obtain ⟨m0,s',h,z,h',R,S,ee,post⟩:=q
 simp only[BT.ev] at ee
 obtain ⟨x,h1,e1,e2⟩:=ak ee
 obtain ⟨n,c,fs,ws,g,cs,rfl,e3,e4,e5,e6,e7,e8⟩:=vR e2
 obtain ⟨C,ga,fd,ps',k,hC,hM,hB,hR,ok⟩:=O.meth _ _ _ _ _ e7
 refine Rf (thn (hO pins s σ H (fun v H1=>∃ m1,Ext m0 H m1 H1/\RH X.K m1 H1 h1/\RW X.prog X.w X.K m1 H1 v (.o n)) I ⟨m0,s',h,_,h1,R,S,e1,fun v H1 m1 x1 R1 r1=>⟨m1,x1,R1,r1⟩⟩) fun u s1 ⟨v,H1,I1,rv,m1,x1,R1,w1⟩=>?_) (jM h3 hst hlen h6)
 cases w1 with
 | @o a _ ha =>
 obtain rfl:u=.ref a:=rv
 obtain ⟨C',dx,vs0,q1,q2,q3⟩:=R1.mW _ _ _ _ ha e3
 cases q2.cn.inj hC.cn
 refine fS I1 q1 hC.cls hM (q3.none e4) ?_
 have hst':=hst
 simp only[av,OC] at hst'
 refine Q2 (first:=[.ref a]) (h₀:=X.base) I.ok.mod.kin hM.kp (hS cpos pins s1 σ H1 m1 s' h1 ws g _ I1 R1 (S.ext x1) e5 fun vs us H2 s2 m2 I2 rvs x2 R2 w2=>?_) (ah hst'.1) (aH hst'.2)
 have hfree:∀ y∈scope.names,y.2=.free->X.env.scope.names.lookup y.1=some .cell:=fun y hy e=>by
  have hm:=lf.all y hy e
  obtain ⟨p,hp1,hp2⟩:=List.mem_map.mp hm
  have:=List.all_eq_true.mp hv p hp1
  simp only[OC] at this
  rw[O.hsc,← hp2];exact eq_of_beq this.2
 refine zh I2 R2 lx hp hfree fun f H3 s3 M=>?_
 have I3:=M.inv
 have hsub:∀ y d,(BC.cz X.env.cells scope.names []).lookup y=some d->X.env.cells.lookup y=some d:=fun y d e=>BC.lz (fun _ _ z=>by simp at z) y d e
 have hfr:∀ y d,(BC.cz X.env.cells scope.names []).lookup y=some d->y∈fv.map (·.2):=fun y d e=>lf.all (y,.free) (Gp e) rfl
 have hhas:∀ p∈fv,∃ d,(BC.cz X.env.cells scope.names []).lookup p.2=some d:=fun p hp'=>by
  have hm:=(lf.fre p.2 (U5 hp')).2
  exact BC.lA hm (I3.ok.has p.2 (.inl (hfree _ hm rfl)))
 generalize BC.cz X.env.cells scope.names []=cl at M hsub hfr hhas
 have hcel:∀ y d,cl.lookup y=some d->X.s₀.heap.objs.size<=d:=fun y d e=>I3.ok.cab y d (hf y) (hsub y d e)
 have hnone:∀ y d,cl.lookup y=some d->H3 d=none:=fun y d e=>I3.freeC y d (hsub y d e)
 have hobj:∀ y d,cl.lookup y=some d->∃ o u,s3.heap.get? d=some o/\o.data=.cell u:=fun y d e=>by
  obtain ⟨u,ob,g1,g2⟩:=I3.cell y d (hsub y d e)
  exact ⟨ob,u,g1,g2⟩
 have hfrm:∀ y d,cl.lookup y=some d->d∉frs X.stack:=fun y d e hb=>by
  rcases List.mem_cons.mp (I3.kG d hb) with q | q
  ·exact I3.cne y d (hsub y d e) q
  ·obtain ⟨_,ob,g1,_⟩:=I3.ok.iC.mem q
   exact absurd (OG g1) (Nat.not_lt.mpr (hcel y d e))
 obtain ⟨cvs,cp,rc⟩:=p9 I3 M.rh O.hsc O.hN ((S.ext x1).ext (x2.trans M.ext)) hsub fv cs hv hhas e6
 have le:Le H3 (jo cl s3.heap H3):=Cj hnone
 obtain ⟨pm,ctv,c',oc,os,t,t1,t2,t3,t4⟩:=M.ex
 have la:gr m2 (jo cl s3.heap H3) f L cvs:=⟨bt,ps,fv.map (·.2),pa,be,scope,cl,pm,ctv,c',oc,os,t,_,hl,hp,hk,hc,fun y y' d e e'=>I3.ok.inj _ _ _ (hsub _ _ e) (hsub _ _ e'),hfr,⟨le _ _ t1.1,t1.2⟩,⟨le _ _ t2.1,t2.2⟩,t3,t4,cp⟩
 have R4:RH X.K m2 (jo cl s3.heap H3) g:=M.rh.le le
 have w4:RWs X.prog X.w X.K m2 (jo cl s3.heap H3) (.ref a :: (vs++[.ref f])) (.o n :: (ws++[.c (.l L) cs])):=.cons (.o (x2.ix ha)) (RWs.app ((w2.ext M.ext).le le) (.cons (.c la (rc.tr le.sq)) .nil))
 have out:∀ b ob,X.base.get? b=some ob->¬ ∃ y,cl.lookup y=some b:=fun b ob e ⟨y,q⟩=>absurd (OG (I3.ok.bs b ob e).1) (Nat.not_lt.mpr (hcel y b q))
 have e04:lT X.prog X.w X.K X.mg X.base X.A X.stack s3 (jo cl s3.heap H3):=by
  refine ⟨I3.ok.frames,I3.ok.mod,fun b ob e=>⟨(I3.bs b ob e).1,by rw[eN (out b ob e)];exact (I3.bs b ob e).2⟩,Ph I3.ok.bsz I3.sz,I3.stack,fun b hb=>?_,fun b u e=>?_,I3.bare⟩
  ·rw[eN (fun ⟨y,q⟩=>hfrm y b q hb)];exact I3.nu b hb
  ·by_cases cc:∃ y,cl.lookup y=some b
   ·obtain ⟨y,q⟩:=cc
    obtain ⟨ob,uu,g1,g2⟩:=hobj y b q
    rw[kB q g1] at e
    cases e
    exact ⟨g1,_,g1⟩
   ·rw[eN cc] at e
    exact (I3.hok b u e).stay (fun _ _ _ z=>z) (fun d z=>le _ _ z) fun d xs z=>le _ _ z
 have rv4:aq (V.ref a :: (vs++[.ref f])) (Pu a :: (us++[.ref f])):=.cons rfl (rvs.append (.cons rfl .nil))
 have sp4:spF X.prog X.w X.K (F (.m c m)) (V.ref a :: (vs++[.ref f])) (jo cl s3.heap H3) (fun v5 H5=>∃ m5,Ext m2 (jo cl s3.heap H3) m5 H5/\RH X.K m5 H5 h'/\RW X.prog X.w X.K m5 H5 v5 z) E0:=⟨m2,_,g,z,h',R4,w4,e7,fun v5 H5 m5 x5 R5 r5=>⟨m5,x5,R5,r5⟩⟩
 have hl4:(Pu a :: (us++[.ref f])).length=ps'.length:=by rw[← rv4.length];exact ok.len _ _ _ _ sp4
 have hb4:=hB s3 (Pu a :: (us++[.ref f])) I3.kIn (by rw[Pk];exact hl4)
 rw[Pk] at hb4
 have run4:=ok.run X.A X.stack s3 (jo cl s3.heap H3) ⟨Pu a :: (us++[Pu f]),[]⟩ (Pu a :: (us++[Pu f])) _ _ E0 hR e04 hb4 rv4 sp4
 refine ⟨I3.kIn,?_⟩
 show wpAny (OY X.prog X.w) X.A (call (.ref ga) (Pu a :: (us++[Pu f]))) _ _ s3
 refine Sn (codeAny_mono run4 fun r s' hq=>?_)
 cases r with
 | error e=>exact Pn hq
 | ok fl =>
  cases fl with
  | next=>exact Pn hq
  | brk=>exact Pn hq
  | cont=>exact Pn hq
  | ret u =>
   obtain ⟨v5,H5,os5,bare5,un,hok5,rv5,m5,x5,R5,r5⟩:=hq
   have C5:cy cl H5:=fun y d e=>by
    obtain ⟨ob,uu,g1,g2⟩:=hobj y d e
    exact ⟨ob,uu,un.frzs _ _ _ (kB e g1),g2⟩
   have nc:∀ b uu,H3 b=some uu->¬ ∃ y,cl.lookup y=some b:=fun b uu e ⟨y,q⟩=>by rw[hnone y b q] at e;cases e
   have un6:Un (frs X.stack) [] H3 (hid cl H5) s3.heap s'.heap:=by
    refine ⟨fun b ob e nn hb hx=>?_,fun b ob e nn hb hx=>?_,fun b ob e nn hx=>?_,fun b ob e hx=>un.there b ob e hx,fun b xs e=>?_,fun b ob uu e=>?_,fun b qs e=>?_⟩
    ·by_cases cc:∃ y,cl.lookup y=some b
     ·obtain ⟨y,q⟩:=cc
      exact (hok5 _ _ (un.frzs _ _ _ (kB q e))).1
     ·exact un.keep b ob e (by rw[eN cc];exact nn) hb hx
    ·exact un.slot b ob e (by rw[eN (fun ⟨y,q⟩=>hfrm y b q hb)];exact nn) hb hx
    ·by_cases cc:∃ y,cl.lookup y=some b
     ·obtain ⟨y,q⟩:=cc;exact rF q
     ·exact eH (un.free b ob e (by rw[eN cc];exact nn) hx)
    ·rw[dG (nc _ _ e)];exact un.tups b xs (le _ _ e)
    ·rw[dG (nc _ _ e)];exact un.frzs b ob uu (le _ _ e)
    ·rw[dG (nc _ _ e)];exact un.tbls b qs (le _ _ e)
   have I6:=I3.HN os5 un6 (tE C5 hok5 fun _ _ e=>e) bare5 (fun b zz=>absurd zz (by simp))
   have x6:Ext m2 H3 m5 (hid cl H5):=by
    obtain ⟨ex,hm,he⟩:=x5.pre
    have lno:∀ b,jo cl s3.heap H3 b=none->H3 b=none:=fun b e=>by
     cases gg:H3 b with
     | none=>rfl
     | some uu=>rw[le _ _ gg] at e;cases e
    refine ⟨⟨ex,hm,fun b hb=>lno b (he b hb)⟩,fun b ob e nn tt=>?_,fun b e=>?_⟩
    ·rw[dG (nc _ _ e)];exact x5.keep b ob (le _ _ e) nn tt
    ·by_cases cc:∃ y,cl.lookup y=some b
     ·obtain ⟨y,q⟩:=cc;exact hnone y b q
     ·rw[dG cc] at e;exact lno b (x5.live b e)
   have r6:RW X.prog X.w X.K m5 (hid cl H5) v5 z:=by
    have:=RWs.tr C5.sq (.cons r5 .nil) e8
    cases this with
    | cons r _=>exact r
   exact ⟨v5,hid cl H5,I6,rv5,post v5 _ m5 ((x1.trans (x2.trans M.ext)).trans x6) (C5.rh R5) r6⟩
end
end BS
end
section
namespace BS
open PySem PySem.Spec PyProof.Rows L2
noncomputable def gD:Ox->Bool
 | .ListComp _ _ _ _=>false
 | .SetComp _ _ _ _=>false
 | .DictComp _ _ _ _ _=>false
 | _=>true
noncomputable def swB (sc scope:OW) (x:Str) (np pos:Pos):Bool :=
 (if sc.kind.isAnnotationScope then ScopeKind.function else sc.kind)==.function&&sc.names.lookup x==some .local&&np.line==pos.line&&!(scope.names.any fun (n,k)=>n==x&&(k==.local||k==.cell))
mutual
inductive CS (sc:OW) (N:List Str):BT.S->PB->Prop where
 | setL {i:Nat}{x m:Str}{o:BT.E}{as:BT.Es}{L:Nat}{fv:List (Nat×Str)}{call:Ox}{np p:Pos} (h1:N[i]?=some x) (h2:j9 sc x=true) (hl:CL sc N o m as L fv call):CS sc N (.set i x (.methL o m as L fv)) (.Assign [.Name x np] call p)
 | retL {m:Str}{o:BT.E}{as:BT.Es}{L:Nat}{fv:List (Nat×Str)}{call:Ox}{p:Pos} (hl:CL sc N o m as L fv call):CS sc N (.ret (.methL o m as L fv)) (.Return (some call) p)
 | setc {i:Nat}{x:Str}{mu:Bool}{sr:BT.Sr}{sa:BT.Es}{tg:List Str}{fv:List (Nat×Str)}{cond:BT.Es}{elt:BT.E}{te iter elt':Ox}{ifs:List Ox}{scope:OW}{pos np p:Pos} (h1:N[i]?=some x) (h3:(sc.names.lookup x==some .cell||swB sc scope x np pos)=true)
  (hk:iK sc N tg fv scope=true) (ht:pT (aY scope sc) tg te=true) (hz:pS sr te=true) (hs:iI iter=true) (hi:CI sc N sr sa iter) (hc:CC (aY scope sc) (tg++fv.map (·.2)) cond ifs) (he:CE' (aY scope sc) (tg++fv.map (·.2)) elt elt') :
  CS sc N (.set i x (.comp mu sr sa tg fv cond elt)) (.Assign [.Name x np] (.ListComp elt' [⟨te,iter,ifs,0⟩] scope pos) p)
 | set {i:Nat}{x:Str}{e:BT.E}{v:Ox}{np p:Pos} (h1:N[i]?=some x) (h2:j9 sc x=true) (h3:gD v=true) (he:CE' sc N e v):CS sc N (.set i x e) (.Assign [.Name x np] v p)
 | put {i:Nat}{x:Str}{k e:BT.E}{ke v:Ox}{np sp p:Pos} (h1:N[i]?=some x) (h2:jZ sc x=true) (h3:cu x=true) (h4:gD v=true) (h5:jc ke=true) (hk:CE' sc N k ke) (he:CE' sc N e v):CS sc N (.put i x k e) (.Assign [.Subscript (.Name x np) ke sp] v p)
 | putd {i:Nat}{x:Str}{k e:BT.E}{ke v:Ox}{np sp p:Pos} (h1:N[i]?=some x) (h2:jZ sc x=true) (h3:cu x=true) (h4:gD v=true) (h5:jc ke=true) (hk:CE' sc N k ke) (he:CE' sc N e v):CS sc N (.putd i x k e) (.Assign [.Subscript (.Name x np) ke sp] v p)
 | aug {i:Nat}{x:Str}{o:BT.Bin}{op:Ry}{e:BT.E}{v:Ox}{np p:Pos} (h1:N[i]?=some x) (h2:j9 sc x=true) (h3:yP o op=true) (he:CE' sc N e v):CS sc N (.aug i x o e) (.AugAssign (.Name x np) op v p)
 | setf {o e:BT.E}{f:Str}{oe v:Ox}{np p:Pos} (h1:attrName f=true) (h2:gD v=true) (ho:CE' sc N o oe) (he:CE' sc N e v):CS sc N (.setf o f e) (.Assign [.Attribute oe f np] v p)
 | augf {o e:BT.E}{f:Str}{b:BT.Bin}{op:Ry}{oe v:Ox}{np p:Pos} (h1:attrName f=true) (h3:yP b op=true) (ho:CE' sc N o oe) (he:CE' sc N e v):CS sc N (.augf o f b e) (.AugAssign (.Attribute oe f np) op v p)
 | ex {e:BT.E}{v:Ox}{p:Pos} (h:gD v=true) (he:CE' sc N e v):CS sc N (.ex e) (.Expr v p)
 | ret {e:BT.E}{v:Ox}{p:Pos} (he:CE' sc N e v):CS sc N (.ret e) (.Return (some v) p)
 | ife {c:BT.E}{a b:BT.S}{t:Ox}{xs ys:List PB}{p:Pos} (h:tOK c=true) (hc:CE' sc N c t) (ha:CSs sc N a xs) (hb:CSs sc N b ys):CS sc N (.ife c a b) (.If t xs ys p)
 | whl {c:BT.E}{b:BT.S}{t:Ox}{xs:List PB}{p:Pos} (h:tOK c=true) (hc:CE' sc N c t) (hb:CSs sc N b xs):CS sc N (.whl c b) (.While t xs [] p)
 | for {tg:List (Nat×Str)}{sr:BT.Sr}{sa:BT.Es}{b:BT.S}{te iter:Ox}{xs:List PB}{p:Pos} (ht:CT sc N tg te) (hi:CI sc N sr sa iter) (hz:pS sr te=true) (hs:iI iter=true) (hb:CSs sc N b xs):CS sc N (.for tg sr sa b) (.For te iter xs [] p)
 | brk {p:Pos}:CS sc N .brk (.Break p)
 | cnt {p:Pos}:CS sc N .cnt (.Continue p)
 | bad {st:PB}:CS sc N .bad st
inductive CSs (sc:OW) (N:List Str):BT.S->List PB->Prop where
 | nil:CSs sc N .nil []
 | one {s:BT.S}{st:PB} (h:CS sc N s st):CSs sc N s [st]
 | cons {a b:BT.S}{st st2:PB}{r:List PB} (h:CS sc N a st) (hr:CSs sc N b (st2 :: r)):CSs sc N (.seq a b) (st :: st2 :: r)
end
noncomputable def jq (X:Cx) (m:List Addr) (H:Hp) (fl:BT.Fl) (D:Ends):Prop:=match fl with
 | .nx s' h'=>∀ σ' H' m',Ext m H m' H'->RH X.K m' H' h'->RS X.prog X.w X.K m' H' σ' s'->D.nx σ' H'
 | .rt z h'=>∀ v H' m',Ext m H m' H'->RH X.K m' H' h'->RW X.prog X.w X.K m' H' v z->D.rt v H'
 | .bk s' h'=>∀ σ' H' m',Ext m H m' H'->RH X.K m' H' h'->RS X.prog X.w X.K m' H' σ' s'->D.bk σ' H'
 | .ct s' h'=>∀ σ' H' m',Ext m H m' H'->RH X.K m' H' h'->RS X.prog X.w X.K m' H' σ' s'->D.ct σ' H'
theorem jq.ext {X:Cx}{m m':List Addr}{H H':Hp}{fl:BT.Fl}{D:Ends} (x:Ext m H m' H') (p:jq X m H fl D):jq X m' H' fl D:=by
 cases fl<;>exact fun a b c y=>p a b c (x.trans y)
noncomputable def tDS (X:Cx) (F:FT) (G:Str->Option BT.W) (S:BT.S):TS:=fun D σ H =>
 ∃ m s h fl,RH X.K m H h/\RS X.prog X.w X.K m H σ s/\BT.evS F G S s h=some fl/\jq X m H fl D
theorem PS.weak {X:Cx}{st:PB}{t t':TS} (h:PS X st t) (q:∀ D σ H,t' D σ H->t D σ H):PS X st t':=fun pins s σ H D I hw=>h pins s σ H D I (q _ _ _ hw)
theorem PSs.weak {X:Cx}{st:List PB}{t t':TS} (h:PSs X st t) (q:∀ D σ H,t' D σ H->t D σ H):PSs X st t':=fun pins s σ H D I hw=>h pins s σ H D I (q _ _ _ hw)
section
variable {F:FT}{G:Str->Option BT.W}
theorem Gu {X:Cx}{a b:BT.S} (D:Ends) (σ:L2.St) (H:Hp) (q:tDS X F G (.seq a b) D σ H):HV (tDS X F G a) (tDS X F G b) D σ H:=by
 obtain ⟨m,s,h,fl,R,S,e,post⟩:=q
 simp only[BT.evS] at e
 cases g:BT.evS F G a s h with
 | none=>rw[g] at e;cases e
 | some f1 =>
  rw[g] at e
  refine ⟨m,s,h,f1,R,S,g,?_⟩
  cases f1 with
  | nx s1 h1=>exact fun σ1 H1 m1 x1 R1 S1=>⟨m1,s1,h1,fl,R1,S1,e,post.ext x1⟩
  | rt z h1=>cases e;exact post
  | bk s1 h1=>cases e;exact post
  | ct s1 h1=>cases e;exact post
theorem iA {X:Cx}{S0:BT.S}{a:BT.E}{k:BT.Sl->BT.W->BT.HH->Option BT.Fl} (he:∀ s h,BT.evS F G S0 s h=BT.bnd (BT.ev F G a s h) (k s)) {D:Ends}{σ:L2.St}{H:Hp} (q:tDS X F G S0 D σ H) {R':V->Hp->Prop}
 (h1:∀ m s h x fl v H1,RH X.K m H1 h->RS X.prog X.w X.K m H1 σ s->RW X.prog X.w X.K m H1 v x->k s x h=some fl->jq X m H1 fl D->R' v H1):tD X F G a σ H R':=by
 obtain ⟨m,s,h,fl,R,S,ee,post⟩:=q
 rw[he] at ee
 obtain ⟨x,g,e1,e2⟩:=ak ee
 exact ⟨m,s,h,x,g,R,S,e1,fun v H1 m1 x1 R1 r1=>h1 m1 s g x fl v H1 R1 (S.ext x1) r1 e2 (post.ext x1)⟩
theorem tP {x:Option (BT.W×BT.HH)}{k:Bool->BT.HH->Option BT.Fl}{fl:BT.Fl} (h:BT.tst x k=some fl):∃ b g,x=some (.p (.bl b),g)/\k b g=some fl:=by
 unfold BT.tst at h
 obtain ⟨w,g,e1,e2⟩:=ak h
 unfold BT.Jj at e2
 cases w with
 | p d =>
  cases d<;>simp only at e2<;>try contradiction
  exact ⟨_,g,e1,e2⟩
 | r n=>cases e2
 | k q=>cases e2
 | c _ _=>cases e2
 | o q=>cases e2
theorem jr {e:Ox}{t:Option Ox}{l:Nat}{env:Env} (h:gD e=true):RN e t l env=pure false:=by
 cases e<;>first | rfl | cases h
theorem tQ {e t:Ox}{l:Nat}{env:Env} (h:gD e=true):swapsWithSole [t] e l env=pure false:=jr h
theorem lC {o i:Ox}{pos:Pos}{env:Env} (h:jc i=true):∀ v,UB (.Subscript o i pos) env v=(do
 let ov ← holding [v] (eval o env)
 let iv ← holding [v,ov] (eval i env)
 standAt pos
 holding [v,ov,iv] (setItem ov iv v)
 release [v,ov,iv] []):=by
 intro v
 cases i<;>first | rfl | cases h
theorem Gv {X:Cx}{c:BT.E}{b:BT.S} (D:Ends) (σ:L2.St) (H:Hp) (q:tDS X F G (.whl c b) D σ H):wL (tDT X F G c) (tDS X F G b) D σ H:=by
 obtain ⟨m0,s,h,fl,R,S,e,post⟩:=q
 simp only[BT.evS] at e
 refine ⟨fun n σ H=>∃ m s h,RH X.K m H h/\RS X.prog X.w X.K m H σ s/\BT.aP (BT.ev F G c) (BT.evS F G b) n s h=some fl/\jq X m H fl D,⟨BT.turns,m0,s,h,R,S,e,post⟩,?_⟩
 rintro n σ1 H1 ⟨m,s,h,R,S,e,post⟩
 cases n with
 | zero=>cases e
 | succ n =>
  rw[BT.aP] at e
  obtain ⟨t,g,e1,e2⟩:=tP e
  refine ⟨m,s,h,t,g,R,S,e1,fun H2 m2 x2 R2=>?_⟩
  cases t with
  | false =>
   rw[BT.fV] at e2
   cases e2
   rw[if_neg (by decide)]
   exact post σ1 H2 m2 x2 R2 (S.ext x2)
  | true =>
   rw[BT.gq] at e2
   rw[if_pos rfl]
   refine ⟨fun σ' H'=>∃ m' s' h',RH X.K m' H' h'/\RS X.prog X.w X.K m' H' σ' s'/\BT.aP (BT.ev F G c) (BT.evS F G b) n s' h'=some fl/\jq X m' H' fl D,fun σ' H' ⟨m',s',h',a1,a2,a3,a4⟩=>⟨n,P8 n,m',s',h',a1,a2,a3,a4⟩,?_⟩
   cases gb:BT.evS F G b s g with
   | none=>rw[gb] at e2;cases e2
   | some f1 =>
    rw[gb] at e2
    refine ⟨m2,s,g,f1,R2,S.ext x2,gb,?_⟩
    cases f1 with
    | nx s1 h1=>exact fun σ3 H3 m3 x3 R3 S3=>⟨m3,s1,h1,R3,S3,e2,(post.ext x2).ext x3⟩
    | ct s1 h1=>exact fun σ3 H3 m3 x3 R3 S3=>⟨m3,s1,h1,R3,S3,e2,(post.ext x2).ext x3⟩
    | bk s1 h1=>cases e2;exact fun σ3 H3 m3 x3 R3 S3=>post σ3 H3 m3 (x2.trans x3) R3 S3
    | rt z h1=>cases e2;exact fun v H3 m3 x3 R3 r3=>post v H3 m3 (x2.trans x3) R3 r3
theorem Gw {X:Cx}{i:Nat}{x:Str}{o:BT.Bin}{e:BT.E} (D:Ends) (σ:L2.St) (H:Hp) (q:tDS X F G (.aug i x o e) D σ H):HZ i (tD X F G e) (F4 o) D σ H:=by
 obtain ⟨m,s,h,fl,R,S,ee,post⟩:=q
 simp only[BT.evS] at ee
 obtain ⟨y,g,e1,e2⟩:=ak ee
 unfold BT.Jq at e2
 have hs:∃ d d' z,s[i]?=some (some (.p d))/\y=.p d'/\BT.kO o d d'=some z/\fl=.nx (s.set i (some (.p z))) g:=by
  cases g1:s[i]? with
  | none=>rw[g1] at e2;cases y<;>cases e2
  | some ow =>
   cases ow with
   | none=>rw[g1] at e2;cases y<;>cases e2
   | some w0 =>
    rw[g1] at e2
    cases w0<;>cases y<;>simp only at e2<;>try contradiction
    obtain ⟨z,e3,e4⟩:=aG e2
    exact ⟨_,_,z,rfl,rfl,e3,e4.symm⟩
 obtain ⟨d,d',z,g1,rfl,e3,rfl⟩:=hs
 obtain ⟨a,b,k,rfl,rfl,rfl⟩:=sZ e3
 obtain ⟨v,hv,rv⟩:=S.get i _ g1
 have ev:v=.int a:=by cases rv with | p rv=>cases rv;rfl
 subst ev
 refine ⟨_,hv,m,s,h,_,g,R,S,e1,fun u H1 m1 x1 R1 r1=>?_⟩
 cases r1 with
 | p r1 =>
  cases r1
  exact ⟨a,b,k,rfl,rfl,e3,post _ H1 m1 x1 R1 ((S.ext x1).set (.p (.int k)))⟩
theorem vS {s:BT.Sl}{f:Str}{v x:BT.W}{h:BT.HH}{fl:BT.Fl} (e:BT.nN s f v x h=some fl):∃ n c fs,x=.o n/\BT.oat h n=some (c,fs)/\BT.attrOk v=true/\fs.length < 1000/\fl=.nx s (h.set n (.o c (BT.bz f v fs))):=by
 cases x with
 | o n =>
  rw[BT.ya] at e
  cases g:BT.oat h n with
  | none=>rw[g] at e;cases e
  | some q =>
   obtain ⟨c,fs⟩:=q
   rw[g] at e
   simp only at e
   split at e
   ·rename_i c1
    cases e
    simp only[OC,decide_eq_true_eq] at c1
    exact ⟨n,c,fs,rfl,g,c1.1,c1.2,rfl⟩
   ·cases e
 | p d=>cases e
 | r n=>cases e
 | k q=>cases e
 | c _ _=>cases e
theorem qb {X:Cx}{D:Ends}{m:List Addr}{H:Hp}{σ:L2.St}{s:BT.Sl}{h:BT.HH}{n:Nat}{c f:Str}{fs:List (Str×BT.W)}{y:BT.W}{v:V}{a C dx:Addr}{vs:List (Str×V)} (R:RH X.K m H h) (S:RS X.prog X.w X.K m H σ s) (hn:m[n]?=some a) (h1:H a=some (.ins C dx vs)) (h2:kU X.K c C) (h3:RFs X.K m H vs fs) (ra:RA X.K m H v y)
 (post:jq X m H (.nx s (h.set n (.o c (BT.bz f y fs)))) D):D.nx σ (upd H a (.ins C dx (L2.bz f v vs))):=by
 have x:Ext m H m (upd H a (.ins C dx (L2.bz f v vs))):=jd (OM hn)
 exact post σ _ m x (R.setC hn ⟨C,dx,_,aB,h2,(RFs.put ra h3).ext x⟩) (S.ext x)
theorem Ck {X:Cx}{o e:BT.E}{f:Str} (hf:attrName f=true) (D:Ends) (σ:L2.St) (H:Hp) (q:tDS X F G (.setf o f e) D σ H):Io X.K (tD X F G o) (tD X F G e) f D σ H:=by
 refine iA (k:=fun s=>BT.yb (BT.ev F G o s) s f) (fun s h=>by simp only[BT.evS]) q fun m s h y fl v H1 R S r e1 post=>?_
 rw[BT.yc] at e1
 obtain ⟨x,g,e2,e3⟩:=ak e1
 obtain ⟨n,c,fs,rfl,g1,ok,hl,rfl⟩:=vS e3
 refine ⟨m,s,h,.o n,g,R,S,e2,fun u H2 m2 x2 R2 r2=>?_⟩
 cases r2 with
 | @o a _ hn =>
  obtain ⟨C,dx,vs,q1,q2,q3⟩:=R2.mW _ _ _ _ hn g1
  exact ⟨a,C,dx,vs,rfl,q1,q2.cls,q2.no f hf,by rw[q3.length];exact hl,qb R2 (S.ext x2) hn q1 q2 q3 ((r.ext x2).ra ok) (post.ext x2)⟩
theorem zj {ee:BT.EH}{s:BT.Sl}{f:Str}{op:BT.Bin}{x:BT.W}{h:BT.HH}{fl:BT.Fl} (e:BT.sJ ee s f op x h=some fl):∃ n c fs d y g fs' z,x=.o n/\BT.oat h n=some (c,fs)/\BT.aX f fs=some (.p d)/\ee h=some (.p y,g)/\BT.oat g n=some (c,fs')/\BT.kO op d y=some z/\fs'.length < 1000/\fl=.nx s (g.set n (.o c (BT.bz f (.p z) fs'))):=by
 cases x with
 | o n =>
  rw[BT.Bv] at e
  cases g1:BT.oat h n with
  | none=>rw[g1] at e;cases e
  | some q =>
   obtain ⟨c,fs⟩:=q
   rw[g1] at e
   simp only at e
   cases g2:BT.aX f fs with
   | none=>rw[g2] at e;cases e
   | some w0 =>
    rw[g2] at e
    cases w0 with
    | p d =>
     simp only at e
     obtain ⟨y,g,e1,e2⟩:=ak e
     cases y with
     | p y =>
      rw[BT.yd] at e2
      cases g3:BT.oat g n with
      | none=>rw[g3] at e2;cases e2
      | some q =>
       obtain ⟨c',fs'⟩:=q
       rw[g3] at e2
       simp only at e2
       cases g4:BT.kO op d y with
       | none=>rw[g4] at e2;cases e2
       | some z =>
        rw[g4] at e2
        simp only at e2
        split at e2
        ·rename_i c1
         cases e2
         obtain ⟨rfl,c1⟩:=c1
         exact ⟨n,c',fs,d,y,g,fs',z,rfl,g1,g2,e1,g3,g4,c1,rfl⟩
        ·cases e2
     | r n=>cases e2
     | k q=>cases e2
     | c _ _=>cases e2
     | o n=>cases e2
    | r n=>cases e
    | k q=>cases e
    | c _ _=>cases e
    | o n=>cases e
 | p d=>cases e
 | r n=>cases e
 | k q=>cases e
 | c _ _=>cases e
theorem Cn {X:Cx}{o e:BT.E}{f:Str}{b:BT.Bin} (hf:attrName f=true) (D:Ends) (σ:L2.St) (H:Hp) (q:tDS X F G (.augf o f b e) D σ H):r9 X.K (tD X F G o) (tD X F G e) (F4 b) f D σ H:=by
 refine iA (k:=fun s=>BT.sJ (BT.ev F G e s) s f b) (fun s h=>by simp only[BT.evS]) q fun m s h y fl v H1 R S r e1 post=>?_
 obtain ⟨n,c,fs,d,y,g,fs',z,rfl,g1,g2,e2,g3,g4,hl,rfl⟩:=zj e1
 obtain ⟨i,j,k,rfl,rfl,rfl⟩:=sZ g4
 cases r with
 | @o a _ hn =>
  obtain ⟨C,dx,vs,q1,q2,q3⟩:=R.mW _ _ _ _ hn g1
  obtain ⟨u,l,ra⟩:=q3.get g2
  have eu:u=.int i:=by cases ra with | p ra=>cases ra;rfl
  subst eu
  refine ⟨a,C,dx,vs,_,rfl,q1,q2.cls,q2.no f hf,l,m,s,h,_,g,R,S,e2,fun u2 H2 m2 x2 R2 r2=>?_⟩
  cases r2 with
  | p r2 =>
   cases r2
   obtain ⟨C',dx',vs',p1,p2,p3⟩:=R2.mW _ _ _ _ (x2.ix hn) g3
   cases p2.cn.inj q2.cn
   exact ⟨i,j,k,rfl,rfl,g4,dx',vs',p1,by rw[p3.length];exact hl,qb R2 (S.ext x2) (x2.ix hn) p1 p2 p3 (.p (.int k)) (post.ext x2)⟩
theorem Gx {X:Cx}{i:Nat}{x:Str}{k e:BT.E} (D:Ends) (σ:L2.St) (H:Hp) (q:tDS X F G (.put i x k e) D σ H):uS (tD X F G e) (Et (tD X F G (.var i x)) (tD X F G k) DM) D σ H:=by
 refine iA (k:=fun s=>BT.Fq (BT.ev F G k s) s i) (fun s h=>by simp only[BT.evS]) q fun m s h y fl v H1 R S r e1 post=>?_
 unfold BT.Fq at e1
 cases y with
 | r n=>cases e1
 | k q=>cases e1
 | c _ _=>cases e1
 | o q=>cases e1
 | p d =>
  cases g:s[i]? with
  | none=>rw[g] at e1;cases e1
  | some o =>
   cases o with
   | none=>rw[g] at e1;cases e1
   | some wz =>
    cases wz with
    | p _=>rw[g] at e1;cases e1
    | k _=>rw[g] at e1;cases e1
    | c _ _=>rw[g] at e1;cases e1
    | o _=>rw[g] at e1;cases e1
    | r n =>
     rw[g] at e1
     simp only at e1
     obtain ⟨q,h2,e2,e3⟩:=ak e1
     refine ⟨m,s,h,.r n,h,R,S,by simp only[BT.ev,g],fun o H2 m2 x2 R2 r2=>⟨m2,s,h,q,h2,R2,S.ext x2,e2,fun ki H3 m3 x3 R3 r3=>?_⟩⟩
     unfold BT.DT at e3
     cases q with
     | r _=>cases e3
     | k _=>cases e3
     | c _ _=>cases e3
     | o _=>cases e3
     | p dk =>
      cases g2:BT.lat h2 n with
      | none=>rw[g2] at e3;cases dk<;>cases e3
      | some xs =>
       rw[g2] at e3
       cases dk with
       | int j =>
        simp only at e3
        cases g3:BT.place xs.length j with
        | none=>rw[g3] at e3;cases e3
        | some mm =>
         rw[g3] at e3
         cases e3
         have r2':=r2.ext x3
         cases r2' with
         | @r a _ hn =>
          cases r3 with
          | p r3 =>
           cases r3
           obtain ⟨us,hH,ru⟩:=R3.cell n a xs hn g2
           refine ⟨a,us,j,mm,rfl,rfl,hH,by rw[ru.length];exact g3,?_⟩
           have x4:Ext m3 H3 m3 (upd H3 a (.lst (us.set mm v))):=fK (OM hn) hH
           cases r with
           | p r=>exact post σ _ m3 ((x2.trans x3).trans x4) (R3.set hn hH (RDs.set ((r.ext x2).ext x3) mm ru)) (((S.ext x2).ext x3).ext x4)
       | _=>cases e3
theorem Co {X:Cx}{i:Nat}{x:Str}{k e:BT.E} (D:Ends) (σ:L2.St) (H:Hp) (q:tDS X F G (.putd i x k e) D σ H):uS (tD X F G e) (Et (tD X F G (.var i x)) (tD X F G k) D0) D σ H:=by
 refine iA (k:=fun s=>BT.sI (BT.ev F G k s) s i) (fun s h=>by simp only[BT.evS]) q fun m s h y fl v H1 R S r e1 post=>?_
 cases y with
 | r n=>cases e1
 | k q=>cases e1
 | c _ _=>cases e1
 | o q=>cases e1
 | p d =>
  rw[BT.Bu] at e1
  cases g:s[i]? with
  | none=>rw[g] at e1;cases e1
  | some o =>
   cases o with
   | none=>rw[g] at e1;cases e1
   | some wz =>
    cases wz with
    | p _=>rw[g] at e1;cases e1
    | k _=>rw[g] at e1;cases e1
    | c _ _=>rw[g] at e1;cases e1
    | o _=>rw[g] at e1;cases e1
    | r n =>
     rw[g] at e1
     simp only at e1
     obtain ⟨q,h2,e2,e3⟩:=ak e1
     refine ⟨m,s,h,.r n,h,R,S,by simp only[BT.ev,g],fun o H2 m2 x2 R2 r2=>⟨m2,s,h,q,h2,R2,S.ext x2,e2,fun ki H3 m3 x3 R3 r3=>?_⟩⟩
     cases q with
     | r _=>cases e3
     | k _=>cases e3
     | c _ _=>cases e3
     | o _=>cases e3
     | p dk =>
      rw[BT.xZ] at e3
      obtain ⟨kvs,e4,e5⟩:=Option.bind_eq_some_iff.mp e3
      obtain ⟨ky,e6,e7⟩:=Option.bind_eq_some_iff.mp e5
      split at e7
      case isFalse=>cases e7
      rename_i c
      cases e7
      have r2':=r2.ext x3
      cases r2' with
      | @r a _ hn =>
       cases r3 with
       | p r3 =>
        obtain ⟨us,hH,ru⟩:=R3.DX n a kvs hn e4
        have:=cJ
        have hl:=ru.length
        refine ⟨a,us,ky,rfl,Gc r3 e6,hH,by omega,?_⟩
        have x4:Ext m3 H3 m3 (upd H3 a (.dK (putK us ky v))):=jd (OM hn)
        cases r with
        | p r=>exact post σ _ m3 ((x2.trans x3).trans x4) (R3.setC hn ⟨_,aB,(ru.put ky (Gd r3 e6) ((r.ext x2).ext x3)).ext x4⟩) (((S.ext x2).ext x3).ext x4)
end
end BS
end
section
namespace BS
open PySem PySem.Spec PyProof.Rows L2
section
variable {F:FT}{G:Str->Option BT.W}
theorem Gy {X:Cx}{tg:List (Nat×Str)}{sr:BT.Sr}{sa:BT.Es}{b:BT.S}{g:TG} (hg:GOk X tg g) (D:Ends) (σ:L2.St) (H:Hp) (q:tDS X F G (.for tg sr sa b) D σ H):Ie (iD X F G sr sa) g (tDS X F G b) D σ H:=by
 obtain ⟨m,s,h,fl,R,S,e,post⟩:=q
 simp only[BT.evS] at e
 obtain ⟨ws,h1,e1,e2⟩:=ak e
 unfold BT.kFor at e2
 cases g1:(BT.rds ws h1).bind (BT.dH sr) with
 | none=>rw[g1] at e2;cases e2
 | some ds =>
  rw[g1] at e2
  simp only at e2
  split at e2
  ·rename_i ca
   refine ⟨m,s,h,ws,h1,ds,R,S,e1,g1,ca,fun H1 m1 J x1 R1 it=>?_⟩
   refine ⟨fun i n σ H=>i<=ds.length/\n=ds.length - i/\∃ m s h,Ext m1 H1 m H/\RH X.K m H h/\RS X.prog X.w X.K m H σ s/\BT.aQ (BT.evS F G b) tg (ds.drop i) s h=some fl/\jq X m H fl D,
    ⟨ds.length,Pq _,rfl,m1,s,h1,.refl _ _,R1,S.ext x1,by rw[SH];exact e2,post.ext x1⟩,?_⟩
   rintro i n σ2 H2 ⟨hi,rfl,m2,s2,h2,x2,R2,S2,e3,post2⟩
   by_cases c:i < ds.length
   ·refine .inr ⟨it.go m2 H2 i x2 c,_,fun σ' H' z=>⟨ds.length - (i+1),by omega,c,rfl,z⟩,fun x H3 y=>?_⟩
    obtain ⟨x3,k3,r3⟩:=it.yld m2 H2 h2 i x H3 ds[i] x2 R2 (OF c) y
    rw[Uk c,BT.aQ] at e3
    cases g2:BT.target tg.length ds[i] with
    | none=>rw[g2] at e3;cases e3
    | some dd =>
     rw[g2] at e3
     simp only at e3
     have R3:=R2.ext x3 k3
     refine hg m2 H3 σ2 s2 x ds[i] dd _ (S2.ext x3) r3 g2 fun σ4 S4=>?_
     cases g3:BT.evS F G b (BT.sets tg dd s2) h2 with
     | none=>rw[g3] at e3;cases e3
     | some f1 =>
      rw[g3] at e3
      refine ⟨m2,_,h2,f1,R3,S4,g3,?_⟩
      cases f1 with
      | nx s5 h5=>exact fun σ5 H5 m5 x5 R5 S5=>⟨m5,s5,h5,(x2.trans x3).trans x5,R5,S5,e3,(post2.ext x3).ext x5⟩
      | ct s5 h5=>exact fun σ5 H5 m5 x5 R5 S5=>⟨m5,s5,h5,(x2.trans x3).trans x5,R5,S5,e3,(post2.ext x3).ext x5⟩
      | bk s5 h5=>cases e3;exact fun σ5 H5 m5 x5 R5 S5=>post2 σ5 H5 m5 (x3.trans x5) R5 S5
      | rt z h5=>cases e3;exact fun v H5 m5 x5 R5 r5=>post2 v H5 m5 (x3.trans x5) R5 r5
   ·have ei:i=ds.length:=by omega
    subst ei
    refine .inl ⟨it.stop m2 H2 x2,?_⟩
    rw[List.drop_length,BT.aQ] at e3
    cases e3
    exact post2 σ2 H2 m2 (.refl _ _) R2 S2
  ·cases e2
theorem JH {X:Cx}{sc:OW}{N:List Str} (O:Ok X F G sc N) {x:Str}{np pos p:Pos}{elt':Ox}{gs:List Comprehension}{scope:OW} (h:swB sc scope x np pos=true):RN (.ListComp elt' gs scope pos) (some (.Name x np)) p.line X.env=pure true:=by
 have e:RN (.ListComp elt' gs scope pos) (some (.Name x np)) p.line X.env=pure (swB X.env.scope scope x np pos):=rfl
 rw[e,O.hsc,h]
theorem Cq {sc:OW}{x:Str} (c:(sc.names.lookup x==some .cell)=true):j9 sc x=true:=by
 unfold j9
 rw[eq_of_beq c]
theorem zk {sc scope:OW}{x:Str}{np pos:Pos} (h:swB sc scope x np pos=true):sc.names.lookup x=some .local:=by
 unfold swB at h
 simp only[OC] at h
 exact eq_of_beq h.1.1.2
theorem JI {X:Cx}{sc:OW}{N:List Str} (O:Ok X F G sc N) {x:Str}{np pos p:Pos}{elt':Ox}{gs:List Comprehension}{scope:OW} (c:(sc.names.lookup x==some .cell)=true):RN (.ListComp elt' gs scope pos) (some (.Name x np)) p.line X.env=pure false:=by
 have e:RN (.ListComp elt' gs scope pos) (some (.Name x np)) p.line X.env=pure (swB X.env.scope scope x np pos):=rfl
 have z:swB sc scope x np pos=false:=by
  cases h:swB sc scope x np pos with
  | false=>rfl
  | true =>
   have:=zk h
   rw[eq_of_beq c] at this
   cases this
 rw[e,O.hsc,z]
theorem sCL {X:Cx}{sc:OW}{N:List Str} (O:Ok X F G sc N) (hf:∀ x,X.fn x=true) {o:BT.E}{m:Str}{as:BT.Es}{L:Nat}{fv:List (Nat×Str)}{call:Ox} (h:CL sc N o m as L fv call):PE X call (tD X F G (.methL o m as L fv))/\gD call=true:=by
 cases h with
 | zero hl hp hn hk hv ht hc h3 h6 ho=>exact ⟨qa O hf hl hp hn hk hv ht hc h3 h6 (sE ho O) rfl (by simp) JF,rfl⟩
 | one hl hp hn hk hv ht hc h3 h6 ho hs ha=>exact ⟨qa O hf hl hp hn hk hv ht hc h3 h6 (sE ho O) (by simp only[av,hs];rfl) (by simp) (JG hs (sE ha O)),rfl⟩
theorem sSs {X:Cx}{sc:OW}{N:List Str} (O:Ok X F G sc N) (hf:∀ x,X.fn x=true) {s:BT.S}{sts:List PB} (hh:CSs sc N s sts):PSs X sts (tDS X F G s) :=
 CSs.rec (motive_1:=fun s st _=>PS X st (tDS X F G s)) (motive_2:=fun s sts _=>PSs X sts (tDS X F G s))
  (@fun i x m o as L fv call np p h1 h2 hl=>PS.weak (qJ (i:=i) O.nd (by rw[O.hN];exact h1) (iL O h2) (sCL O hf hl).1 (jr (sCL O hf hl).2) (.inl (hf x))) fun D σ H q =>
   iA (k:=fun s=>BT.rA s i) (fun s h=>by simp only[BT.evS]) q fun m s h y fl v H1 R S r e1 post=>by
    simp only[BT.rA] at e1
    cases e1
    exact post _ H1 m (.refl _ _) R (S.set r))
  (fun hl=>PS.weak (wI (sCL O hf hl).1) fun D σ H q =>
   iA (k:=fun s=>BT.ye) (fun s h=>by simp only[BT.evS]) q fun m s h y fl v H1 R S r e1 post=>by
    simp only[BT.ye] at e1
    cases e1
    exact post v H1 m (.refl _ _) R r)
  (@fun i x mu sr sa tg fv cond elt te iter elt' ifs scope pos np p h1 h3 hk ht hz hs hi hc he=>by
   have K:∀ (D:Ends) (σ:L2.St) (H:Hp),tDS X F G (.set i x (.comp mu sr sa tg fv cond elt)) D σ H->uS (tD X F G (.comp mu sr sa tg fv cond elt)) (o8 i) D σ H:=fun D σ H q =>
    iA (k:=fun s=>BT.rA s i) (fun s h=>by rw[BT.evS]) q fun m s h y fl v H1 R S r e1 post=>by
     simp only[BT.rA] at e1
     cases e1
     exact post _ H1 m (.refl _ _) R (S.set r)
   by_cases c:(sc.names.lookup x==some .cell)=true
   ·exact PS.weak (qJ (i:=i) O.nd (by rw[O.hN];exact h1) (iL O (Cq c)) (sE (CE'.comp hk ht hz hs hi hc he) O) (JI O c) (.inl (hf x))) K
   ·have h4:swB sc scope x np pos=true:=by
     rw[QN] at h3
     exact h3.resolve_left c
    exact PS.weak (Cg O hk ht hs (sCI hi O hz) (sCC hc) (fun X' O'=>sE he O') h1 (zk h4) (JH O h4)) K)
  (@fun i x e v np p h1 h2 h3 he=>PS.weak (qJ (i:=i) O.nd (by rw[O.hN];exact h1) (iL O h2) (sE he O) (jr h3) (.inl (hf x))) fun D σ H q =>
   iA (k:=fun s=>BT.rA s i) (fun s h=>by simp only[BT.evS]) q fun m s h y fl v H1 R S r e1 post=>by
    simp only[BT.rA] at e1
    cases e1
    exact post _ H1 m (.refl _ _) R (S.set r))
  (fun h1 h2 h3 h4 h5 hk he=>PS.weak (wK (sE he O) (wJ (n9 O h1 h2 h3) (sE hk O) set_list (lC h5)) (tQ h4) rfl) Gx)
  (fun h1 h2 h3 h4 h5 hk he=>PS.weak (wK (sE he O) (wJ (n9 O h1 h2 h3) (sE hk O) set_dict (lC h5)) (tQ h4) rfl) Co)
  (fun h1 h2 h3 he=>PS.weak (Eu O.nd (by rw[O.hN];exact h1) (iL O h2) (sE he O) (sY h3) (.inl (hf _))) Gw)
  (fun h1 h2 ho he=>PS.weak (EG (sE ho O) (sE he O) (jr h2)) (Ck h1))
  (fun h1 h3 ho he=>PS.weak (u6 (sE ho O) (sE he O) (sY h3)) (Cn h1))
  (fun h he=>PS.weak (AJ (sE he O) (jr h)) fun D σ H q =>
   iA (k:=fun s=>BT.kEx s) (fun s h=>by simp only[BT.evS]) q fun m s h y fl v H1 R S r e1 post=>by
    simp only[BT.kEx] at e1
    cases e1
    exact post σ H1 m (.refl _ _) R S)
  (fun he=>PS.weak (wI (sE he O)) fun D σ H q =>
   iA (k:=fun s=>BT.ye) (fun s h=>by simp only[BT.evS]) q fun m s h y fl v H1 R S r e1 post=>by
    simp only[BT.ye] at e1
    cases e1
    exact post v H1 m (.refl _ _) R r)
  (fun h hc ha hb ia ib=>PS.weak (HY (sT hc O h).1 ia ib) fun D σ H q=>by
   obtain ⟨m,s,h,fl,R,S,e,post⟩:=q
   simp only[BT.evS] at e
   obtain ⟨t,g,e1,e2⟩:=tP e
   refine ⟨m,s,h,t,g,R,S,e1,fun H1 m1 x1 R1=>?_⟩
   simp only[BT.kIf] at e2
   cases t with
   | true=>exact ⟨m1,s,g,fl,R1,S.ext x1,e2,post.ext x1⟩
   | false=>exact ⟨m1,s,g,fl,R1,S.ext x1,e2,post.ext x1⟩)
  (fun h hc hb ib=>PS.weak (wM O.own (sT hc O h).1 ib) Gv)
  (fun ht hi hz hs hb ib=>by
   obtain ⟨g,hg1,hg2⟩:=sCT O ht (fun q _=>.inl (hf q.2))
   exact PS.weak (Ex O.own O.calm (sCI hi O hz) hg1 ib (tN hs)) (Gy hg2))
  (PS.weak wH fun D σ H q=>by
   obtain ⟨m,s,h,fl,R,S,e,post⟩:=q
   simp only[BT.evS] at e
   cases e
   exact post σ H m (.refl _ _) R S)
  (PS.weak o7 fun D σ H q=>by
   obtain ⟨m,s,h,fl,R,S,e,post⟩:=q
   simp only[BT.evS] at e
   cases e
   exact post σ H m (.refl _ _) R S)
  (fun pins s σ H D I q=>by
   obtain ⟨m,s,h,fl,R,S,e,post⟩:=q
   simp only[BT.evS] at e
   cases e)
  (PSs.weak AH fun D σ H q=>by
   obtain ⟨m,s,h,fl,R,S,e,post⟩:=q
   simp only[BT.evS] at e
   cases e
   exact post σ H m (.refl _ _) R S)
  (fun _ ih=>AI ih)
  (fun _ _ ih ir=>PSs.weak (wG ih ir) Gu)
  hh
end
end BS
end
section
namespace BS
open PySem PySem.Spec PyProof.Rows L2
section
variable {P:OO}{w:O6}{K:Ow}{m m':List Addr}{H:Hp}
mutual
theorem RD.shrink (x:∀ a∈m,a∈m'):∀ {v:V}{d:BT.D},RD K m' H v d->RD K m H v d
 | _,_,.non=>.non
 | _,_,.bl b=>.bl b
 | _,_,.int i=>.int i
 | _,_,.str y h=>.str y h
 | _,_,.tup h r=>.tup (h.elim (fun q=>.inl ⟨q.1,fun z=>q.2 (x _ z)⟩) .inr) (RDs.shrink x r)
 | _,_,.lst h r=>.lst (h.elim (fun q=>.inl ⟨q.1,fun z=>q.2 (x _ z)⟩) .inr) (RDs.shrink x r)
theorem RDs.shrink (x:∀ a∈m,a∈m'):∀ {vs:List V}{ds:List BT.D},RDs K m' H vs ds->RDs K m H vs ds
 | _,_,.nil=>.nil
 | _,_,.cons r t=>.cons (RD.shrink x r) (RDs.shrink x t)
end
end
theorem RFs.shrink {K:Ow}{m ex:List Addr}{H H':Hp}:∀ {vs0 vs:List (Str×V)}{fs:List (Str×BT.W)},RFs K m H vs0 fs->RFs K (m++ex) H' vs fs->RFs K m H' vs fs
 | _,_,_,.nil,.nil=>.nil
 | _,_,_,.cons r0 t0,.cons r t=>by
  refine .cons ?_ (RFs.shrink t0 t)
  have back:∀ {n:Nat}{a b:Addr},m[n]?=some b->(m++ex)[n]?=some a->m[n]?=some a:=fun {n a b} h1 h2=>by
   rw[OH (getD_some h1)] at h2
   exact h2
  cases r with
  | p r=>exact .p (r.shrink fun a ha=>Qa _ ha)
  | r h=>cases r0 with | r h0=>exact .r (back h0 h)
  | o h=>cases r0 with | o h0=>exact .o (back h0 h)
theorem RKs.shrink {K:Ow}{m m':List Addr}{H:Hp} (sub:∀ a∈m,a∈m') {vs:List (Key×V)}{kvs:List (BT.Ky×BT.D)} (r:RKs K m' H vs kvs):RKs K m H vs kvs:=by
 induction r with
 | nil=>exact .nil
 | cons hk r t ih=>exact .cons (hk.shrink sub) (r.shrink sub) ih
theorem jQ {P:OO}{w:O6}{K:Ow}{m m':List Addr}{H H':Hp}{h g h':BT.HH}{y z:BT.W}{v:V} (e:BT.fin h y g=some (z,h')) (R:RH K m H h) (x:Ext m H m' H') (R':RH K m' H' g) (r:RW P w K m' H' v y) :
 ∃ m2,Ext m H m2 H'/\RH K m2 H' h'/\RW P w K m2 H' v z:=by
 unfold BT.fin at e
 split at e
 ·cases e;exact ⟨m',x,R',r⟩
 ·split at e
  ·rename_i c1 c2
   obtain ⟨ex,rfl,hx⟩:=x.pre
   have sub:∀ a∈m,a∈m++ex:=fun a ha=>Qa _ ha
   have x2:Ext m H m H':=⟨⟨[],by simp,by simp⟩,x.keep,x.live⟩
   have R2:RH K m H' h:=by
    refine ⟨R.nd,R.len,fun i a xs e1 e2=>?_,R'.tb⟩
    have hi:i < m.length:=getD_some e1
    have hi2:i < h.length:=by rw[← R.len];exact hi
    have e3:g[i]?=some xs:=by
     rw[← c2,Q3 hi2] at e2
     exact e2
    have z:=R'.cl i a xs (by rw[OH hi];exact e1) e3
    cases xs with
    | l ys=>obtain ⟨vs,q1,q2⟩:=z;exact ⟨vs,q1,q2.shrink sub⟩
    | o c fs =>
     obtain ⟨C0,dx0,vs0,_,_,q0⟩:=R.cl i a _ e1 e2
     obtain ⟨C,dx,vs,q1,q2,q3⟩:=z
     exact ⟨C,dx,vs,q1,q2,q0.shrink q3⟩
    | d kvs=>obtain ⟨vs,q1,q2⟩:=z;exact ⟨vs,q1,q2.shrink sub⟩
   cases r with
   | p r=>cases e;exact ⟨m,x2,R2,.p (r.shrink sub)⟩
   | k _ _=>cases e
   | c _ _=>cases e
   | g _ _=>cases e
   | @o a n hn =>
    simp only at e
    split at e
    ·rename_i c3
     cases e
     refine ⟨m,x2,R2,.o ?_⟩
     rw[OH (by rw[R.len];exact c3)] at hn
     exact hn
    ·cases e;exact ⟨m++ex,x,R',.o hn⟩
   | @r a n hn =>
    simp only at e
    split at e
    ·rename_i c3
     cases e
     refine ⟨m,x2,R2,.r ?_⟩
     rw[OH (by rw[R.len];exact c3)] at hn
     exact hn
    ·rename_i c3
     obtain ⟨xs,e4,e5⟩:=aG e
     cases e5
     obtain ⟨vs,q1,q2⟩:=R'.cell n a xs hn e4
     refine ⟨m,x2,R2,.p (.lst (.inl ⟨.inl q1,fun z=>?_⟩) (q2.shrink sub))⟩
     obtain ⟨j,hj⟩:=Po z
     have hjl:=getD_some hj
     have ej:(m++ex)[j]?=some a:=by rw[OH hjl];exact hj
     have:=mX R'.nd ej hn
     rw[R.len] at hjl
     omega
  ·cases e;exact ⟨m',x,R',r⟩
theorem qc {P:OO}{w:O6}{K:Ow}{m:List Addr}{H:Hp}{N:List Str}{vs:List V}{ws:List BT.W} (r:RWs P w K m H vs ws):RS P w K m H (L2.start N vs) (BT.fB N.length ws):=by
 have hl:=r.length
 refine ⟨by simp[L2.start,BT.fB,hl],fun i y e=>?_⟩
 simp only[BT.fB] at e
 by_cases c:i < ws.length
 ·rw[OH (by simpa using c),O2] at e
  obtain ⟨z,e1,e2⟩:=aG e
  cases e2
  have:∀ {vs:List V}{ws:List BT.W}{i:Nat},RWs P w K m H vs ws->ws[i]?=some y->∃ v,vs[i]?=some v/\RW P w K m H v y:=by
   intro vs ws i r
   induction r generalizing i with
   | nil=>intro e;simp at e
   | cons r t ih =>
    intro e
    cases i with
    | zero=>simp at e;subst e;exact ⟨_,rfl,r⟩
    | succ i=>simpa using ih (by simpa using e)
  obtain ⟨v,h1,h2⟩:=this r e1
  refine ⟨v,?_,h2⟩
  unfold L2.start
  rw[OH (by simp;omega),O2,h1];rfl
 ·rw[OU (by simpa using c),Q9] at e
  split at e<;>cases e
theorem Gz {P:OO}{w:O6}{K:Ow}{mg:Str->Option Oz}{base:Heap}{k L:Nat}{F:FT}{G:Str->Option BT.W}{bt:BT.E}{ns:List Str}{g:List BT.W->BT.HH->Option (BT.W×BT.HH)} (hT:BT.nQ L=some ⟨ns,ns,.ret bt⟩)
 (hg:∀ ws h r,g ws h=some r->ws.length=ns.length/\BT.j6 (BT.evS F G (.ret bt) (BT.fB ns.length ws) h) (BT.fin h)=some r)
 (hO:∀ (q:Str) (sc:OW) (cl:List (Str×Addr)) (f c':Addr) (A:PL) (outer:List Env) (s:OB) (H:Hp),ns.Nodup->bU k (A.deeper (RI q sc s.heap.objs.size f (.ref c') cl))->Ok (yS P w K mg base ns q sc cl f c' A outer s H) F G sc ns):pU P w K mg base (k+1) L g:=by
 intro A outer s H f us vs cvs m ws cs h z h' Q E hr e0 rv R rw nc la rc e post
 obtain ⟨bt',ps,fs,pa,be,sc,cl,pm,ctv,c',oc,os,t,q,l0,l1,l2,l3,l4,l5,l6,l7,l8,l9,l10⟩:=la
 rw[hT] at l0
 cases l0
 have lf:=JB l2
 obtain ⟨hwl,e1⟩:=hg _ _ _ e
 have C:=l10.cells l5
 have mH:=rv.length
 have dW:=rw.length
 have iy:=l10.len
 have Hg:cvs.length=cs.length:=by
  clear e e1 hwl l10 iy
  induction rc with
  | nil=>rfl
  | cons _ _ ih=>simp[ih]
 have hu:us.length=ps.length:=by
  simp only[OS,OQ] at hwl
  omega
 refine PySem.W.kla_callFunE hr.depth (e0.hok _ _ l6.1).1 rfl lf.co lf.ge rfl ⟨c',oc,os,t,rfl,(e0.hok _ _ l7.1).1,l8,l9⟩ ?_
 rw[B0 l1 hu]
 refine wpAny_pure (wpAny_newFunctionEnv lf.cell (fun y hy=>lf.loc y.1 (Su hy).1) (fun h1 hns hsb=>?_) lf.kd)
 have hk1:∀ b o,s.heap.get? b=some o->h1.get? b=some o:=fun b o e=>hsb.extBut b o (O3 (OG e)) (OA _ e)
 refine ⟨e0.mod.nolimit.keeps fun b o e=>hk1 b o (e0.bs b o e).1,?_⟩
 show codeAny _ _ (.expr be (RI q sc s.heap.objs.size f (.ref c') cl)) _ _
 refine PySem.W.kla_codeExpr ?_
 have I:=B3 (q:=q) (f:=f) (c':=c') (tk:=s.toks+(ps.zip us).length) l1 lf l4 l5 l10 hr.hd e0 rv hu hns hk1
 have hr1:bU k (A.deeper (RI q sc s.heap.objs.size f (.ref c') cl)):=hr.deeper _
 have O:=hO q sc cl f c' A outer s H lf.nd hr1
 simp only[BT.evS] at e1
 cases g1:BT.ev F G bt (BT.fB (ps++fs).length (ws++cs.map BT.Cp.w)) h with
 | none=>rw[g1] at e1;cases e1
 | some yg =>
  obtain ⟨y,gh⟩:=yg
  rw[g1] at e1
  have e2:BT.fin h y gh=some (z,h'):=e1
  have hs:RS P w K m (hid cl H) (vs.map some++cvs.map some) (BT.fB (ps++fs).length (ws++cs.map BT.Cp.w)):=by
   have r0:=qc (N:=ps++fs) ((rw.tr C.sq nc).app (RCs.ws (P:=P) (w:=w) (rc.tr C.sq)))
   have e3:L2.start (ps++fs) (vs++cvs)=vs.map some++cvs.map some:=by
    unfold L2.start
    simp only[OS]
    rw[show ps.length+fs.length - (vs.length+cvs.length)=0 by omega]
    simp
   rw[e3] at r0;exact r0
  refine wpAny_mono (sE l3 O [] _ _ _ (fun v H'=>∃ m',Ext m (hid cl H) m' H'/\RH K m' H' gh/\RW P w K m' H' v y) I ⟨m,_,h,y,gh,C.rh R,hs,g1,fun v H' m' x' R' r'=>⟨m',x',R',r'⟩⟩) (fun u s' ⟨v,H',I',rv',m',x',R',r'⟩=>?_) (fun e s' hx=>Pn hx)
  have N':∀ x c,cl.lookup x=some c->H' c=none:=fun x c e=>I'.freeC x c e
  have le:Le H' (ret cl H H'):=F7 N'
  obtain ⟨m2,x2,R2,r2⟩:=jQ e2 (C.rh R) x' R' r'
  have B:Un (frs outer) [] (hid cl H) H' s.heap s'.heap:=I'.base
  have nc':∀ b,H b=none->¬ ∃ y,cl.lookup y=some b:=fun b n ⟨y,qq⟩=>by
   obtain ⟨o,uu,k1,_⟩:=C y b qq
   rw[n] at k1;cases k1
  refine ⟨v,ret cl H H',I'.os,I'.bare,⟨fun b o e n hb hx=>B.keep b o e (eH n) hb hx,fun b o e n hb hx=>B.slot b o e (eH n) hb hx,fun b o e n hx=>?_,fun b o e hx=>B.there b o e hx,fun b xs e=>?_,fun b o uu e=>?_,fun b qs e=>?_⟩,fun b uu e=>?_,rv',post v _ m2 (C.F8 N' x2 R2) (R2.le le) (r2.le le)⟩
  ·rw[fq (nc' b n)];exact B.free b o e (eH n) hx
  ·rw[fq (C.out e rfl)];exact B.tups b xs (C.hid e rfl)
  ·by_cases cc:∃ y,cl.lookup y=some b
   ·obtain ⟨y,qq⟩:=cc;rw[oi qq];exact e
   ·rw[fq cc];exact B.frzs b o uu (by rw[dG cc];exact e)
  ·rw[fq (C.out e rfl)];exact B.tbls b qs (C.hid e rfl)
  ·by_cases cc:∃ y,cl.lookup y=some b
   ·obtain ⟨y,qq⟩:=cc
    rw[oi qq] at e
    obtain ⟨o,u2,k1,k2⟩:=C y b qq
    rw[k1] at e
    cases e
    have k3:=B.keep b o (e0.hok _ _ k1).1 (rF qq) (fun hb=>by rw[e0.frf b hb] at k1;cases k1) (by simp)
    exact ⟨k3,_,k3⟩
   ·rw[fq cc] at e
    exact (I'.hok b uu e).stay (fun _ _ _ q=>q) (fun d q=>le _ _ q) fun d xs q=>le _ _ q
noncomputable def j4 (K:Ow) (q:Str) (fd:Qq) (fn:BT.Fn):Prop:=∀ y,fn.ns.contains (BT.cj y)=true->q=y/\y∈BT.dD ∧
 (∃ c P,Pw K y=some (c,P)/\fd.code=.ref c/\RZ K c P=true/\∀ z∈BT.dD,∀ c2,Pw K z=some (c2,P)->z=y) ∧
 ∃ bm ob,Pj K OV "__builtins__"=some (some (.ref bm))/\bm≠QJ/\K.lookup bm=some ob/\ob.cls=.type "module"/\ob.dict=some QJ/\ob.data=.plain
structure Def (K:Ow) (mg:Str->Option Oz) (x:Str) (fn:BT.Fn):Prop where
 ex:∃ (f:Addr) (fd:Qq) (st:PB),mg x=some (.ref f)/\Fun K x x st f fd/\cI fn.ns fn.ps (ao st)/\Binds K fd fn.ps []/\CSs (ao st) fn.ns fn.body (aL st)/\j4 K x fd fn
structure zl (K:Ow) (mg:Str->Option Oz) (c m:Str) (fn:BT.Fn):Prop where
 ex:∃ (C f:Addr) (fd:Qq) (x qual:Str) (st:PB),kU K c C/\mg c=some (.ref C)/\u5 K C m f/\(m="__init__"->Mk K C f)/\Fun K x qual st f fd/\cI fn.ns fn.ps (ao st)/\Binds K fd fn.ps []/\CSs (ao st) fn.ns fn.body (aL st)/\j4 K qual fd fn
structure Txt (P:OO) (w:O6) (K:Ow) (mg:Str->Option Oz) (T:BT.FK->Option BT.Fn) (G:Str->Option BT.W):Prop where
 defs:∀ x fn,T (.f x)=some fn->Def K mg x fn
 meths:∀ c m fn,T (.m c m)=some fn->zl K mg c m fn
 lams:∀ L fn,T (.l L)=some fn->BT.nQ L=some fn/\∃ ns bt,fn=⟨ns,ns,.ret bt⟩/\∀ y,ns.contains (BT.cj y)=false
 glob:∀ x z,G x=some z->∃ u v,mg x=some u/\RelV v u/\∀ m H,RW P w K m H v z
 blt:∀ x∈FO,mg x=none
theorem tR {T:BT.FK->Option BT.Fn}{G:Str->Option BT.W}{k:Nat}{x:BT.FK}{ws:List BT.W}{h:BT.HH}{r:BT.W×BT.HH} (e:BT.runN T G k x ws h=some r):∃ fn,T x=some fn:=by
 cases k with
 | zero=>cases e
 | succ k =>
  rw[BT.runN] at e
  cases q:T x with
  | none=>rw[q] at e;cases e
  | some fn=>exact ⟨fn,rfl⟩
theorem Cr {P:OO}{w:O6}{K:Ow}{mg:Str->Option Oz}{base:Heap}{x qual:Str}{st:PB}{f:Addr}{fd:Qq}{N ps:List Str}{k:Nat}{sp:Sp} (F:Fun K x qual st f fd) (S:cI N ps (ao st)) (len:∀ vs H Q E,sp vs H Q E->vs.length=ps.length)
 (hbody:∀ (cdv:Oz) (A:PL) (outer:List Env) (s:OB) (H:Hp) (vs:List V) (Q:VK) (E:XK),fd.code=cdv->bU k (A.deeper (UA qual (ao st) s.heap.objs.size f cdv))->Mod K mg base->sp vs H Q E →
  ∃ t,PSs (qR CX0 P w K mg base N qual (ao st) f cdv A outer s H E).nox (aL st) t/\t { nx:=fun _ H'=>Q .non H',rt:=Q } (L2.start N vs) H):fT P w K mg base CX0 (k+1) f fd ps sp:=by
 obtain ⟨oc,od,kV,doc,pm,an,cdv,ct,osl,rfl,lk,hcd⟩:=F.ex
 refine ⟨len,fun A outer s H args us vs Q E hr e0 hb r hs=>?_⟩
 have F1:fT P w K mg base CX0 (k+1) f (Qk x qual (cH st) (aL st) (ao st) .none kV doc pm an cdv ct) ps sp:=Ir lk hcd S len fun A outer s H vs Q E hr hsp=>by
  obtain ⟨t,h,q⟩:=hbody cdv A outer s H vs Q E rfl hr e0.mod hsp
  exact ⟨t,h.nox,q⟩
 exact F1.run A outer s H args us vs Q E hr e0 hb r hs
theorem D3 {P:OO}{w:O6}{K:Ow}{mg:Str->Option Oz}{base:Heap}{T:BT.FK->Option BT.Fn}{G:Str->Option BT.W} (X:Txt P w K mg T G) {k:Nat}
 (ih:∀ (x:BT.FK) (fn:BT.Fn),T x=some fn->∀ (f:Addr) (fd:Qq) (nm qual:Str) (st:PB),Fun K nm qual st f fd->cI fn.ns fn.ps (ao st)->CSs (ao st) fn.ns fn.body (aL st)->j4 K qual fd fn->fT P w K mg base CX0 (2*k) f fd fn.ps (spF P w K (BT.runN T G k x)))
 (il:∀ L,(∃ fn,T (.l L)=some fn)->pU P w K mg base (2*k) L (BT.runN T G k (.l L)))
 {Y:Cx}{sc:OW}{N:List Str} (e1:Y.prog=P) (e2:Y.w=w) (e3:Y.K=K) (e4:Y.mg=mg) (e5:Y.base=base) (hsc:Y.env.scope=sc) (hN:Y.N=N) (nd:Y.N.Nodup) (ca:Y.calm=true) (hr:bU (2*k+1) Y.A) (own:PassesOwn (OY Y.prog Y.w) Y.A Y.env Y.xe)
 (lx:(∀ x,Y.fn x=true)->∀ x,N.contains (BT.cj x)=true->LX Y x):Ok Y (BT.runN T G k) G sc N:=by
 subst e1 e2 e3 e4 e5
 refine ⟨hsc,hN,nd,ca,?_,own,X.glob,fun g ws h r e=>?_,fun c g ws h r e=>?_,fun c ws h r e=>?_,X.blt,fun L ws h r e=>⟨2*k,hr.mono (P9 _),il L (tR e)⟩,lx⟩
 ·have:=hr.un
  omega
 ·obtain ⟨fn',hTg⟩:=tR e
  obtain ⟨f',fd',st',a1,a2,a3,a4,a5,a6⟩:=(X.defs g fn' hTg).ex
  exact ⟨f',fd',fn'.ps,2*k,a1,a2.kp,a4,hr.mono (P9 _),ih _ fn' hTg f' fd' g g st' a2 a3 a5 a6⟩
 ·obtain ⟨fn',hTg⟩:=tR e
  obtain ⟨C,f',fd',x',q',st',b1,b2,b3,b4,a2,a3,a4,a5,a6⟩:=(X.meths c g fn' hTg).ex
  exact ⟨C,f',fd',fn'.ps,2*k,b1,b3,a4,hr.mono (P9 _),ih _ fn' hTg f' fd' x' q' st' a2 a3 a5 a6⟩
 ·obtain ⟨fn',hTg⟩:=tR e
  obtain ⟨C,f',fd',x',q',st',b1,b2,b3,b4,a2,a3,a4,a5,a6⟩:=(X.meths c _ fn' hTg).ex
  exact ⟨C,f',fd',fn'.ps,2*k,b1,b2,b4 rfl,a4,hr,ih _ fn' hTg f' fd' x' q' st' a2 a3 a5 a6⟩
theorem Cs {P:OO}{w:O6}{K:Ow}{mg:Str->Option Oz}{base:Heap}{T:BT.FK->Option BT.Fn}{G:Str->Option BT.W} (X:Txt P w K mg T G) :
 ∀ (k:Nat),(∀ (x:BT.FK) (fn:BT.Fn),T x=some fn->∀ (f:Addr) (fd:Qq) (nm qual:Str) (st:PB),Fun K nm qual st f fd->cI fn.ns fn.ps (ao st)->CSs (ao st) fn.ns fn.body (aL st)->j4 K qual fd fn->fT P w K mg base CX0 (2*k) f fd fn.ps (spF P w K (BT.runN T G k x))) ∧
  ∀ L,(∃ fn,T (.l L)=some fn)->pU P w K mg base (2*k) L (BT.runN T G k (.l L)):=by
 intro k
 induction k with
 | zero =>
  refine ⟨fun x fn hT f fd nm qual st h2 h3 h5 h6=>?_,fun L hL=>?_⟩
  ·have no:∀ vs H Q E,¬ spF P w K (BT.runN T G 0 x) vs H Q E:=fun vs H Q E h=>by
    obtain ⟨m,ws,h,z,h',_,_,e,_⟩:=h
    cases e
   exact ⟨fun vs H Q E h=>absurd h (no vs H Q E),fun A outer s H args us vs Q E _ _ _ _ h=>absurd h (no vs H Q E)⟩
  ·intro A outer s H f us vs cvs m ws cs h z h' Q E hr e0 rv R rw nc la rc e post
   cases e
 | succ k ihk =>
  obtain ⟨ih,il⟩:=ihk
  refine ⟨fun x fn hT f fd nm qual st h2 h3 h5 h6=>?_,fun L hL=>?_⟩
  ·show fT P w K mg base CX0 (2*k+1+1) f fd fn.ps (spF P w K (BT.runN T G (k+1) x))
   refine Cr h2 h3 (fun vs H Q E h=>?_) fun cdv A outer s H vs Q E hcd hr hM h=>?_
   ·obtain ⟨m,ws,h,z,h',R,r,e,post⟩:=h
    rw[BT.runN,hT] at e
    simp only at e
    split at e
    ·rename_i c;rw[r.length];exact c
    ·cases e
   ·obtain ⟨m,ws,h,z,h',R,r,e,post⟩:=h
    rw[BT.runN,hT] at e
    simp only at e
    split at e
    ·have O:Ok (qR CX0 P w K mg base fn.ns qual (ao st) f cdv A outer s H E).nox (BT.runN T G k) G (ao st) fn.ns:=by
      refine D3 X ih il rfl rfl rfl rfl rfl rfl rfl h3.nd rfl hr Td fun _ y hy=>?_
      obtain ⟨t1,t2,⟨c,Pt,t3,t4,t5,t6⟩,bm,ob,t7,t8,t9,t10,t11,t12⟩:=h6 y hy
      exact ⟨t2,⟨c,Pt,t3,hcd.symm.trans t4,UF hM.kin t5,t6⟩,by show qual++".<locals>."=_;rw[t1],bm,ob,Qx hM.kin hM.glob t7,t8,hM.kin _ _ t9,t10,t11,t12⟩
     refine ⟨_,sSs O (fun _=>rfl) h5,?_⟩
     cases gg:BT.evS (BT.runN T G k) G fn.body (BT.fB fn.ns.length ws) h with
     | none=>rw[gg] at e;cases e
     | some fl =>
      rw[gg] at e
      refine ⟨m,_,h,fl,R,qc r,gg,?_⟩
      cases fl with
      | rt y g =>
       intro v H' m' x' R' r'
       obtain ⟨m2,y1,y2,y3⟩:=jQ e R x' R' r'
       exact post v H' m2 y1 y2 y3
      | nx s' g =>
       intro σ' H' m' x' R' _
       obtain ⟨m2,y1,y2,y3⟩:=jQ (v:=.non) e R x' R' (.p .non)
       exact post .non H' m2 y1 y2 y3
      | bk s' g=>cases e
      | ct s' g=>cases e
    ·cases e
  ·obtain ⟨fn,hT⟩:=hL
   obtain ⟨hl,ns,bt,rfl,nt⟩:=X.lams L fn hT
   show pU P w K mg base (2*k+1+1) L (BT.runN T G (k+1) (.l L))
   refine Gz (F:=BT.runN T G k) (G:=G) hl (fun ws h r e=>?_) fun q sc cl f c' A outer s H nd hr=>D3 X ih il rfl rfl rfl rfl rfl rfl rfl nd rfl hr Td fun _ y hy=>absurd hy (by rw[nt y];decide)
   rw[BT.runN,hT] at e
   simp only at e
   split at e
   ·rename_i c;exact ⟨c,e⟩
   ·cases e
theorem GA {P:OO}{w:O6}{K:Ow}{mg:Str->Option Oz}{base:Heap}{T:BT.FK->Option BT.Fn}{G:Str->Option BT.W} (X:Txt P w K mg T G) (k:Nat) (x:BT.FK) (fn:BT.Fn) (hT:T x=some fn) (f:Addr) (fd:Qq) (nm qual:Str) (st:PB) (h2:Fun K nm qual st f fd) (h3:cI fn.ns fn.ps (ao st)) (h5:CSs (ao st) fn.ns fn.body (aL st)) (h6:j4 K qual fd fn) :
 fT P w K mg base CX0 (2*k) f fd fn.ps (spF P w K (BT.runN T G k x)):=(Cs X k).1 x fn hT f fd nm qual st h2 h3 h5 h6
end BS
end
section
namespace BT
open PySem
noncomputable def bJ:Fn:=⟨["part"],["part"],
 (.seq (.ife (.cmp .eq (.idx (.glo "INNER_COUNTS") (.idx (.var 0 "part") (.cst (.int 0)))) (.cst (.int 0))) (.ret (.tup .nil)) .nil)
 (.ret (.slc (.var 0 "part") (.cons (.cst (.int 1)) .nil) .nil)))⟩
noncomputable def gE:Fn:=⟨[],[],
 (.ret (.tup (.cons (.cst (.int 0)) (.cons (.bin .mul (.tup (.cons (.cst (.int 0)) .nil)) (.bi .len false (.cons (.glo "LETTERS") .nil))) (.cons (.bin .mul (.tup (.cons (.cst (.int 0)) .nil)) (.glo "CELL_COUNT")) (.cons (.tup .nil) (.cons (.cst (.int 0)) (.cons (.tup .nil) .nil))))))))⟩
noncomputable def dM:Fn:=⟨["term"],["term","parts","waiting","part"],
 (.seq (.set 1 "parts" (.lst true .nil))
 (.seq (.set 2 "waiting" (.lst true (.cons (.var 0 "term") .nil)))
 (.seq (.whl (.cmp .gt (.bi .len false (.cons (.var 2 "waiting") .nil)) (.cst (.int 0))) (.seq (.set 3 "part" (.me .pop (.var 2 "waiting") .nil))
 (.seq (.ex (.me .append (.var 1 "parts") (.cons (.var 3 "part") .nil)))
 (.ex (.me .extend (.var 2 "waiting") (.cons (.call "inner_sums" (.cons (.var 3 "part") .nil)) .nil))))))
 (.ret (.var 1 "parts")))))⟩
noncomputable def fM:Fn:=⟨["word","one","other"],["word","one","other"],
 (.seq (.ife (.cmp .eq (.var 0 "word") (.cst (.str "less"))) (.ret (.ite (.cmp .lt (.var 1 "one") (.var 2 "other")) (.cst (.int 1)) (.cst (.int 0)))) .nil)
 (.seq (.ife (.cmp .eq (.var 0 "word") (.cst (.str "add"))) (.ret (.bin .mod (.bin .add (.var 1 "one") (.var 2 "other")) (.glo "WORTH_COUNT"))) .nil)
 (.seq (.ife (.cmp .eq (.var 0 "word") (.cst (.str "sub"))) (.ret (.bin .mod (.bin .sub (.var 1 "one") (.var 2 "other")) (.glo "WORTH_COUNT"))) .nil)
 (.ret (.bin .mod (.bin .mul (.var 1 "one") (.var 2 "other")) (.glo "WORTH_COUNT"))))))⟩
noncomputable def eS:Fn:=⟨["thing"],["thing"],
 (.ret (.cmp .mem (.var 0 "thing") (.glo "LETTERS")))⟩
noncomputable def dN:Fn:=⟨["state","thing"],["state","thing"],
 (.seq (.ife (.call "is_name" (.cons (.var 1 "thing") .nil)) (.ret (.idx (.idx (.var 0 "state") (.glo "NAMES")) (.me .tindex (.glo "LETTERS") (.cons (.var 1 "thing") .nil)))) .nil)
 (.seq (.ex (.call "check_thing" (.cons (.var 1 "thing") .nil)))
 (.ret (.idx (.idx (.var 0 "state") (.glo "CELLS")) (.var 1 "thing")))))⟩
noncomputable def bC:Fn:=⟨["part","worths","state"],["part","worths","state","word","last"],
 (.seq (.set 3 "word" (.idx (.var 0 "part") (.cst (.int 0))))
 (.seq (.ife (.cmp .eq (.var 3 "word") (.cst (.str "num"))) (.ret (.idx (.var 0 "part") (.cst (.int 1)))) .nil)
 (.seq (.ife (.cmp .eq (.var 3 "word") (.cst (.str "name"))) (.ret (.call "worth_in" (.cons (.var 2 "state") (.cons (.idx (.var 0 "part") (.cst (.int 1))) .nil)))) .nil)
 (.seq (.set 4 "last" (.me .pop (.var 1 "worths") .nil))
 (.seq (.ife (.cmp .eq (.var 3 "word") (.cst (.str "cell"))) (.ret (.idx (.idx (.var 2 "state") (.glo "CELLS")) (.bin .mod (.var 4 "last") (.glo "CELL_COUNT")))) .nil)
 (.ret (.call "of_two" (.cons (.var 3 "word") (.cons (.me .pop (.var 1 "worths") .nil) (.cons (.var 4 "last") .nil))))))))))⟩
noncomputable def dO:Fn:=⟨["term","state"],["term","state","worths","part"],
 (.seq (.set 2 "worths" (.lst true .nil))
 (.seq (.for [(3,"part")] .rev (.cons (.call "laid_out" (.cons (.var 0 "term") .nil)) .nil) (.ex (.me .append (.var 2 "worths") (.cons (.call "worth_of" (.cons (.var 3 "part") (.cons (.var 2 "worths") (.cons (.var 1 "state") .nil)))) .nil))))
 (.ret (.idx (.var 2 "worths") (.cst (.int 0))))))⟩
noncomputable def eU:Fn:=⟨["term","state"],["term","state"],
 (.ret (.bin .mod (.call "reckoned" (.cons (.var 0 "term") (.cons (.var 1 "state") .nil))) (.glo "CELL_COUNT")))⟩
noncomputable def dg:Fn:=⟨["program","state"],["program","state","word"],
 (.seq (.ife (.cmp .ge (.idx (.var 1 "state") (.glo "ROW")) (.bi .len false (.cons (.var 0 "program") .nil))) (.ret (.cst (.bl true))) .nil)
 (.seq (.set 2 "word" (.idx (.idx (.var 0 "program") (.idx (.var 1 "state") (.glo "ROW"))) (.cst (.int 0))))
 (.seq (.ife (.cmp .eq (.var 2 "word") (.cst (.str "back"))) (.ret (.cmp .eq (.bi .len false (.cons (.idx (.var 1 "state") (.glo "CALLS")) .nil)) (.cst (.int 0)))) .nil)
 (.seq (.ife (.cmp .eq (.var 2 "word") (.cst (.str "call"))) (.ret (.cmp .ge (.bi .len false (.cons (.idx (.var 1 "state") (.glo "CALLS")) .nil)) (.glo "MOST_CALLS"))) .nil)
 (.ret (.cmp .eq (.var 2 "word") (.cst (.str "stop"))))))))⟩
noncomputable def bG:Fn:=⟨["row","state"],["row","state","word"],
 (.seq (.set 2 "word" (.idx (.var 0 "row") (.cst (.int 0))))
 (.seq (.ife (.or (.cmp .eq (.var 2 "word") (.cst (.str "jump"))) (.cmp .eq (.var 2 "word") (.cst (.str "call")))) (.ret (.idx (.var 0 "row") (.cst (.int 1)))) .nil)
 (.seq (.ife (.cmp .eq (.var 2 "word") (.cst (.str "back"))) (.ret (.idx (.idx (.var 1 "state") (.glo "CALLS")) (.neg (.cst (.int 1))))) .nil)
 (.seq (.ife (.and (.cmp .eq (.var 2 "word") (.cst (.str "unless"))) (.cmp .eq (.call "reckoned" (.cons (.idx (.var 0 "row") (.cst (.int 1))) (.cons (.var 1 "state") .nil))) (.cst (.int 0)))) (.ret (.idx (.var 0 "row") (.cst (.int 2)))) .nil)
 (.ret (.bin .add (.idx (.var 1 "state") (.glo "ROW")) (.cst (.int 1))))))))⟩
noncomputable def bV:Fn:=⟨["worths","number","worth"],["worths","number","worth"],
 (.ret (.bin .add (.bin .add (.slc (.var 0 "worths") .nil (.cons (.var 1 "number") .nil)) (.tup (.cons (.var 2 "worth") .nil))) (.slc (.var 0 "worths") (.cons (.bin .add (.var 1 "number") (.cst (.int 1))) .nil) .nil)))⟩
noncomputable def cK:Fn:=⟨["state","name","worth"],["state","name","worth"],
 (.ret (.call "with_worth" (.cons (.idx (.var 0 "state") (.glo "NAMES")) (.cons (.me .tindex (.glo "LETTERS") (.cons (.var 1 "name") .nil)) (.cons (.var 2 "worth") .nil)))))⟩
noncomputable def dh:Fn:=⟨["asked","number"],["asked","number"],
 (.ret (.ite (.cmp .lt (.var 1 "number") (.bi .len false (.cons (.var 0 "asked") .nil))) (.idx (.var 0 "asked") (.var 1 "number")) (.cst (.int 0))))⟩
noncomputable def eV:Fn:=⟨["program","asked","state"],["program","asked","state","row","word","behind"],
 (.seq (.set 3 "row" (.idx (.var 0 "program") (.idx (.var 2 "state") (.glo "ROW"))))
 (.seq (.set 4 "word" (.idx (.var 3 "row") (.cst (.int 0))))
 (.seq (.set 5 "behind" (.bi .list true (.cons (.var 2 "state") .nil)))
 (.seq (.put 5 "behind" (.glo "ROW") (.call "place_behind" (.cons (.var 3 "row") (.cons (.var 2 "state") .nil))))
 (.seq (.ife (.cmp .eq (.var 4 "word") (.cst (.str "set"))) (.put 5 "behind" (.glo "NAMES") (.call "with_name" (.cons (.var 2 "state") (.cons (.idx (.var 3 "row") (.cst (.int 1))) (.cons (.call "reckoned" (.cons (.idx (.var 3 "row") (.cst (.int 2))) (.cons (.var 2 "state") .nil))) .nil))))) (.ife (.cmp .eq (.var 4 "word") (.cst (.str "put"))) (.put 5 "behind" (.glo "CELLS") (.call "with_worth" (.cons (.idx (.var 2 "state") (.glo "CELLS")) (.cons (.call "cell_by" (.cons (.idx (.var 3 "row") (.cst (.int 1))) (.cons (.var 2 "state") .nil))) (.cons (.call "reckoned" (.cons (.idx (.var 3 "row") (.cst (.int 2))) (.cons (.var 2 "state") .nil))) .nil))))) (.ife (.cmp .eq (.var 4 "word") (.cst (.str "ask"))) (.seq (.put 5 "behind" (.glo "NAMES") (.call "with_name" (.cons (.var 2 "state") (.cons (.idx (.var 3 "row") (.cst (.int 1))) (.cons (.call "brought" (.cons (.var 1 "asked") (.cons (.idx (.var 2 "state") (.glo "ASKED")) .nil))) .nil)))))
 (.put 5 "behind" (.glo "ASKED") (.bin .add (.idx (.var 2 "state") (.glo "ASKED")) (.cst (.int 1))))) (.ife (.cmp .eq (.var 4 "word") (.cst (.str "say"))) (.put 5 "behind" (.glo "SAID") (.bin .add (.idx (.var 2 "state") (.glo "SAID")) (.tup (.cons (.call "reckoned" (.cons (.idx (.var 3 "row") (.cst (.int 1))) (.cons (.var 2 "state") .nil))) .nil)))) (.ife (.cmp .eq (.var 4 "word") (.cst (.str "call"))) (.put 5 "behind" (.glo "CALLS") (.bin .add (.idx (.var 2 "state") (.glo "CALLS")) (.tup (.cons (.bin .add (.idx (.var 2 "state") (.glo "ROW")) (.cst (.int 1))) .nil)))) (.ife (.cmp .eq (.var 4 "word") (.cst (.str "back"))) (.put 5 "behind" (.glo "CALLS") (.slc (.idx (.var 2 "state") (.glo "CALLS")) .nil (.cons (.neg (.cst (.int 1))) .nil))) .nil))))))
 (.ret (.bi .tuple false (.cons (.var 5 "behind") .nil))))))))⟩
theorem tS {s t:String}:OT s=OT t↔s=t:=by
 constructor
 ·intro h
  rw[UL,UL] at h
  have h1:(s.toList.map Ur)=(t.toList.map Ur):=by
   have:=congrArg (fun x:Str=>x.cps.toList) h
   simpa using this
  have inj:∀ (a b:List Char),a.map Ur=b.map Ur->a=b:=by
   intro a
   induction a with
   | nil=>intro b h;cases b with
    | nil=>rfl
    | cons _ _=>simp at h
   | cons x xs ih=>intro b h;cases b with
    | nil=>simp at h
    | cons y ys =>
     simp only[O0,Ro] at h
     have:x=y:=Char.toNat_inj.mp h.1
     rw[this,ih ys h.2]
  have h2:=inj _ _ h1
  exact String.toList_inj.mp h2
 ·intro h;rw[h]
@[simp] theorem LQ (s t:String):(OT s==OT t)=(s==t):=by
 by_cases h:s=t
 ·subst h;simp
 ·have h1:¬ OT s=OT t:=fun e=>h (tS.mp e)
  rw[beq_eq_false_iff_ne.mpr h1,beq_eq_false_iff_ne.mpr h]
@[simp] theorem M7 (s t:String):(OT s=OT t)=(s=t):=propext tS
@[simp] theorem Om {α:Type} (h:List α) (a:α) (r:List α):(h++a :: r)[h.length]?=some a:=by simp
@[simp] theorem JJ {α:Type} (h:List α) (a b:α) (r:List α):(h++a :: b :: r)[h.length+1]?=some b:=by
 rw[OU (by omega)];simp
@[simp] theorem On {α:Type} (h:List α) (a x:α) (r:List α):(h++a :: r).set h.length x=h++x :: r:=by simp
@[simp] theorem Oo {α:Type} (h:List α) (a b x:α) (r:List α):(h++a :: b :: r).set (h.length+1) x=h++a :: x :: r:=by
 rw[Rm _ _ (by omega)];simp
theorem ai (h:HH) (w:W):fin h w h=some (w,h):=by simp[fin]
theorem gF (h g:HH) (d:D):fin h (.p d) (h++g)=some (.p d,h):=by
 unfold fin
 cases g with
 | nil=>simp
 | cons c g=>simp
@[simp] theorem M8 (h:HH) (a:Cl) (r:HH):lat (h++a :: r) h.length=nF a:=by simp[lat]
@[simp] theorem Oq (h:HH) (a b:Cl) (r:HH):lat (h++a :: b :: r) (h.length+1)=nF b:=by
 unfold lat;rw[JJ];rfl
@[simp] theorem Os (h:HH) (a:Cl) (r:HH):oat (h++a :: r) h.length=pL a:=by simp[oat]
@[simp] theorem Ot (h:HH) (a b:Cl) (r:HH):oat (h++a :: b :: r) (h.length+1)=pL b:=by
 unfold oat;rw[JJ];rfl
theorem Ct {h:HH}{n:Nat}{ys:List D} (e:lat h n=some ys) (c:Cl):lat (h.set n c) n=nF c:=by
 unfold lat at e ⊢
 cases g:h[n]? with
 | none=>rw[g] at e;cases e
 | some q=>rw[List.getElem?_set_self',g];rfl
theorem D4 (h:HH) (xs:List D) (g:HH):fin h (.r h.length) (h++.l xs :: g)=some (.p (.lst xs),h):=by
 unfold fin;simp
theorem tT (h h':HH) (w:W) (e:h'.length=h.length):fin h w h'=some (w,h'):=by simp[fin,e]
structure Prg (T:FK->Option Fn) (G:Str->Option W):Prop where
 inner_sums:T "inner_sums"=some bJ
 begun:T "begun"=some gE
 laid_out:T "laid_out"=some dM
 of_two:T "of_two"=some fM
 worth_of:T "worth_of"=some bC
 is_name:T "is_name"=some eS
 worth_in:T "worth_in"=some dN
 reckoned:T "reckoned"=some dO
 cell_by:T "cell_by"=some eU
 is_over:T "is_over"=some dg
 place_behind:T "place_behind"=some bG
 with_worth:T "with_worth"=some bV
 with_name:T "with_name"=some cK
 brought:T "brought"=some dh
 stepped:T "stepped"=some eV
 LETTERS:G "LETTERS"=some (.p (.tup [.str "a",.str "b",.str "c",.str "d",.str "e",.str "f"]))
 CELL_COUNT:G "CELL_COUNT"=some (.p (.int 4))
 WORTH_COUNT:G "WORTH_COUNT"=some (.p (.int 10007))
 INNER:G "INNER_COUNTS"=some (.k [("num",.int 0),("name",.int 0),("cell",.int 1),("add",.int 2),("sub",.int 2),("mul",.int 2),("less",.int 2)])
 ROW:G "ROW"=some (.p (.int 0))
 NAMES:G "NAMES"=some (.p (.int 1))
 CELLS:G "CELLS"=some (.p (.int 2))
 CALLS:G "CALLS"=some (.p (.int 3))
 ASKED:G "ASKED"=some (.p (.int 4))
 SAID:G "SAID"=some (.p (.int 5))
 MOST_CALLS:G "MOST_CALLS"=some (.p (.int 6))
inductive Op where
 | add | sub | mul | less
noncomputable def Op.w:Op->String
 | .add=>"add" | .sub=>"sub" | .mul=>"mul" | .less=>"less"
inductive Nm where
 | a | b | c | d | e | f
noncomputable def Nm.w:Nm->String
 | .a=>"a" | .b=>"b" | .c=>"c" | .d=>"d" | .e=>"e" | .f=>"f"
noncomputable def Nm.ix:Nm->Nat
 | .a=>0 | .b=>1 | .c=>2 | .d=>3 | .e=>4 | .f=>5
theorem Nm.D5 (x:Nm):x.ix < 6:=by cases x<;>decide
inductive Sm where
 | num (n:Int)
 | nam (i:Nm)
 | cell (s:Sm)
 | two (o:Op) (s t:Sm)
noncomputable def Sm.enc:Sm->D
 | .num n=>.tup [.str "num",.int n]
 | .nam i=>.tup [.str "name",.str i.w]
 | .cell s=>.tup [.str "cell",s.enc]
 | .two o s t=>.tup [.str o.w,s.enc,t.enc]
noncomputable def Sm.size:Sm->Nat
 | .num _=>1
 | .nam _=>1
 | .cell s=>s.size+1
 | .two _ s t=>s.size+t.size+1
noncomputable def Sm.lay:Sm->List Sm
 | .num n=>[.num n]
 | .nam i=>[.nam i]
 | .cell s=>.cell s :: s.lay
 | .two o s t=>.two o s t :: (t.lay++s.lay)
noncomputable def Sm.subs:Sm->List Sm
 | .num _=>[]
 | .nam _=>[]
 | .cell s=>[s]
 | .two _ s t=>[s,t]
noncomputable def Wth (n:Int):Prop:=0<=n/\n<=10006
noncomputable def Sm.ok:Sm->Prop
 | .num n=>Wth n
 | .nam _=>True
 | .cell s=>s.ok
 | .two _ s t=>s.ok/\t.ok
theorem Sm.size_pos (s:Sm):1<=s.size:=by cases s<;>simp[Sm.size]
structure St where
 row:Nat
 names:List Int
 cells:List Int
 calls:List Nat
 asked:Nat
 said:List Int
noncomputable def aa (xs:List Int):List D:=xs.map D.int
noncomputable def af (xs:List Nat):List D:=xs.map fun (n:Nat)=>D.int (n:Int)
noncomputable def St.enc (s:St):D:=.tup [.int s.row,.tup (aa s.names),.tup (aa s.cells),.tup (af s.calls),.int s.asked,.tup (aa s.said)]
structure St.ok (s:St):Prop where
 nlen:s.names.length=6
 clen:s.cells.length=4
 nw:∀ x∈s.names,Wth x
 cw:∀ x∈s.cells,Wth x
noncomputable def two (o:Op) (x y:Int):Int:=match o with
 | .add=>(x+y) % 10007
 | .sub=>(x - y) % 10007
 | .mul=>(x*y) % 10007
 | .less=>if x < y then 1 else 0
noncomputable def Sm.val (st:St):Sm->Int
 | .num n=>n
 | .nam i=>st.names.getD i.ix 0
 | .cell s=>st.cells.getD (s.val st % 4).toNat 0
 | .two o s t=>BT.two o (s.val st) (t.val st)
theorem rO {xs:List Int} (h:∀ x∈xs,Wth x) (i:Nat):Wth (xs.getD i 0):=by
 rw[QV]
 cases e:xs[i]? with
 | none=>exact ⟨by decide,by decide⟩
 | some x=>exact h x (OM e)
theorem JK (o:Op) {x y:Int}:Wth (BT.two o x y):=by
 cases o<;>simp only[BT.two,Wth]
 ·omega
 ·omega
 ·omega
 ·split<;>decide
theorem Sm.qd {st:St} (ho:st.ok):∀ {s:Sm},s.ok->Wth (s.val st)
 | .num _,h=>h
 | .nam i,_=>rO ho.nw _
 | .cell _,_=>rO ho.cw _
 | .two _ _ _,_=>JK _
section
variable {T:FK->Option Fn}{G:Str->Option W}
theorem vU (P:Prg T G) (k:Nat) (s:Sm) (h:HH):runN T G (k+1) "inner_sums" [.p s.enc] h=some (.p (.tup (s.subs.map Sm.enc)),h):=by
 rw[run_eq P.inner_sums rfl]
 cases s with
 | two o s t =>
  have g:=P.INNER
  have q:cT (OT o.w) [("num",.int 0),("name",.int 0),("cell",.int 1),("add",.int 2),("sub",.int 2),("mul",.int 2),("less",.int 2)]=some (.int 2):=by cases o<;>simp[Op.w]
  generalize ([("num",.int 0),("name",.int 0),("cell",.int 1),("add",.int 2),("sub",.int 2),("mul",.int 2),("less",.int 2)]:List (Str×D))=I at *
  simp[bJ,g,q,Sm.enc,Sm.subs,ai]
 | _=>simp[bJ,P.INNER,Sm.enc,Sm.subs,ai]
theorem rP (P:Prg T G) (k:Nat) (o:Op) {x y:Int} (hx:Wth x) (h:HH) :
 runN T G (k+1) "of_two" [.p (.str o.w),.p (.int x),.p (.int y)] h=some (.p (.int (two o x y)),h):=by
 rw[run_eq P.of_two rfl]
 have b:big x=true:=by unfold big;exact decide_eq_true (by have h1:=hx.1;have h2:=hx.2;omega)
 cases o<;>simp[fM,P.WORTH_COUNT,ai,Op.w,two,b]
 by_cases c:x < y<;>simp[c,ai]
noncomputable def mz:List D:=[.str "a",.str "b",.str "c",.str "d",.str "e",.str "f"]
theorem Cu (x:Nm):dX .mem (.str x.w) (.tup mz)=some true:=by cases x<;>simp[mz,Nm.w]
theorem zm (x:Nm):meD .tindex (.tup mz) [.str x.w]=some (.int (x.ix:Int)):=by
 rw[xN]
 cases x<;>simp[mz,Nm.w,Nm.ix,iG]
theorem qe {xs:List Int}{i:Nat} (h:i < xs.length):aD (.tup (aa xs)) (.int (i:Int))=some (.int (xs.getD i 0)):=by
 show atP _ _=_
 unfold atP place aa
 rw[if_pos (Int.natCast_nonneg _),if_pos (by rw[OQ];omega)]
 show (xs.map D.int)[((i:Int)).toNat]?=_
 rw[Qz,O2,QV,OF h];rfl
theorem m8 (st:St):aD st.enc (.int 1)=some (.tup (aa st.names)):=rfl
theorem vV (st:St):aD st.enc (.int 2)=some (.tup (aa st.cells)):=rfl
theorem qf (P:Prg T G) (k:Nat) (x:Nm) (h:HH):runN T G (k+1) "is_name" [.p (.str x.w)] h=some (.p (.bl true),h):=by
 rw[run_eq P.is_name rfl]
 have g:G "LETTERS"=some (.p (.tup mz)):=P.LETTERS
 have m:=Cu x
 generalize mz=L at *
 simp[-bE,eS,g,m,ai]
theorem oz (P:Prg T G) (k:Nat) (st:St) (ho:st.ok) (x:Nm) (h:HH):runN T G (k+2) "worth_in" [.p st.enc,.p (.str x.w)] h=some (.p (.int (st.names.getD x.ix 0)),h):=by
 rw[run_eq P.worth_in rfl]
 have r:=qf P k x
 have lx:=x.D5
 have i1:=qe (xs:=st.names) (i:=x.ix) (by rw[ho.nlen];exact lx)
 have i2:=zm x
 have i3:=m8 st
 have g:G "LETTERS"=some (.p (.tup mz)):=P.LETTERS
 generalize mz=L at *
 generalize st.enc=se at *
 generalize aa st.names=sn at *
 simp[-nI,dN,r,P.NAMES,g,i1,i2,i3,ai]
theorem gG (P:Prg T G) (k:Nat) (st:St) (ho:st.ok) (n:Nat) (h:HH) :
 (∀ i,runN T G (k+3) "worth_of" [.p (Sm.num i).enc,.r n,.p st.enc] h=some (.p (.int i),h)) ∧
 (∀ i,runN T G (k+3) "worth_of" [.p (Sm.nam i).enc,.r n,.p st.enc] h=some (.p (.int (st.names.getD i.ix 0)),h)):=by
 refine ⟨fun i=>?_,fun i=>?_⟩<;>rw[run_eq P.worth_of rfl]
 ·simp[bC,Sm.enc,ai]
 ·have r:=oz P k st ho i
  simp[bC,Sm.enc,ai,r]
theorem lD (P:Prg T G) (k:Nat) (st:St) (ho:st.ok) (n:Nat) (h:HH) (s:Sm) (ws:List D) (v:Int) (e:lat h n=some (ws++[.int v])) (hv:0<=v) :
 runN T G (k+1) "worth_of" [.p (Sm.cell s).enc,.r n,.p st.enc] h=some (.p (.int (st.cells.getD (v % 4).toNat 0)),h.set n (.l ws)):=by
 rw[run_eq P.worth_of rfl]
 have c:(((v % 4).toNat:Nat):Int)=v % 4:=by omega
 have i1:=qe (xs:=st.cells) (i:=(v % 4).toNat) (by rw[ho.clen];omega)
 rw[c] at i1
 have i3:=vV st
 generalize st.enc=se at *
 generalize aa st.cells=sn at *
 generalize st.cells.getD (v % 4).toNat 0=z at *
 simp[bC,Sm.enc,P.CELLS,P.CELL_COUNT,e,i1,i3,tT]
theorem Op.other (o:Op):¬ o.w="num"/\¬ o.w="name"/\¬ o.w="cell":=by cases o<;>decide
theorem mC (P:Prg T G) (k:Nat) (st:St) (n:Nat) (h:HH) (o:Op) (s t:Sm) (ws:List D) (x y:Int) (hx:Wth x) (e:lat h n=some (ws++[.int x,.int y])) :
 runN T G (k+2) "worth_of" [.p (Sm.two o s t).enc,.r n,.p st.enc] h=some (.p (.int (two o x y)),h.set n (.l ws)):=by
 rw[run_eq P.worth_of rfl]
 have e3:lat (h.set n (.l (ws++[.int x]))) n=some (ws++[.int x]):=Ct e _
 have e1:(ws++[D.int x,D.int y]).getLast?=some (.int y):=by simp
 have e2:(ws++[D.int x,D.int y]).dropLast=ws++[.int x]:=by simp
 have r:=fun hh=>rP P k o (x:=x) (y:=y) hx hh
 obtain ⟨n1,n2,n3⟩:=o.other
 have en:(Sm.two o s t).enc=.tup [.str o.w,s.enc,t.enc]:=rfl
 rw[en]
 generalize o.w=ow at *
 generalize s.enc=se at *
 generalize t.enc=te at *
 simp[bC,e,e1,e2,e3,n1,n2,n3,r,tT,UM]
noncomputable def loC:E:=.cmp .gt (.bi .len false (.cons (.var 2 "waiting") .nil)) (.cst (.int 0))
noncomputable def loB:S:=.seq (.set 3 "part" (.me .pop (.var 2 "waiting") .nil))
 (.seq (.ex (.me .append (.var 1 "parts") (.cons (.var 3 "part") .nil)))
 (.ex (.me .extend (.var 2 "waiting") (.cons (.call "inner_sums" (.cons (.var 3 "part") .nil)) .nil))))
noncomputable def sizes (l:List Sm):Nat:=(l.map Sm.size).sum
theorem rQ (s:Sm) (l:List Sm):sizes (s.subs.reverse++l)+1=sizes (s :: l):=by
 cases s<;>simp[sizes,Sm.subs,Sm.size]<;>omega
theorem zo (s:Sm) (l:List Sm):(s :: l).flatMap Sm.lay=s :: (s.subs.reverse++l).flatMap Sm.lay:=by
 cases s<;>simp[Sm.lay,Sm.subs,List.flatMap_cons]
theorem Cv (s:Sm):s.subs.length<=2:=by cases s<;>simp[Sm.subs]
theorem ng (l:List Sm):l.length<=sizes l:=by
 induction l with
 | nil=>simp[sizes]
 | cons s l ih =>
  have h1:=s.size_pos
  simp only[sizes,O0,Ut,OZ] at ih ⊢
  omega
theorem Cw (P:Prg T G) (k:Nat) (h:HH) (t0:W):∀ (m:Nat) (stk:List Sm) (ps:List D) (x:Option W),sizes stk<=m->ps.length+sizes stk<=50000 →
 ∃ x',aP (ev (runN T G (k+1)) G loC) (evS (runN T G (k+1)) G loB) (m+1) [some t0,some (.r h.length),some (.r (h.length+1)),x] (h++[.l ps,.l (stk.reverse.map Sm.enc)]) =
  some (.nx [some t0,some (.r h.length),some (.r (h.length+1)),x'] (h++[.l (ps++(stk.flatMap Sm.lay).map Sm.enc),.l []])):=by
 intro m
 induction m with
 | zero =>
  intro stk ps x hs _
  have:stk=[]:=by
   have:=ng stk
   exact Tz (by omega)
  subst this
  exact ⟨x,by simp[aP,loC,rd]⟩
 | succ m ih =>
  intro stk ps x hs hl
  cases stk with
  | nil=>exact ⟨x,by simp[aP,loC,rd]⟩
  | cons s l =>
   have e:=rQ s l
   obtain ⟨x',q⟩:=ih (s.subs.reverse++l) (ps++[s.enc]) (some (.p s.enc)) (by omega) (by simp only[OS,Pv];omega)
   refine ⟨x',?_⟩
   have r:=vU P k s
   have l1:l.length+s.subs.length<=100000:=by
    have h1:=Cv s
    have h2:=ng l
    have h3:sizes (s :: l)=s.size+sizes l:=by simp[sizes]
    omega
   have c1:(0:Int) < (l.length:Int)+1:=by omega
   have l2:ps.length < 100000:=by omega
   have hc:ev (runN T G (k+1)) G loC [some t0,some (.r h.length),some (.r (h.length+1)),x] (h++[.l ps,.l ((s :: l).reverse.map Sm.enc)])=some (.p (.bl true),h++[.l ps,.l ((s :: l).reverse.map Sm.enc)]):=by
    simp[loC,rd,c1]
   have hb:evS (runN T G (k+1)) G loB [some t0,some (.r h.length),some (.r (h.length+1)),x] (h++[.l ps,.l ((s :: l).reverse.map Sm.enc)]) =
    some (.nx [some t0,some (.r h.length),some (.r (h.length+1)),some (.p s.enc)] (h++[.l (ps++[s.enc]),.l ((s.subs.reverse++l).reverse.map Sm.enc)])):=by
    simp[loB,r,l1,l2]
   rw[aP,hc,cg,gq,hb,bM,q,zo,O0,PF,Qp]
theorem lE:dM=⟨["term"],["term","parts","waiting","part"],.seq (.set 1 "parts" (.lst true .nil))
 (.seq (.set 2 "waiting" (.lst true (.cons (.var 0 "term") .nil))) (.seq (.whl loC loB) (.ret (.var 1 "parts"))))⟩:=rfl
theorem oA (P:Prg T G) (k:Nat) (s:Sm) (hs:s.size<=40000) (h:HH):runN T G (k+2) "laid_out" [.p s.enc] h=some (.p (.lst (s.lay.map Sm.enc)),h):=by
 rw[run_eq P.laid_out rfl]
 obtain ⟨x',q⟩:=Cw P k h (.p s.enc) 99999 [s] [] none (by simp only[sizes,O0,QK,Ut,List.sum_nil];omega) (by simp only[sizes,O0,QK,Ut,List.sum_nil,PN];omega)
 simp only[List.flatMap_cons,List.flatMap_nil,Pk,Q8,Sj,O0,QK] at q
 rw[lE]
 simp[turns,q,D4]
noncomputable def rkB:S:=.ex (.me .append (.var 2 "worths") (.cons (.call "worth_of" (.cons (.var 3 "part") (.cons (.var 2 "worths") (.cons (.var 1 "state") .nil)))) .nil))
theorem Cy (P:Prg T G) (k:Nat) (h:HH) (t0:W) (st:St) (ho:st.ok):∀ (s:Sm),s.ok->∀ (ws:List D) (rest:List D) (x:Option W),ws.length+s.size<=50000 →
 ∃ x',aQ (evS (runN T G (k+3)) G rkB) [(3,"part")] ((s.lay.map Sm.enc).reverse++rest) [some t0,some (.p st.enc),some (.r h.length),x] (h++[.l ws]) =
  aQ (evS (runN T G (k+3)) G rkB) [(3,"part")] rest [some t0,some (.p st.enc),some (.r h.length),x'] (h++[.l (ws++[.int (s.val st)])]):=by
 intro s
 induction s with
 | num n =>
  intro _ ws rest x hl
  refine ⟨some (.p (Sm.num n).enc),?_⟩
  have r:=(gG P k st ho h.length (h++[.l ws])).1 n
  have l:ws.length < 100000:=by simp only[Sm.size] at hl;omega
  have hb:evS (runN T G (k+3)) G rkB [some t0,some (.p st.enc),some (.r h.length),some (.p (Sm.num n).enc)] (h++[.l ws]) =
   some (.nx [some t0,some (.p st.enc),some (.r h.length),some (.p (Sm.num n).enc)] (h++[.l (ws++[.int n])])):=by
   simp[rkB,r,l]
  simp only[Sm.lay,O0,QK,Sj,Qp,Sm.val]
  simp[hb]
 | nam i =>
  intro _ ws rest x hl
  refine ⟨some (.p (Sm.nam i).enc),?_⟩
  have r:=(gG P k st ho h.length (h++[.l ws])).2 i
  have l:ws.length < 100000:=by simp only[Sm.size] at hl;omega
  have hb:evS (runN T G (k+3)) G rkB [some t0,some (.p st.enc),some (.r h.length),some (.p (Sm.nam i).enc)] (h++[.l ws]) =
   some (.nx [some t0,some (.p st.enc),some (.r h.length),some (.p (Sm.nam i).enc)] (h++[.l (ws++[.int (st.names.getD i.ix 0)])])):=by
   simp[rkB,r,l]
  simp only[Sm.lay,O0,QK,Sj,Qp,Sm.val]
  simp[hb]
 | cell s ih =>
  intro hok ws rest x hl
  obtain ⟨x1,e1⟩:=ih hok ws ((Sm.cell s).enc :: rest) x (by simp only[Sm.size] at hl;omega)
  refine ⟨some (.p (Sm.cell s).enc),?_⟩
  have r:=lD P (k+2) st ho h.length (h++[.l (ws++[.int (s.val st)])]) s ws (s.val st) (by simp) (Sm.qd (s:=s) ho hok).1
  have l:ws.length < 100000:=by simp only[Sm.size] at hl;omega
  have hb:evS (runN T G (k+3)) G rkB [some t0,some (.p st.enc),some (.r h.length),some (.p (Sm.cell s).enc)] (h++[.l (ws++[.int (s.val st)])]) =
   some (.nx [some t0,some (.p st.enc),some (.r h.length),some (.p (Sm.cell s).enc)] (h++[.l (ws++[.int ((Sm.cell s).val st)])])):=by
   simp[rkB,r,l,Sm.val]
  simp only[Sm.lay,O0,R0,PF,Qp]
  rw[e1]
  simp[hb]
 | two o s t ihs iht =>
  intro hok ws rest x hl
  have hl':=hl
  simp only[Sm.size] at hl'
  obtain ⟨x1,e1⟩:=ihs hok.1 ws ((t.lay.map Sm.enc).reverse++((Sm.two o s t).enc :: rest)) x (by omega)
  obtain ⟨x2,e2⟩:=iht hok.2 (ws++[.int (s.val st)]) ((Sm.two o s t).enc :: rest) x1 (by simp only[OS,Pv];have:=s.size_pos;omega)
  refine ⟨some (.p (Sm.two o s t).enc),?_⟩
  have r:=mC P (k+1) st h.length (h++[.l (ws++[.int (s.val st),.int (t.val st)])]) o s t ws (s.val st) (t.val st) (Sm.qd ho hok.1) (by simp)
  have l:ws.length < 100000:=by omega
  have hb:evS (runN T G (k+3)) G rkB [some t0,some (.p st.enc),some (.r h.length),some (.p (Sm.two o s t).enc)] (h++[.l (ws++[.int (s.val st),.int (t.val st)])]) =
   some (.nx [some t0,some (.p st.enc),some (.r h.length),some (.p (Sm.two o s t).enc)] (h++[.l (ws++[.int ((Sm.two o s t).val st)])])):=by
   simp[rkB,r,l,Sm.val]
  simp only[Sm.lay,O0,QL,R0,U3,PF,Qp]
  rw[e1,e2]
  simp only[PF,Qp]
  simp[hb]
theorem lF:dO=⟨["term","state"],["term","state","worths","part"],.seq (.set 2 "worths" (.lst true .nil))
 (.seq (.for [(3,"part")] .rev (.cons (.call "laid_out" (.cons (.var 0 "term") .nil)) .nil) rkB) (.ret (.idx (.var 2 "worths") (.cst (.int 0)))))⟩:=rfl
theorem cL (P:Prg T G) (k:Nat) (s:Sm) (hs:s.size<=40000) (hok:s.ok) (st:St) (ho:st.ok) (h:HH) :
 runN T G (k+4) "reckoned" [.p s.enc,.p st.enc] h=some (.p (.int (s.val st)),h):=by
 rw[run_eq P.reckoned rfl]
 obtain ⟨x',q⟩:=Cy P k h (.p s.enc) st ho s hok [] [] none (by simp only[PN];omega)
 rw[lF]
 simp only[Pk,Q8] at q
 have r:=oA P (k+1) s hs
 simp[r,f6,q,gF,rd]
end
end BT
end
section
namespace BT
open PySem
section
variable {T:FK->Option Fn}{G:Str->Option W}
theorem ig {α:Type} (xs:List α) (i:Nat):atP xs (i:Int)=xs[i]?:=by
 unfold atP place
 by_cases h:i < xs.length
 ·have h1:((i:Int) < (xs.length:Int)):=by omega
  simp[h1,h]
 ·have h1:¬ ((i:Int) < (xs.length:Int)):=by omega
  simp[h1];omega
theorem gH (P:Prg T G) (k:Nat) (xs:List D) (i:Nat) (hi:i < xs.length) (hl:xs.length<=1000) (d:D) (h:HH) :
 runN T G (k+1) "with_worth" [.p (.tup xs),.p (.int i),.p d] h=some (.p (.tup (xs.set i d)),h):=by
 rw[run_eq P.with_worth rfl]
 have a1:¬ ((i:Int) < 0):=by omega
 have a2:(i:Int)<=(xs.length:Int):=by omega
 have a3:¬ ((i:Int)+1 < 0):=by omega
 have a4:(i:Int)+1<=(xs.length:Int):=by omega
 have a5:((i:Int)+1).toNat=i+1:=by omega
 have a6:xs.length - (i+1)+(i+1)<=100000:=by omega
 have a7:i+1+(xs.length - (i+1))<=100000:=by omega
 have a8:min i xs.length=i:=by omega
 have a9:i+1<=100000:=by omega
 have e:xs.take i++d :: xs.drop (i+1)=xs.set i d:=by
  rw[List.set_eq_take_append_cons_drop,if_pos hi]
 have b1:(xs.take i).length=i:=by simp;omega
 have b2:(xs.drop (i+1)).length=xs.length - (i+1):=by simp
 have b3:((xs.drop (i+1)).take (xs.length - (i+1)))=xs.drop (i+1):=by
  apply List.take_of_length_le;simp
 simp[bV,a1,a2,a3,a4,a5,a7,a8,a9,b3,e,ai]
@[simp] theorem Ob (st:St):aD st.enc (.int 0)=some (.int st.row):=rfl
@[simp] theorem Od (st:St):aD st.enc (.int 1)=some (.tup (aa st.names)):=rfl
@[simp] theorem Oe (st:St):aD st.enc (.int 2)=some (.tup (aa st.cells)):=rfl
@[simp] theorem Of (st:St):aD st.enc (.int 3)=some (.tup (af st.calls)):=rfl
@[simp] theorem Og (st:St):aD st.enc (.int 4)=some (.int st.asked):=rfl
@[simp] theorem Oh (st:St):aD st.enc (.int 5)=some (.tup (aa st.said)):=rfl
inductive Rw where
 | set (x:Nm) (s:Sm) | put (s t:Sm) | ask (x:Nm) | say (s:Sm) | jump (p:Nat) | unless (s:Sm) (p:Nat) | call (p:Nat) | back | stop
noncomputable def Rw.enc:Rw->D
 | .set x s=>.tup [.str "set",.str x.w,s.enc]
 | .put s t=>.tup [.str "put",s.enc,t.enc]
 | .ask x=>.tup [.str "ask",.str x.w]
 | .say s=>.tup [.str "say",s.enc]
 | .jump p=>.tup [.str "jump",.int p]
 | .unless s p=>.tup [.str "unless",s.enc,.int p]
 | .call p=>.tup [.str "call",.int p]
 | .back=>.tup [.str "back"]
 | .stop=>.tup [.str "stop"]
noncomputable def oB (s:Sm):Prop:=s.ok/\s.size<=15
noncomputable def Rw.ok (n:Nat):Rw->Prop
 | .set _ s=>oB s
 | .put s t=>oB s/\oB t
 | .ask _=>True
 | .say s=>oB s
 | .jump p=>p<=n
 | .unless s p=>oB s/\p<=n
 | .call p=>p<=n
 | .back=>True
 | .stop=>True
noncomputable abbrev Pg:=List Rw
noncomputable def bq (p:Pg):D:=.tup (p.map Rw.enc)
noncomputable def Pg.ok (p:Pg):Prop:=∀ r∈p,r.ok p.length
noncomputable def Rw.next (asked:List Int) (st:St):Rw->St
 | .set x s=>{ st with row:=st.row+1,names:=st.names.set x.ix (s.val st) }
 | .put s t=>{ st with row:=st.row+1,cells:=st.cells.set (s.val st % 4).toNat (t.val st) }
 | .ask x=>{ st with row:=st.row+1,names:=st.names.set x.ix (asked.getD st.asked 0),asked:=st.asked+1 }
 | .say s=>{ st with row:=st.row+1,said:=st.said++[s.val st] }
 | .jump p=>{ st with row:=p }
 | .unless s p=>{ st with row:=if s.val st=0 then p else st.row+1 }
 | .call p=>{ st with row:=p,calls:=st.calls++[st.row+1] }
 | .back=>{ st with row:=st.calls.getLast?.getD 0,calls:=st.calls.dropLast }
 | .stop=>st
noncomputable def Rw.over (st:St):Rw->Bool
 | .back=>st.calls.length==0
 | .call _=>decide (6<=st.calls.length)
 | .stop=>true
 | _=>false
noncomputable def over (p:Pg) (st:St):Bool:=match p[st.row]? with
 | some r=>r.over st
 | none=>true
noncomputable def step (p:Pg) (asked:List Int) (st:St):St:=match p[st.row]? with
 | some r=>r.next asked st
 | none=>st
noncomputable def St.zero:St:=⟨0,[0,0,0,0,0,0],[0,0,0,0],[],0,[]⟩
theorem Cz:St.zero.ok:=⟨rfl,rfl,by simp[St.zero,Wth],by simp[St.zero,Wth]⟩
noncomputable def sts (p:Pg) (asked:List Int):Nat->St->List St
 | 0,st=>[st]
 | n+1,st=>if over p st then [st] else st :: sts p asked n (step p asked st)
theorem vW (P:Prg T G) (k:Nat) (h:HH):runN T G (k+1) "begun" [] h=some (.p St.zero.enc,h):=by
 rw[run_eq P.begun rfl]
 simp[gE,P.LETTERS,P.CELL_COUNT,ai,St.zero,St.enc,aa,af,rep,OX,List.flatten]
theorem qh (P:Prg T G) (k:Nat) (asked:List Int) (n:Nat) (h:HH):runN T G (k+1) "brought" [.p (.lst (aa asked)),.p (.int n)] h=some (.p (.int (asked.getD n 0)),h):=by
 rw[run_eq P.brought rfl]
 by_cases c:n < asked.length
 ·have c1:(n:Int) < (asked.length:Int):=by omega
  simp[dh,aa,c,c1,ai]
 ·have c1:¬ (n:Int) < (asked.length:Int):=by omega
  have e:asked[n]?=none:=OJ (by omega)
  simp[dh,aa,c1,ai,e]
theorem iB (P:Prg T G) (k:Nat) (st:St) (ho:st.ok) (x:Nm) (d:Int) (h:HH) :
 runN T G (k+2) "with_name" [.p st.enc,.p (.str x.w),.p (.int d)] h=some (.p (.tup (aa (st.names.set x.ix d))),h):=by
 rw[run_eq P.with_name rfl]
 have r:=fun i=>gH P k (aa st.names) i
 have l:(aa st.names).length=6:=by simp[aa,ho.nlen]
 have e:(aa st.names).set x.ix (.int d)=aa (st.names.set x.ix d):=by simp[aa,List.map_set]
 have q:=r x.ix (by rw[l];exact x.D5) (by omega) (.int d)
 rw[e] at q
 have g:G "LETTERS"=some (.p (.tup mz)):=P.LETTERS
 have i2:=zm x
 have i3:=m8 st
 generalize mz=L at *
 generalize st.enc=se at *
 generalize hz:(x.ix:Int)=z at *
 simp[cK,P.NAMES,g,i2,i3,ai,q]
theorem qi (P:Prg T G) (k:Nat) (s:Sm) (hs:oB s) (st:St) (ho:st.ok) (h:HH):runN T G (k+5) "cell_by" [.p s.enc,.p st.enc] h=some (.p (.int (s.val st % 4)),h):=by
 rw[run_eq P.cell_by rfl]
 have q:=cL P k s (by have:=hs.2;omega) hs.1 st ho
 simp[eU,q,P.CELL_COUNT,ai]
noncomputable def Rw.word:Rw->String
 | .set _ _=>"set" | .put _ _=>"put" | .ask _=>"ask" | .say _=>"say" | .jump _=>"jump" | .unless _ _=>"unless" | .call _=>"call" | .back=>"back" | .stop=>"stop"
theorem Rw.oE (r:Rw):aD r.enc (.int 0)=some (.str r.word):=by cases r<;>rfl
noncomputable def plT:S:=(.seq (.ife (.or (.cmp .eq (.var 2 "word") (.cst (.str "jump"))) (.cmp .eq (.var 2 "word") (.cst (.str "call")))) (.ret (.idx (.var 0 "row") (.cst (.int 1)))) .nil)
 (.seq (.ife (.cmp .eq (.var 2 "word") (.cst (.str "back"))) (.ret (.idx (.idx (.var 1 "state") (.glo "CALLS")) (.neg (.cst (.int 1))))) .nil)
 (.seq (.ife (.and (.cmp .eq (.var 2 "word") (.cst (.str "unless"))) (.cmp .eq (.call "reckoned" (.cons (.idx (.var 0 "row") (.cst (.int 1))) (.cons (.var 1 "state") .nil))) (.cst (.int 0)))) (.ret (.idx (.var 0 "row") (.cst (.int 2)))) .nil)
 (.ret (.bin .add (.idx (.var 1 "state") (.glo "ROW")) (.cst (.int 1)))))))
theorem qj:bG=⟨["row","state"],["row","state","word"],
 (.seq (.set 2 "word" (.idx (.var 0 "row") (.cst (.int 0)))) plT)⟩:=rfl
theorem CA (P:Prg T G) (F:FK->List W->HH->Option (W×HH)) (w0:W) (st:St) (h:HH) (v:String) (n1:¬ v="jump") (n2:¬ v="call") (n3:¬ v="back") (n4:¬ v="unless"):evS F G plT [some w0,some (.p st.enc),some (.p (.str v))] h=some (.rt (.p (.int ((st.row:Int)+1))) h):=by
 have i0:aD st.enc (.int 0)=some (.int (st.row:Int)):=rfl
 generalize st.enc=se at *
 simp[plT,n1,n2,n3,n4,P.ROW,i0]
theorem D6 (F:FK->List W->HH->Option (W×HH)) (d:D) (w1:W) (h:HH) (v:String) (q:Int) (hv:v="jump"\/v="call") (i1:aD d (.int 1)=some (.int q)):evS F G plT [some (.p d),some w1,some (.p (.str v))] h=some (.rt (.p (.int q)) h):=by
 rcases hv with rfl | rfl<;>simp[plT,i1]
theorem vX (P:Prg T G) (k:Nat) (n:Nat) (r:Rw) (hr:r.ok n) (st:St) (ho:st.ok) (asked:List Int) (hb:r.over st=false) (h:HH) :
 runN T G (k+5) "place_behind" [.p r.enc,.p st.enc] h=some (.p (.int (r.next asked st).row),h):=by
 have wa:=r.oE
 have pre:runN T G (k+5) "place_behind" [.p r.enc,.p st.enc] h=j6 (evS (runN T G (k+4)) G plT [some (.p r.enc),some (.p st.enc),some (.p (.str r.word))] h) (fin h):=by
  rw[run_eq P.place_behind rfl,qj]
  generalize r.enc=re at *
  simp[wa]
 have ot:∀ q:Int,j6 (some (.rt (.p (.int q)) h)) (fin h)=some (.p (.int q),h):=fun q=>by simp[ai]
 rw[pre]
 cases r with
 | «unless» s p =>
  have q:=cL P k s (by have:=hr.1.2;omega) hr.1.1 st ho
  have i1:aD (Rw.unless s p).enc (.int 1)=some s.enc:=rfl
  have i2:aD (Rw.unless s p).enc (.int 2)=some (.int (p:Int)):=rfl
  have i0:aD st.enc (.int 0)=some (.int (st.row:Int)):=rfl
  generalize (Rw.unless s p).enc=re at *
  generalize st.enc=se at *
  generalize s.enc=sn at *
  by_cases c:s.val st=0<;>simp[plT,Rw.word,Rw.next,q,c,i0,i1,i2,ai,P.ROW]
 | back =>
  have c:st.calls≠[]:=by
   intro e;simp[Rw.over,e] at hb
  have:∃ l x,st.calls=l++[x]:=⟨st.calls.dropLast,st.calls.getLast c,(TQ c).symm⟩
  obtain ⟨l,x,e⟩:=this
  have i3:aD st.enc (.int 3)=some (.tup (af st.calls)):=rfl
  have ix:aD (.tup (af st.calls)) (.int (-1))=some (.int (x:Int)):=by
   have e2:-((l.length:Int)+1)<=-1:=by omega
   have e3:(-1+((l.length:Int)+1)).toNat=l.length:=by omega
   simp[af,e,e2,e3]
  have nx:((Rw.back).next asked st).row=x:=by simp[Rw.next,e]
  rw[nx]
  generalize st.enc=se at *
  generalize af st.calls=nl at *
  simp[-nI,plT,Rw.word,P.CALLS,i3,ix,ai]
 | stop=>simp[Rw.over] at hb
 | jump p=>rw[Rw.word,D6 _ _ _ _ _ (p:Int) (.inl rfl) rfl,ot];rfl
 | call p=>rw[Rw.word,D6 _ _ _ _ _ (p:Int) (.inr rfl) rfl,ot];rfl
 | _=>rw[Rw.word,CA P _ _ _ _ _ (by decide) (by decide) (by decide) (by decide),ot];rfl
noncomputable def ovT:S:=(.seq (.ife (.cmp .eq (.var 2 "word") (.cst (.str "back"))) (.ret (.cmp .eq (.bi .len false (.cons (.idx (.var 1 "state") (.glo "CALLS")) .nil)) (.cst (.int 0)))) .nil)
 (.seq (.ife (.cmp .eq (.var 2 "word") (.cst (.str "call"))) (.ret (.cmp .ge (.bi .len false (.cons (.idx (.var 1 "state") (.glo "CALLS")) .nil)) (.glo "MOST_CALLS"))) .nil)
 (.ret (.cmp .eq (.var 2 "word") (.cst (.str "stop"))))))
theorem mD:dg=⟨["program","state"],["program","state","word"],
 (.seq (.ife (.cmp .ge (.idx (.var 1 "state") (.glo "ROW")) (.bi .len false (.cons (.var 0 "program") .nil))) (.ret (.cst (.bl true))) .nil)
 (.seq (.set 2 "word" (.idx (.idx (.var 0 "program") (.idx (.var 1 "state") (.glo "ROW"))) (.cst (.int 0))))
 ovT))⟩:=rfl
theorem CB (F:FK->List W->HH->Option (W×HH)) (w0 w1:W) (h:HH) (v:String) (n1:¬ v="back") (n2:¬ v="call"):evS F G ovT [some w0,some w1,some (.p (.str v))] h=some (.rt (.p (.bl (decide (v="stop")))) h):=by
 by_cases c:v="stop"
 ·subst c
  simp[ovT]
 ·skip
  simp[ovT,n1,n2,c]
theorem qk (P:Prg T G) (k:Nat) (p:Pg) (st:St) (h:HH):runN T G (k+1) "is_over" [.p (bq p),.p st.enc] h=some (.p (.bl (over p st)),h):=by
 have lp:biD .len [bq p]=some (.int p.length):=by simp[bq]
 by_cases c:st.row < p.length
 ·have c1:¬ (p.length:Int)<=(st.row:Int):=by omega
  have c2:(st.row:Int) < (p.length:Int):=by omega
  have e:p[st.row]?=some p[st.row]:=OF c
  have row:aD (bq p) (.int st.row)=some (p[st.row]).enc:=by simp[bq,c2,e]
  have ov:over p st=(p[st.row]).over st:=by rw[over,e]
  rw[ov]
  generalize p[st.row]=r at row ⊢
  have wa:=r.oE
  have pre:runN T G (k+1) "is_over" [.p (bq p),.p st.enc] h=j6 (evS (runN T G k) G ovT [some (.p (bq p)),some (.p st.enc),some (.p (.str r.word))] h) (fin h):=by
   rw[run_eq P.is_over rfl,mD]
   generalize r.enc=re at row wa
   simp[lp,row,wa,P.ROW,c1]
  rw[pre]
  have ln:biD .len [.tup (af st.calls)]=some (.int (st.calls.length:Int)):=by simp[af]
  have i3:aD st.enc (.int 3)=some (.tup (af st.calls)):=rfl
  cases r with
  | back =>
   have ee:(((st.calls.length:Nat):Int)==0)=(st.calls.length==0):=by
    cases st.calls with
    | nil=>rfl
    | cons a l=>rw[beq_eq_false_iff_ne.mpr (by simp only[OZ];omega)];rfl
   simp[-jJ,ovT,Rw.word,P.CALLS,i3,ln,ee,ai,Rw.over]
  | call q =>
   have ee:decide ((6:Int)<=(st.calls.length:Int))=decide (6<=st.calls.length):=decide_eq_decide.mpr (by omega)
   simp[-jJ,ovT,Rw.word,P.CALLS,P.MOST_CALLS,i3,ln,ee,ai,Rw.over]
  | _ =>
   rw[Rw.word,CB _ _ _ _ _ (by decide) (by decide)]
   simp[ai,Rw.over]
 ·have c1:(p.length:Int)<=(st.row:Int):=by omega
  have e:p[st.row]?=none:=OJ (by omega)
  rw[run_eq P.is_over rfl]
  simp[dg,lp,P.ROW,c1,ai,over,e]
theorem ints_set (xs:List Int) (i:Nat) (v:Int):(aa xs).set i (.int v)=aa (xs.set i v):=by simp[aa,List.map_set]
theorem gI (xs:List Int):(aa xs).length=xs.length:=by simp[aa]
theorem ints_snoc (xs:List Int) (v:Int):aa xs++[.int v]=aa (xs++[v]):=by simp[aa]
theorem vY (xs:List Nat) (v:Nat):af xs++[.int (v:Int)]=af (xs++[v]):=by simp[af]
theorem zu (xs:List Nat):cut (af xs) none (some (-1))=af xs.dropLast:=by
 have e:(-1+(xs.length:Int)).toNat=xs.length - 1:=by omega
 simp[cut,clip,af,e,List.dropLast_eq_take]
structure St.small (st:St):Prop where
 sl:st.said.length<=5000
 cl:st.calls.length<=5000
noncomputable def encL (st:St):List D:=[.int st.row,.tup (aa st.names),.tup (aa st.cells),.tup (af st.calls),.int st.asked,.tup (aa st.said)]
theorem zw (st:St):biD .list [st.enc]=some (.lst (encL st)):=rfl
noncomputable def GB:S:=(.put 5 "behind" (.glo "CALLS") (.slc (.idx (.var 2 "state") (.glo "CALLS")) .nil (.cons (.neg (.cst (.int 1))) .nil)))
noncomputable def GC:S:=(.ife (.cmp .eq (.var 4 "word") (.cst (.str "back"))) GB .nil)
noncomputable def GD:S:=(.put 5 "behind" (.glo "CALLS") (.bin .add (.idx (.var 2 "state") (.glo "CALLS")) (.tup (.cons (.bin .add (.idx (.var 2 "state") (.glo "ROW")) (.cst (.int 1))) .nil))))
noncomputable def CD:S:=(.ife (.cmp .eq (.var 4 "word") (.cst (.str "call"))) GD GC)
noncomputable def GE:S:=(.put 5 "behind" (.glo "SAID") (.bin .add (.idx (.var 2 "state") (.glo "SAID")) (.tup (.cons (.call "reckoned" (.cons (.idx (.var 3 "row") (.cst (.int 1))) (.cons (.var 2 "state") .nil))) .nil))))
noncomputable def zx:S:=(.ife (.cmp .eq (.var 4 "word") (.cst (.str "say"))) GE CD)
noncomputable def GF:S:=(.seq (.put 5 "behind" (.glo "NAMES") (.call "with_name" (.cons (.var 2 "state") (.cons (.idx (.var 3 "row") (.cst (.int 1))) (.cons (.call "brought" (.cons (.var 1 "asked") (.cons (.idx (.var 2 "state") (.glo "ASKED")) .nil))) .nil)))))
 (.put 5 "behind" (.glo "ASKED") (.bin .add (.idx (.var 2 "state") (.glo "ASKED")) (.cst (.int 1)))))
noncomputable def vZ:S:=(.ife (.cmp .eq (.var 4 "word") (.cst (.str "ask"))) GF zx)
noncomputable def GG:S:=(.put 5 "behind" (.glo "CELLS") (.call "with_worth" (.cons (.idx (.var 2 "state") (.glo "CELLS")) (.cons (.call "cell_by" (.cons (.idx (.var 3 "row") (.cst (.int 1))) (.cons (.var 2 "state") .nil))) (.cons (.call "reckoned" (.cons (.idx (.var 3 "row") (.cst (.int 2))) (.cons (.var 2 "state") .nil))) .nil)))))
noncomputable def rR:S:=(.ife (.cmp .eq (.var 4 "word") (.cst (.str "put"))) GG vZ)
noncomputable def GH:S:=(.put 5 "behind" (.glo "NAMES") (.call "with_name" (.cons (.var 2 "state") (.cons (.idx (.var 3 "row") (.cst (.int 1))) (.cons (.call "reckoned" (.cons (.idx (.var 3 "row") (.cst (.int 2))) (.cons (.var 2 "state") .nil))) .nil)))))
noncomputable def iP:S:=(.ife (.cmp .eq (.var 4 "word") (.cst (.str "set"))) GH rR)
noncomputable def GI:S:=(.seq iP
 (.ret (.bi .tuple false (.cons (.var 5 "behind") .nil))))
theorem mE:eV=⟨["program","asked","state"],["program","asked","state","row","word","behind"],
 (.seq (.set 3 "row" (.idx (.var 0 "program") (.idx (.var 2 "state") (.glo "ROW"))))
 (.seq (.set 4 "word" (.idx (.var 3 "row") (.cst (.int 0))))
 (.seq (.set 5 "behind" (.bi .list true (.cons (.var 2 "state") .nil)))
 (.seq (.put 5 "behind" (.glo "ROW") (.call "place_behind" (.cons (.var 3 "row") (.cons (.var 2 "state") .nil))))
 GI))))⟩:=rfl
theorem GJ (F:FK->List W->HH->Option (W×HH)) (A B:S) (s:Sl) (h:HH):evS F G (.seq A B) s h=jY (evS F G A s h) (evS F G B):=by rw[evS]
theorem pick (F:FK->List W->HH->Option (W×HH)) (w0 w1 w2 w3:W) (v w:String) (rest:Sl) (h:HH) (A B:S):evS F G (.ife (.cmp .eq (.var 4 "word") (.cst (.str w))) A B) (some w0 :: some w1 :: some w2 :: some w3 :: some (.p (.str v)) :: rest) h=if v=w then evS F G A (some w0 :: some w1 :: some w2 :: some w3 :: some (.p (.str v)) :: rest) h else evS F G B (some w0 :: some w1 :: some w2 :: some w3 :: some (.p (.str v)) :: rest) h:=by
 have e:eqv (.str v) (.str w)=decide (v=w):=by
  by_cases c:v=w
  ·rw[decide_eq_true c,c];simp
  ·rw[decide_eq_false c]
   have:¬ OT v=OT w:=fun z=>c (by simpa using z)
   simp[this,c]
 by_cases c:v=w
 ·rw[decide_eq_true c] at e
  rw[if_pos c]
  simp[-eqv,e]
 ·rw[decide_eq_false c] at e
  rw[if_neg c]
  simp[-eqv,e]
theorem to0 (F:FK->List W->HH->Option (W×HH)) (w0 w1 w2 w3:W) (rest:Sl) (h:HH):evS F G iP (some w0 :: some w1 :: some w2 :: some w3 :: some (.p (.str "set")) :: rest) h=evS F G GH (some w0 :: some w1 :: some w2 :: some w3 :: some (.p (.str "set")) :: rest) h:=by
 rw[iP,pick,if_pos rfl]
theorem to1 (F:FK->List W->HH->Option (W×HH)) (w0 w1 w2 w3:W) (rest:Sl) (h:HH):evS F G iP (some w0 :: some w1 :: some w2 :: some w3 :: some (.p (.str "put")) :: rest) h=evS F G GG (some w0 :: some w1 :: some w2 :: some w3 :: some (.p (.str "put")) :: rest) h:=by
 rw[iP,pick,if_neg (by decide),rR,pick,if_pos rfl]
theorem to2 (F:FK->List W->HH->Option (W×HH)) (w0 w1 w2 w3:W) (rest:Sl) (h:HH):evS F G iP (some w0 :: some w1 :: some w2 :: some w3 :: some (.p (.str "ask")) :: rest) h=evS F G GF (some w0 :: some w1 :: some w2 :: some w3 :: some (.p (.str "ask")) :: rest) h:=by
 rw[iP,pick,if_neg (by decide),rR,pick,if_neg (by decide),vZ,pick,if_pos rfl]
theorem to3 (F:FK->List W->HH->Option (W×HH)) (w0 w1 w2 w3:W) (rest:Sl) (h:HH):evS F G iP (some w0 :: some w1 :: some w2 :: some w3 :: some (.p (.str "say")) :: rest) h=evS F G GE (some w0 :: some w1 :: some w2 :: some w3 :: some (.p (.str "say")) :: rest) h:=by
 rw[iP,pick,if_neg (by decide),rR,pick,if_neg (by decide),vZ,pick,if_neg (by decide),zx,pick,if_pos rfl]
theorem to4 (F:FK->List W->HH->Option (W×HH)) (w0 w1 w2 w3:W) (rest:Sl) (h:HH):evS F G iP (some w0 :: some w1 :: some w2 :: some w3 :: some (.p (.str "call")) :: rest) h=evS F G GD (some w0 :: some w1 :: some w2 :: some w3 :: some (.p (.str "call")) :: rest) h:=by
 rw[iP,pick,if_neg (by decide),rR,pick,if_neg (by decide),vZ,pick,if_neg (by decide),zx,pick,if_neg (by decide),CD,pick,if_pos rfl]
theorem to5 (F:FK->List W->HH->Option (W×HH)) (w0 w1 w2 w3:W) (rest:Sl) (h:HH):evS F G iP (some w0 :: some w1 :: some w2 :: some w3 :: some (.p (.str "back")) :: rest) h=evS F G GB (some w0 :: some w1 :: some w2 :: some w3 :: some (.p (.str "back")) :: rest) h:=by
 rw[iP,pick,if_neg (by decide),rR,pick,if_neg (by decide),vZ,pick,if_neg (by decide),zx,pick,if_neg (by decide),CD,pick,if_neg (by decide),GC,pick,if_pos rfl]
theorem toN (F:FK->List W->HH->Option (W×HH)) (w0 w1 w2 w3:W) (rest:Sl) (h:HH) (v:String) (hv:v∉["set","put","ask","say","call","back"]):evS F G iP (some w0 :: some w1 :: some w2 :: some w3 :: some (.p (.str v)) :: rest) h=some (.nx (some w0 :: some w1 :: some w2 :: some w3 :: some (.p (.str v)) :: rest) h):=by
 simp only[QS,Qo,or_false,not_or] at hv
 obtain ⟨n1,n2,n3,n4,n5,n6⟩:=hv
 rw[iP,pick,if_neg n1,rR,pick,if_neg n2,vZ,pick,if_neg n3,zx,pick,if_neg n4,CD,pick,if_neg n5,GC,pick,if_neg n6];rfl
theorem qm (P:Prg T G) (k:Nat) (p:Pg) (hp:Pg.ok p) (asked:List Int) (st:St) (ho:st.ok) (hs:st.small) (hb:over p st=false) (h:HH) :
 runN T G (k+6) "stepped" [.p (bq p),.p (.lst (aa asked)),.p st.enc] h=some (.p (step p asked st).enc,h):=by
 have c:st.row < p.length:=by
  rcases OR st.row p.length with q | q
  ·exact q
  ·rw[over,OJ q] at hb;cases hb
 have e:p[st.row]?=some p[st.row]:=OF c
 have c2:(st.row:Int) < (p.length:Int):=by omega
 have hr:=hp _ (Sh c)
 have hb':(p[st.row]).over st=false:=by rw[over,e] at hb;exact hb
 have pl:=vX P k p.length p[st.row] hr st ho asked hb'
 rw[step,e]
 have l1:=hs.sl
 have l2:=hs.cl
 revert pl hr hb'
 generalize p[st.row]=r at *
 intro hr hb' pl
 have row:aD (bq p) (.int st.row)=some r.enc:=by simp[bq,c2,e]
 have pre:runN T G (k+6) "stepped" [.p (bq p),.p (.lst (aa asked)),.p st.enc] h =
  j6 (evS (runN T G (k+5)) G GI [some (.p (bq p)),some (.p (.lst (aa asked))),some (.p st.enc),some (.p r.enc),some (.p (.str r.word)),some (.r h.length)] (h++[.l [.int (r.next asked st).row,.tup (aa st.names),.tup (aa st.cells),.tup (af st.calls),.int st.asked,.tup (aa st.said)]])) (fin h):=by
  rw[run_eq P.stepped rfl,mE]
  simp[row,r.oE,P.ROW,zw,encL,pl]
 rw[pre,GI,GJ]
 cases r with
 | set x s =>
  have q:=cL P (k+1) s (by have:=hr.2;omega) hr.1 st ho
  have w:=iB P (k+3) st ho x (s.val st)
  simp only[Rw.enc,Rw.next,Rw.word,to0]
  simp[GH,P.ROW,P.NAMES,q,w,rd,gF,Rw.next]
  simp[St.enc]
 | put s t =>
  have q:=qi P k s hr.1 st ho
  have q2:=cL P (k+1) t (by have:=hr.2.2;omega) hr.2.1 st ho
  have v:=Sm.qd (s:=s) ho hr.1.1
  have hi:(s.val st % 4).toNat < (aa st.cells).length:=by rw[gI,ho.clen];omega
  have w:=gH P (k+4) (aa st.cells) (s.val st % 4).toNat hi (by rw[gI,ho.clen];omega) (.int (t.val st))
  have e3:(((s.val st % 4).toNat:Nat):Int)=s.val st % 4:=by omega
  rw[e3,ints_set] at w
  simp only[Rw.enc,Rw.next,Rw.word,to1]
  simp[GG,P.ROW,P.CELLS,q,q2,w,rd,gF,Rw.next]
  simp[St.enc]
 | ask x =>
  have b:=qh P (k+4) asked st.asked
  have w:=iB P (k+3) st ho x (asked.getD st.asked 0)
  simp only[Rw.enc,Rw.next,Rw.word,to2]
  simp only[QV] at b w ⊢
  simp[GF,P.ROW,P.NAMES,P.ASKED,b,w,rd,gF,Rw.next]
  simp[St.enc]
 | say s =>
  have q:=cL P (k+1) s (by have:=hr.2;omega) hr.1 st ho
  simp only[Rw.enc,Rw.next,Rw.word,to3]
  have l3:(aa st.said).length+1<=100000:=by rw[gI];omega
  simp[GE,P.ROW,P.SAID,q,rd,gF,Rw.next,l3,ints_snoc]
  simp[St.enc]
 | call q =>
  simp only[Rw.enc,Rw.next,Rw.word,to4]
  have l3:(af st.calls).length+1<=100000:=by simp[af];omega
  have e4:af st.calls++[.int ((st.row:Int)+1)]=af (st.calls++[st.row+1]):=by rw[← vY];simp
  simp[GD,P.ROW,P.CALLS,rd,gF,Rw.next,l3,e4]
  simp[St.enc]
 | back =>
  simp only[Rw.enc,Rw.next,Rw.word,to5]
  have e4:=zu st.calls
  have e5:qZ (.tup (af st.calls)) none (some (-1))=some (.tup (af st.calls.dropLast)):=by rw[xO,e4]
  simp[-xO,GB,P.ROW,P.CALLS,rd,gF,Rw.next,e5]
  simp[St.enc]
 | stop=>simp[Rw.over] at hb'
 | _ =>
  simp only[Rw.enc,Rw.next,Rw.word]
  rw[toN _ _ _ _ _ _ _ _ (by decide)]
  simp[P.ROW,rd,gF,Rw.next]
  simp[St.enc]
end
end BT
end
section
namespace BT
open PySem
noncomputable def Ask (asked:List Int):Prop:=∀ x∈asked,Wth x
theorem zy {xs:List Int}{i:Nat}{v:Int} (h:∀ x∈xs,Wth x) (hv:Wth v):∀ x∈xs.set i v,Wth x:=fun x hx=>by
 rcases List.mem_or_eq_of_mem_set hx with q | q
 ·exact h x q
 ·rw[q];exact hv
structure At (n:Nat) (st:St):Prop where
 ok:st.ok
 said:st.said.length<=n
 calls:st.calls.length<=6
theorem At.small {n:Nat}{st:St} (a:At n st) (h:n<=5000):st.small:=⟨by have:=a.said;omega,by have:=a.calls;omega⟩
theorem CF:At 0 St.zero:=⟨Cz,OE _,by decide⟩
theorem CG {n:Nat}{p:Pg}{asked:List Int}{st:St} (hp:Pg.ok p) (ha:Ask asked) (a:At n st) (hb:over p st=false):At (n+1) (step p asked st):=by
 have c:st.row < p.length:=by
  rcases OR st.row p.length with q | q
  ·exact q
  ·rw[over,OJ q] at hb;cases hb
 have e:p[st.row]?=some p[st.row]:=OF c
 have hr:=hp _ (Sh c)
 have hb':(p[st.row]).over st=false:=by rw[over,e] at hb;exact hb
 rw[step,e]
 dsimp only
 revert hr hb'
 generalize p[st.row]=r
 intro hr hb'
 obtain ⟨ok,sd,cl⟩:=a
 cases r with
 | set x s=>exact ⟨⟨by simp[Rw.next,ok.nlen],ok.clen,zy ok.nw (Sm.qd ok hr.1),ok.cw⟩,by simp[Rw.next];omega,cl⟩
 | put s t=>exact ⟨⟨ok.nlen,by simp[Rw.next,ok.clen],ok.nw,zy ok.cw (Sm.qd ok hr.2.1)⟩,by simp[Rw.next];omega,cl⟩
 | ask x=>exact ⟨⟨by simp[Rw.next,ok.nlen],ok.clen,zy ok.nw (rO ha _),ok.cw⟩,by simp[Rw.next];omega,cl⟩
 | say s=>exact ⟨⟨ok.nlen,ok.clen,ok.nw,ok.cw⟩,by simp[Rw.next];omega,cl⟩
 | call q =>
  simp[Rw.over] at hb'
  exact ⟨⟨ok.nlen,ok.clen,ok.nw,ok.cw⟩,by simp[Rw.next];omega,by simp[Rw.next];omega⟩
 | back=>exact ⟨⟨ok.nlen,ok.clen,ok.nw,ok.cw⟩,by simp[Rw.next];omega,by simp[Rw.next];omega⟩
 | stop=>simp[Rw.over] at hb'
 | _=>exact ⟨⟨ok.nlen,ok.clen,ok.nw,ok.cw⟩,by simp[Rw.next];omega,cl⟩
section
variable {T:FK->Option Fn}{G:Str->Option W}
end
end BT
end
section
namespace BT
open PySem
noncomputable def cE:Fn:=⟨["_law_script","_law_k"],["_law_script","_law_k"],
 (.seq (.ife (.cmp .eq (.var 0 "_law_script") (.lst false .nil)) (.ret (.bin .mul (.cst (.int 7)) (.var 1 "_law_k"))) .nil)
 (.ret (.bin .add (.idx (.var 0 "_law_script") (.bin .mod (.var 1 "_law_k") (.bi .len false (.cons (.var 0 "_law_script") .nil)))) (.bin .mul (.cst (.int 6553)) (.bin .fdiv (.var 1 "_law_k") (.bi .len false (.cons (.var 0 "_law_script") .nil)))))))⟩
noncomputable def cM:Fn:=⟨["_law_script","_law_k","_law_many"],["_law_script","_law_k","_law_many","_law_cell_here"],
 (.seq (.set 3 "_law_cell_here" (.bin .mod (.bin .add (.bin .mul (.bin .mod (.call "_law_cell" (.cons (.var 0 "_law_script") (.cons (.var 1 "_law_k") .nil))) (.cst (.int 2147483563))) (.cst (.int 69069))) (.bin .mul (.cst (.int 104723)) (.bin .add (.var 1 "_law_k") (.cst (.int 1))))) (.cst (.int 2147483563))))
 (.seq (.set 3 "_law_cell_here" (.bin .mod (.bin .add (.bin .mul (.var 3 "_law_cell_here") (.var 3 "_law_cell_here")) (.bin .fdiv (.var 3 "_law_cell_here") (.cst (.int 3)))) (.cst (.int 2147483399))))
 (.ret (.bin .mod (.bin .fdiv (.bin .mod (.bin .add (.bin .mul (.var 3 "_law_cell_here") (.var 3 "_law_cell_here")) (.bin .fdiv (.var 3 "_law_cell_here") (.cst (.int 7)))) (.cst (.int 2147483647))) (.cst (.int 11))) (.var 2 "_law_many")))))⟩
noncomputable def smL:S:=(.seq (.ife (.cmp .eq (.call "_law_drawn" (.cons (.var 0 "_law_script") (.cons (.bin .add (.var 1 "_law_at") (.cst (.int 1))) (.cons (.cst (.int 2)) .nil)))) (.cst (.int 0))) (.ret (.tup (.cons (.cst (.str "num")) (.cons (.idx (.lst false (.cons (.cst (.int 0)) (.cons (.cst (.int 1)) (.cons (.cst (.int 2)) (.cons (.cst (.int 3)) (.cons (.cst (.int 10)) (.cons (.cst (.int 10006)) .nil))))))) (.call "_law_drawn" (.cons (.var 0 "_law_script") (.cons (.bin .add (.var 1 "_law_at") (.cst (.int 2))) (.cons (.cst (.int 6)) .nil))))) .nil)))) .nil)
 (.ret (.tup (.cons (.cst (.str "name")) (.cons (.idx (.cst (.str "abcf")) (.call "_law_drawn" (.cons (.var 0 "_law_script") (.cons (.bin .add (.var 1 "_law_at") (.cst (.int 2))) (.cons (.cst (.int 4)) .nil))))) .nil)))))
noncomputable def smR:S:=(.seq (.set 4 "_law_one" (.call "_law_sum" (.cons (.var 0 "_law_script") (.cons (.bin .add (.bin .mul (.var 1 "_law_at") (.cst (.int 2))) (.cst (.int 5))) (.cons (.bin .sub (.var 2 "_law_deep") (.cst (.int 1))) .nil)))))
 (.seq (.ife (.cmp .lt (.var 3 "_law_way") (.cst (.int 6))) (.ret (.tup (.cons (.cst (.str "cell")) (.cons (.var 4 "_law_one") .nil)))) .nil)
 (.ret (.tup (.cons (.idx (.lst false (.cons (.cst (.str "add")) (.cons (.cst (.str "sub")) (.cons (.cst (.str "mul")) (.cons (.cst (.str "less")) .nil))))) (.bin .sub (.var 3 "_law_way") (.cst (.int 6)))) (.cons (.var 4 "_law_one") (.cons (.call "_law_sum" (.cons (.var 0 "_law_script") (.cons (.bin .add (.bin .mul (.var 1 "_law_at") (.cst (.int 2))) (.cst (.int 19))) (.cons (.bin .sub (.var 2 "_law_deep") (.cst (.int 1))) .nil)))) .nil)))))))
noncomputable def bN:Fn:=⟨["_law_script","_law_at","_law_deep"],["_law_script","_law_at","_law_deep","_law_way","_law_one"],
 (.seq (.set 3 "_law_way" (.call "_law_drawn" (.cons (.var 0 "_law_script") (.cons (.var 1 "_law_at") (.cons (.cst (.int 10)) .nil)))))
 (.seq (.ife (.or (.cmp .eq (.var 2 "_law_deep") (.cst (.int 0))) (.cmp .lt (.var 3 "_law_way") (.cst (.int 4)))) smL .nil)
 smR))⟩
noncomputable def eW:Fn:=⟨["_law_script","_law_at","_law_size"],["_law_script","_law_at","_law_size","_law_way","_law_place","_law_name","_law_one"],
 (.seq (.set 3 "_law_way" (.call "_law_drawn" (.cons (.var 0 "_law_script") (.cons (.var 1 "_law_at") (.cons (.cst (.int 16)) .nil)))))
 (.seq (.set 4 "_law_place" (.call "_law_drawn" (.cons (.var 0 "_law_script") (.cons (.bin .add (.var 1 "_law_at") (.cst (.int 1))) (.cons (.bin .add (.var 2 "_law_size") (.cst (.int 1))) .nil)))))
 (.seq (.set 5 "_law_name" (.idx (.cst (.str "abc")) (.call "_law_drawn" (.cons (.var 0 "_law_script") (.cons (.bin .add (.var 1 "_law_at") (.cst (.int 2))) (.cons (.cst (.int 3)) .nil))))))
 (.seq (.set 6 "_law_one" (.call "_law_sum" (.cons (.var 0 "_law_script") (.cons (.bin .add (.var 1 "_law_at") (.cst (.int 3))) (.cons (.cst (.int 2)) .nil)))))
 (.seq (.ife (.cmp .lt (.var 3 "_law_way") (.cst (.int 5))) (.ret (.tup (.cons (.cst (.str "set")) (.cons (.var 5 "_law_name") (.cons (.var 6 "_law_one") .nil))))) .nil)
 (.seq (.ife (.cmp .lt (.var 3 "_law_way") (.cst (.int 7))) (.ret (.tup (.cons (.cst (.str "put")) (.cons (.call "_law_sum" (.cons (.var 0 "_law_script") (.cons (.bin .add (.var 1 "_law_at") (.cst (.int 9))) (.cons (.cst (.int 1)) .nil)))) (.cons (.var 6 "_law_one") .nil))))) .nil)
 (.seq (.ife (.cmp .lt (.var 3 "_law_way") (.cst (.int 9))) (.ret (.idx (.lst false (.cons (.tup (.cons (.cst (.str "ask")) (.cons (.var 5 "_law_name") .nil))) (.cons (.tup (.cons (.cst (.str "say")) (.cons (.var 6 "_law_one") .nil))) .nil))) (.bin .sub (.var 3 "_law_way") (.cst (.int 7))))) .nil)
 (.seq (.ife (.cmp .lt (.var 3 "_law_way") (.cst (.int 12))) (.ret (.idx (.lst false (.cons (.tup (.cons (.cst (.str "jump")) (.cons (.var 4 "_law_place") .nil))) (.cons (.tup (.cons (.cst (.str "unless")) (.cons (.var 6 "_law_one") (.cons (.var 4 "_law_place") .nil)))) (.cons (.tup (.cons (.cst (.str "unless")) (.cons (.tup (.cons (.cst (.str "name")) (.cons (.var 5 "_law_name") .nil))) (.cons (.var 4 "_law_place") .nil)))) .nil)))) (.bin .sub (.var 3 "_law_way") (.cst (.int 9))))) .nil)
 (.ret (.idx (.lst false (.cons (.tup (.cons (.cst (.str "call")) (.cons (.var 4 "_law_place") .nil))) (.cons (.tup (.cons (.cst (.str "call")) (.cons (.var 4 "_law_place") .nil))) (.cons (.tup (.cons (.cst (.str "back")) .nil)) (.cons (.idx (.lst false (.cons (.tup (.cons (.cst (.str "stop")) .nil)) (.cons (.tup (.cons (.cst (.str "back")) .nil)) .nil))) (.bin .mod (.var 4 "_law_place") (.cst (.int 2)))) .nil))))) (.bin .sub (.var 3 "_law_way") (.cst (.int 12)))))))))))))⟩
noncomputable def aR:Fn:=⟨["_law_script","_law_at"],["_law_script","_law_at","_law_size","_law_put","_law_sign","_law_rows"],
 (.seq (.set 2 "_law_size" (.bin .add (.cst (.int 1)) (.call "_law_drawn" (.cons (.var 0 "_law_script") (.cons (.var 1 "_law_at") (.cons (.cst (.int 9)) .nil))))))
 (.seq (.ife (.cmp .eq (.call "_law_drawn" (.cons (.var 0 "_law_script") (.cons (.bin .add (.var 1 "_law_at") (.cst (.int 1))) (.cons (.cst (.int 4)) .nil)))) (.cst (.int 0))) (.seq (.set 3 "_law_put" (.tup (.cons (.cst (.str "put")) (.cons (.tup (.cons (.cst (.str "name")) (.cons (.cst (.str "a")) .nil))) (.cons (.tup (.cons (.cst (.str "num")) (.cons (.call "_law_drawn" (.cons (.var 0 "_law_script") (.cons (.bin .add (.var 1 "_law_at") (.cst (.int 2))) (.cons (.cst (.int 9)) .nil)))) .nil))) .nil)))))
 (.seq (.set 4 "_law_sign" (.idx (.lst false (.cons (.cst (.str "add")) (.cons (.cst (.str "sub")) .nil))) (.call "_law_drawn" (.cons (.var 0 "_law_script") (.cons (.bin .add (.var 1 "_law_at") (.cst (.int 3))) (.cons (.cst (.int 2)) .nil))))))
 (.seq (.set 5 "_law_rows" (.tup (.cons (.tup (.cons (.cst (.str "ask")) (.cons (.cst (.str "a")) .nil))) (.cons (.tup (.cons (.cst (.str "call")) (.cons (.cst (.int 4)) .nil))) (.cons (.tup (.cons (.cst (.str "say")) (.cons (.tup (.cons (.cst (.str "name")) (.cons (.cst (.str "a")) .nil))) .nil))) (.cons (.tup (.cons (.cst (.str "jump")) (.cons (.cst (.int 0)) .nil))) (.cons (.var 3 "_law_put") .nil)))))))
 (.ret (.bin .add (.var 5 "_law_rows") (.tup (.cons (.tup (.cons (.cst (.str "call")) (.cons (.cst (.int 7)) .nil))) (.cons (.tup (.cons (.cst (.str "back")) .nil)) (.cons (.tup (.cons (.cst (.str "set")) (.cons (.cst (.str "b")) (.cons (.tup (.cons (.var 4 "_law_sign") (.cons (.tup (.cons (.cst (.str "name")) (.cons (.cst (.str "b")) .nil))) (.cons (.tup (.cons (.cst (.str "name")) (.cons (.cst (.str "a")) .nil))) .nil)))) .nil)))) (.cons (.tup (.cons (.cst (.str "back")) .nil)) .nil)))))))))) .nil)
 (.ret (.bi .tuple false (.cons (.comp false .rng1 (.cons (.var 2 "_law_size") .nil) ["_law_k"] [(0,"_law_script"),(1,"_law_at"),(2,"_law_size")] .nil (.call "_law_row" (.cons (.var 1 "_law_script") (.cons (.bin .add (.bin .add (.var 2 "_law_at") (.cst (.int 10))) (.bin .mul (.cst (.int 40)) (.var 0 "_law_k"))) (.cons (.var 3 "_law_size") .nil))))) .nil)))))⟩
noncomputable def cN:Fn:=⟨["_law_script","_law_at"],["_law_script","_law_at"],
 (.ret (.comp false .rng1 (.cons (.call "_law_drawn" (.cons (.var 0 "_law_script") (.cons (.var 1 "_law_at") (.cons (.cst (.int 4)) .nil)))) .nil) ["_law_k"] [(0,"_law_script"),(1,"_law_at")] .nil (.idx (.lst false (.cons (.cst (.int 0)) (.cons (.cst (.int 1)) (.cons (.cst (.int 5)) (.cons (.cst (.int 10006)) .nil))))) (.call "_law_drawn" (.cons (.var 1 "_law_script") (.cons (.bin .add (.bin .add (.var 2 "_law_at") (.cst (.int 1))) (.var 0 "_law_k")) (.cons (.cst (.int 4)) .nil)))))))⟩
structure Lw (T:FK->Option Fn):Prop where
 cell:T "_law_cell"=some cE
 drawn:T "_law_drawn"=some cM
 sum:T "_law_sum"=some bN
 row:T "_law_row"=some eW
 asked:T "_law_asked"=some cN
noncomputable def tU (ns:List Int) (k:Int):Int:=if ns=[] then 7*k else ns.getD (k % ns.length).toNat 0+6553*(k / ns.length)
noncomputable def drw (ns:List Int) (k many:Int):Int :=
 let a:=(tU ns k % 2147483563*69069+104723*(k+1)) % 2147483563
 let b:=(a*a+a / 3) % 2147483399
 (b*b+b / 7) % 2147483647 / 11 % many
theorem cA (ns:List Int) (k:Int) {many:Int} (h:0 < many):0<=drw ns k many:=Int.emod_nonneg _ (by omega)
theorem cB (ns:List Int) (k:Int) {many:Int} (h:0 < many):drw ns k many < many:=Int.emod_lt_of_pos _ h
theorem nh {i:Int} (h0:0<=i) (h1:i < 18446744073709551616):big i=true:=by
 unfold big;exact decide_eq_true (by omega)
section
variable {T:FK->Option Fn}{G:Str->Option W}
theorem CH (ns:List Int):eqv (.lst (aa ns)) (.lst [])=decide (ns=[]):=by
 cases ns<;>simp[aa]
theorem zA (L:Lw T) (m:Nat) (ns:List Int) (hl:ns.length<=1000) (k:Int) (h:HH):runN T G (m+1) "_law_cell" [.p (.lst (aa ns)),.p (.int k)] h=some (.p (.int (tU ns k)),h):=by
 rw[run_eq L.cell rfl]
 by_cases c:ns=[]
 ·subst c
  simp[cE,aa,tU,big,ai]
 ·have n0:0 < ns.length:=List.length_pos_iff.mpr c
  have q:eqv (.lst (aa ns)) (.lst [])=false:=by rw[CH];exact decide_eq_false c
  have p1:(0:Int) < (ns.length:Int):=by omega
  have p2:(ns.length:Int) < 1073741824:=by omega
  have m1:=Int.emod_nonneg k (b:=(ns.length:Int)) (by omega)
  have m2:=Int.emod_lt_of_pos k p1
  have i1:(k % (ns.length:Int)).toNat < ns.length:=by omega
  have n2:ns.length < 1073741824:=by omega
  simp[cE,-eqv,q,gI,p1,p2,n0,n2,m1,m2,big,ai,tU,c]
  simp[aa,i1,ai,n0,n2,m1,m2,big,p1,p2]
theorem cF (L:Lw T) (m:Nat) (ns:List Int) (hl:ns.length<=1000) (k many:Int) (hm:0 < many) (h:HH) :
 runN T G (m+2) "_law_drawn" [.p (.lst (aa ns)),.p (.int k),.p (.int many)] h=some (.p (.int (drw ns k many)),h):=by
 rw[run_eq L.drawn rfl]
 have r:=zA (G:=G) L m ns hl k
 have b0:big 69069=true:=by decide
 have b1:big 104723=true:=by decide
 have b2:∀ x:Int,big (x % 2147483563)=true:=fun x=>nh (by omega) (by omega)
 have b3:∀ x:Int,big (x % 2147483399)=true:=fun x=>nh (by omega) (by omega)
 simp[cM,r,b0,b1,b2,b3,ai,hm,drw]
theorem oF:OT "abcf"=⟨#[97,98,99,102]⟩:=by decide +kernel
theorem zB:OT "abc"=⟨#[97,98,99]⟩:=by decide +kernel
theorem o_a:OT "a"=⟨#[97]⟩:=by decide +kernel
theorem o_b:OT "b"=⟨#[98]⟩:=by decide +kernel
theorem o_c:OT "c"=⟨#[99]⟩:=by decide +kernel
theorem o_f:OT "f"=⟨#[102]⟩:=by decide +kernel
theorem tV (i:Int) (h0:0<=i) (h1:i < 4):∃ x:Nm,aD (.str "abcf") (.int i)=some (.str x.w):=by
 have:i=0\/i=1\/i=2\/i=3:=by omega
 rcases this with rfl | rfl | rfl | rfl
 ·exact ⟨.a,by rw[Nm.w,oF,o_a];rfl⟩
 ·exact ⟨.b,by rw[Nm.w,oF,o_b];rfl⟩
 ·exact ⟨.c,by rw[Nm.w,oF,o_c];rfl⟩
 ·exact ⟨.f,by rw[Nm.w,oF,o_f];rfl⟩
theorem GK (i:Int) (h0:0<=i) (h1:i < 3):∃ x:Nm,aD (.str "abc") (.int i)=some (.str x.w):=by
 have:i=0\/i=1\/i=2:=by omega
 rcases this with rfl | rfl | rfl
 ·exact ⟨.a,by rw[Nm.w,zB,o_a];rfl⟩
 ·exact ⟨.b,by rw[Nm.w,zB,o_b];rfl⟩
 ·exact ⟨.c,by rw[Nm.w,zB,o_c];rfl⟩
theorem tW (i:Int) (h0:0<=i) (h1:i < 6):∃ n:Int,Wth n/\aD (.lst [.int 0,.int 1,.int 2,.int 3,.int 10,.int 10006]) (.int i)=some (.int n):=by
 have:i=0\/i=1\/i=2\/i=3\/i=4\/i=5:=by omega
 rcases this with rfl | rfl | rfl | rfl | rfl | rfl
 ·exact ⟨0,⟨by decide,by decide⟩,rfl⟩
 ·exact ⟨1,⟨by decide,by decide⟩,rfl⟩
 ·exact ⟨2,⟨by decide,by decide⟩,rfl⟩
 ·exact ⟨3,⟨by decide,by decide⟩,rfl⟩
 ·exact ⟨10,⟨by decide,by decide⟩,rfl⟩
 ·exact ⟨10006,⟨by decide,by decide⟩,rfl⟩
theorem GL (i:Int) (h0:0<=i) (h1:i < 4):∃ o:Op,aD (.lst [.str "add",.str "sub",.str "mul",.str "less"]) (.int i)=some (.str o.w):=by
 have:i=0\/i=1\/i=2\/i=3:=by omega
 rcases this with rfl | rfl | rfl | rfl
 ·exact ⟨.add,rfl⟩
 ·exact ⟨.sub,rfl⟩
 ·exact ⟨.mul,rfl⟩
 ·exact ⟨.less,rfl⟩
theorem zC (L:Lw T) (ns:List Int) (hl:ns.length<=1000) (p n:Int) (k:Nat) (rest:Sl) (h:HH) (c:drw ns (p+1) 2=0) (en:aD (.lst [.int 0,.int 1,.int 2,.int 3,.int 10,.int 10006]) (.int (drw ns (p+2) 6))=some (.int n)) :
 evS (runN T G (k+2)) G smL (some (.p (.lst (aa ns))) :: some (.p (.int p)) :: rest) h=some (.rt (.p (Sm.num n).enc) h):=by
 have dr:=fun q many (hm:0 < many)=>cF (G:=G) L k ns hl q many hm
 simp[-aW,-gk,smL,dr,c,en,Sm.enc]
theorem zD (L:Lw T) (ns:List Int) (hl:ns.length<=1000) (p:Int) (x:Nm) (k:Nat) (rest:Sl) (h:HH) (c:¬ drw ns (p+1) 2=0) (ex:aD (.str "abcf") (.int (drw ns (p+2) 4))=some (.str x.w)) :
 evS (runN T G (k+2)) G smL (some (.p (.lst (aa ns))) :: some (.p (.int p)) :: rest) h=some (.rt (.p (Sm.nam x).enc) h):=by
 have dr:=fun q many (hm:0 < many)=>cF (G:=G) L k ns hl q many hm
 simp[-aW,-gk,smL,dr,c,ex,Sm.enc]
theorem tX (L:Lw T) (ns:List Int) (hl:ns.length<=1000):∀ (deep:Nat) (p:Int),∃ s:Sm,s.ok/\s.size+1<=2 ^ (deep+1)/\∀ (m:Nat) (h:HH),
 runN T G (m+deep+3) "_law_sum" [.p (.lst (aa ns)),.p (.int p),.p (.int deep)] h=some (.p s.enc,h):=by
 intro deep
 induction deep with
 | zero =>
  intro p
  have dr:=fun m q many (hm:0 < many)=>cF (G:=G) L m ns hl q many hm
  obtain ⟨x,ex⟩:=tV (drw ns (p+2) 4) (cA _ _ (by decide)) (cB _ _ (by decide))
  obtain ⟨n,hn,en⟩:=tW (drw ns (p+2) 6) (cA _ _ (by decide)) (cB _ _ (by decide))
  have key:∀ (s:Sm) (m:Nat) (h:HH),(∀ rest,evS (runN T G (m+2)) G smL (some (.p (.lst (aa ns))) :: some (.p (.int p)) :: rest) h=some (.rt (.p s.enc) h))->runN T G (m+0+3) "_law_sum" [.p (.lst (aa ns)),.p (.int p),.p (.int ((0:Nat):Int))] h=some (.p s.enc,h):=fun s m h q=>by
   rw[run_eq L.sum rfl]
   simp[bN,dr,q,ai]
  by_cases c:drw ns (p+1) 2=0
  ·exact ⟨.num n,hn,by simp[Sm.size],fun m h=>key _ m h fun rest=>zC L ns hl p n m rest h c en⟩
  ·exact ⟨.nam x,trivial,by simp[Sm.size],fun m h=>key _ m h fun rest=>zD L ns hl p x m rest h c ex⟩
 | succ deep ih =>
  intro p
  have dr:=fun m q many (hm:0 < many)=>cF (G:=G) L m ns hl q many hm
  obtain ⟨x,ex⟩:=tV (drw ns (p+2) 4) (cA _ _ (by decide)) (cB _ _ (by decide))
  obtain ⟨n,hn,en⟩:=tW (drw ns (p+2) 6) (cA _ _ (by decide)) (cB _ _ (by decide))
  obtain ⟨s,so,ss,sr0⟩:=ih (p*2+5)
  obtain ⟨t,to,tt,tr0⟩:=ih (p*2+19)
  have ee:∀ m,m+(deep+1)+2=m+deep+3:=fun m=>by omega
  have sr:=fun m h=>(ee m).symm ▸ sr0 m h
  have tr:=fun m h=>(ee m).symm ▸ tr0 m h
  have d0:¬ ((deep:Int)+1=0):=by omega
  have d1:((deep:Int)+1 - 1)=deep:=by omega
  have b2:big 2=true:=by decide
  have w0:=cA ns p (many:=10) (by decide)
  have w1:=cB ns p (many:=10) (by decide)
  have pw:2 ^ (deep+1+1)=2 ^ (deep+1)+2 ^ (deep+1):=by omega
  by_cases c1:drw ns p 10 < 4
  ·have key:∀ (s:Sm) (m:Nat) (h:HH),(∀ rest,evS (runN T G (m+deep+1+2)) G smL (some (.p (.lst (aa ns))) :: some (.p (.int p)) :: rest) h=some (.rt (.p s.enc) h))->runN T G (m+(deep+1)+3) "_law_sum" [.p (.lst (aa ns)),.p (.int p),.p (.int ((deep+1:Nat):Int))] h=some (.p s.enc,h):=fun s m h q=>by
    rw[run_eq L.sum rfl]
    have dq:=dr (m+(deep+1))
    have q:∀ rest,evS (runN T G (m+(deep+1)+2)) G smL (some (.p (.lst (aa ns))) :: some (.p (.int p)) :: rest) h=some (.rt (.p s.enc) h):=q
    simp[bN,dq,c1,d0,q,ai]
   by_cases c:drw ns (p+1) 2=0
   ·exact ⟨.num n,hn,by simp only[Sm.size];omega,fun m h=>key _ m h fun rest=>zC L ns hl p n (m+deep+1) rest h c en⟩
   ·exact ⟨.nam x,trivial,by simp only[Sm.size];omega,fun m h=>key _ m h fun rest=>zD L ns hl p x (m+deep+1) rest h c ex⟩
  ·by_cases c2:drw ns p 10 < 6
   ·refine ⟨.cell s,so,by simp only[Sm.size];omega,fun m h=>?_⟩
    rw[run_eq L.sum rfl]
    simp[-aW,-gk,bN,smR,dr,c1,c2,d0,d1,b2,sr,ai,Sm.enc]
   ·obtain ⟨o,eo⟩:=GL (drw ns p 10 - 6) (by omega) (by omega)
    refine ⟨.two o s t,⟨so,to⟩,by simp only[Sm.size];omega,fun m h=>?_⟩
    rw[run_eq L.sum rfl]
    simp[-aW,-gk,bN,smR,dr,c1,c2,d0,d1,b2,sr,tr,eo,ai,Sm.enc]
end
end BT
end
section
namespace BT
open PySem
noncomputable def D7:S:=(.ret (.idx (.lst false (.cons (.tup (.cons (.cst (.str "call")) (.cons (.var 4 "_law_place") .nil))) (.cons (.tup (.cons (.cst (.str "call")) (.cons (.var 4 "_law_place") .nil))) (.cons (.tup (.cons (.cst (.str "back")) .nil)) (.cons (.idx (.lst false (.cons (.tup (.cons (.cst (.str "stop")) .nil)) (.cons (.tup (.cons (.cst (.str "back")) .nil)) .nil))) (.bin .mod (.var 4 "_law_place") (.cst (.int 2)))) .nil))))) (.bin .sub (.var 3 "_law_way") (.cst (.int 12)))))
noncomputable def rA3:S:=(.ret (.idx (.lst false (.cons (.tup (.cons (.cst (.str "jump")) (.cons (.var 4 "_law_place") .nil))) (.cons (.tup (.cons (.cst (.str "unless")) (.cons (.var 6 "_law_one") (.cons (.var 4 "_law_place") .nil)))) (.cons (.tup (.cons (.cst (.str "unless")) (.cons (.tup (.cons (.cst (.str "name")) (.cons (.var 5 "_law_name") .nil))) (.cons (.var 4 "_law_place") .nil)))) .nil)))) (.bin .sub (.var 3 "_law_way") (.cst (.int 9)))))
noncomputable def zE:S:=(.seq (.ife (.cmp .lt (.var 3 "_law_way") (.cst (.int 12))) rA3 .nil) D7)
noncomputable def rA2:S:=(.ret (.idx (.lst false (.cons (.tup (.cons (.cst (.str "ask")) (.cons (.var 5 "_law_name") .nil))) (.cons (.tup (.cons (.cst (.str "say")) (.cons (.var 6 "_law_one") .nil))) .nil))) (.bin .sub (.var 3 "_law_way") (.cst (.int 7)))))
noncomputable def tY:S:=(.seq (.ife (.cmp .lt (.var 3 "_law_way") (.cst (.int 9))) rA2 .nil) zE)
noncomputable def rA1:S:=(.ret (.tup (.cons (.cst (.str "put")) (.cons (.call "_law_sum" (.cons (.var 0 "_law_script") (.cons (.bin .add (.var 1 "_law_at") (.cst (.int 9))) (.cons (.cst (.int 1)) .nil)))) (.cons (.var 6 "_law_one") .nil)))))
noncomputable def qo:S:=(.seq (.ife (.cmp .lt (.var 3 "_law_way") (.cst (.int 7))) rA1 .nil) tY)
noncomputable def rA0:S:=(.ret (.tup (.cons (.cst (.str "set")) (.cons (.var 5 "_law_name") (.cons (.var 6 "_law_one") .nil)))))
noncomputable def rS:S:=(.seq (.ife (.cmp .lt (.var 3 "_law_way") (.cst (.int 5))) rA0 .nil) qo)
theorem mF:eW=⟨["_law_script","_law_at","_law_size"],["_law_script","_law_at","_law_size","_law_way","_law_place","_law_name","_law_one"],
 (.seq (.set 3 "_law_way" (.call "_law_drawn" (.cons (.var 0 "_law_script") (.cons (.var 1 "_law_at") (.cons (.cst (.int 16)) .nil)))))
 (.seq (.set 4 "_law_place" (.call "_law_drawn" (.cons (.var 0 "_law_script") (.cons (.bin .add (.var 1 "_law_at") (.cst (.int 1))) (.cons (.bin .add (.var 2 "_law_size") (.cst (.int 1))) .nil)))))
 (.seq (.set 5 "_law_name" (.idx (.cst (.str "abc")) (.call "_law_drawn" (.cons (.var 0 "_law_script") (.cons (.bin .add (.var 1 "_law_at") (.cst (.int 2))) (.cons (.cst (.int 3)) .nil))))))
 (.seq (.set 6 "_law_one" (.call "_law_sum" (.cons (.var 0 "_law_script") (.cons (.bin .add (.var 1 "_law_at") (.cst (.int 3))) (.cons (.cst (.int 2)) .nil)))))
 rS))))⟩:=rfl
section
variable {T:FK->Option Fn}{G:Str->Option W}
theorem CJ (L:Lw T) (ns:List Int) (hl:ns.length<=1000) (p:Int) (size:Nat):∃ r:Rw,r.ok size/\∀ (m:Nat) (h:HH),
 runN T G (m+6) "_law_row" [.p (.lst (aa ns)),.p (.int p),.p (.int size)] h=some (.p r.enc,h):=by
 have dr:=fun m q many (hm:0 < many)=>cF (G:=G) L m ns hl q many hm
 obtain ⟨x,ex⟩:=GK (drw ns (p+2) 3) (cA _ _ (by decide)) (cB _ _ (by decide))
 obtain ⟨s,so,ss,sr⟩:=tX (G:=G) L ns hl 2 (p+3)
 obtain ⟨t,to,tt,tr⟩:=tX (G:=G) L ns hl 1 (p+9)
 have w0:=cA ns p (many:=16) (by decide)
 have w1:=cB ns p (many:=16) (by decide)
 have sz:(0:Int) < (size:Int)+1:=by omega
 have p0:=cA ns (p+1) sz
 have p1:=cB ns (p+1) sz
 obtain ⟨pl,hpl⟩:∃ pl:Nat,drw ns (p+1) ((size:Int)+1)=(pl:Int):=⟨(drw ns (p+1) ((size:Int)+1)).toNat,by omega⟩
 have ple:pl<=size:=by omega
 have sok:oB s:=⟨so,by omega⟩
 have tok:oB t:=⟨to,by omega⟩
 have sr':=fun m h=>sr (m+0) h
 have tr':=fun m h=>tr (m+1) h
 simp at sr' tr'
 have dp:=fun m h=>dr m (p+1) ((size:Int)+1) sz h
 rw[hpl] at dp
 have pre:∀ (m:Nat) (h:HH),runN T G (m+6) "_law_row" [.p (.lst (aa ns)),.p (.int p),.p (.int size)] h =
  j6 (evS (runN T G (m+5)) G rS [some (.p (.lst (aa ns))),some (.p (.int p)),some (.p (.int size)),some (.p (.int (drw ns p 16))),some (.p (.int (pl:Int))),some (.p (.str x.w)),some (.p s.enc)] h) (fin h):=fun m h=>by
  rw[run_eq L.row rfl,mF]
  simp[-gk,dp,dr,ex,sr']
 by_cases c1:drw ns p 16 < 5
 ·refine ⟨.set x s,sok,fun m h=>?_⟩
  rw[pre]
  simp[-aW,-gk,rS,rA0,c1,ai,Rw.enc]
 ·by_cases c2:drw ns p 16 < 7
  ·refine ⟨.put t s,⟨tok,sok⟩,fun m h=>?_⟩
   rw[pre]
   simp[-aW,-gk,rS,qo,rA1,tr',c1,c2,ai,Rw.enc]
  ·by_cases c3:drw ns p 16 < 9
   ·obtain ⟨r,ro,ix⟩:∃ r:Rw,r.ok size/\aD (.lst [.tup [.str "ask",.str x.w],.tup [.str "say",s.enc]]) (.int (drw ns p 16 - 7))=some r.enc:=by
     have c:drw ns p 16=7\/drw ns p 16=8:=by omega
     rcases c with c | c<;>rw[c]
     ·exact ⟨.ask x,trivial,rfl⟩
     ·exact ⟨.say s,sok,rfl⟩
    refine ⟨r,ro,fun m h=>?_⟩
    rw[pre]
    simp[-aW,rS,qo,tY,rA2,c1,c2,c3,ix,ai]
   ·by_cases c4:drw ns p 16 < 12
    ·obtain ⟨r,ro,ix⟩:∃ r:Rw,r.ok size/\aD (.lst [.tup [.str "jump",.int pl],.tup [.str "unless",s.enc,.int pl],.tup [.str "unless",.tup [.str "name",.str x.w],.int pl]]) (.int (drw ns p 16 - 9))=some r.enc:=by
      have c:drw ns p 16=9\/drw ns p 16=10\/drw ns p 16=11:=by omega
      rcases c with c | c | c<;>rw[c]
      ·exact ⟨.jump pl,ple,rfl⟩
      ·exact ⟨.unless s pl,⟨sok,ple⟩,rfl⟩
      ·exact ⟨.unless (.nam x) pl,⟨⟨trivial,by simp[Sm.size]⟩,ple⟩,rfl⟩
     refine ⟨r,ro,fun m h=>?_⟩
     rw[pre]
     simp[-aW,rS,qo,tY,zE,rA3,c1,c2,c3,c4,ix,ai]
    ·obtain ⟨u,uo,iu⟩:∃ u:Rw,u.ok size/\aD (.lst [.tup [.str "stop"],.tup [.str "back"]]) (.int ((pl:Int) % 2))=some u.enc:=by
      have z:(pl:Int) % 2=0\/(pl:Int) % 2=1:=by omega
      rcases z with z | z<;>rw[z]
      ·exact ⟨.stop,trivial,rfl⟩
      ·exact ⟨.back,trivial,rfl⟩
     obtain ⟨r,ro,ix⟩:∃ r:Rw,r.ok size/\aD (.lst [.tup [.str "call",.int pl],.tup [.str "call",.int pl],.tup [.str "back"],u.enc]) (.int (drw ns p 16 - 12))=some r.enc:=by
      have c:drw ns p 16=12\/drw ns p 16=13\/drw ns p 16=14\/drw ns p 16=15:=by omega
      rcases c with c | c | c | c<;>rw[c]
      ·exact ⟨.call pl,ple,rfl⟩
      ·exact ⟨.call pl,ple,rfl⟩
      ·exact ⟨.back,trivial,rfl⟩
      ·exact ⟨u,uo,rfl⟩
     refine ⟨r,ro,fun m h=>?_⟩
     rw[pre]
     simp[-aW,rS,qo,tY,zE,D7,c1,c2,c3,c4,iu,ix,ai]
theorem comp_map (f:List D->HH->Option (Option D×HH)) (g:D->D):∀ (ds:List D) (h:HH),(∀ d∈ds,∀ h,f [d] h=some (some (g d),h))->bf f 1 ds h=some (ds.map g,h):=by
 intro ds
 induction ds with
 | nil=>intro h _;rfl
 | cons d r ih =>
  intro h hf
  have e1:=hf d ON h
  have e2:=ih h fun x hx=>hf x (OL _ hx)
  rw[bf,gn]
  simp[e1,e2]
theorem qp {n:Nat}{d:D} (h:d∈upto 0 n):∃ k:Nat,k < n/\d=.int k:=by
 simp[upto] at h
 obtain ⟨k,hk,e⟩:=h
 exact ⟨k,hk,e.symm⟩
theorem qt (n:Nat) (g:D->D):(upto 0 n).map g=(O8 n).map fun (k:Nat)=>g (.int k):=by
 simp[upto,Function.comp_def]
noncomputable def CK:E:=.idx (.lst false (.cons (.cst (.int 0)) (.cons (.cst (.int 1)) (.cons (.cst (.int 5)) (.cons (.cst (.int 10006)) .nil))))) (.call "_law_drawn" (.cons (.var 1 "_law_script") (.cons (.bin .add (.bin .add (.var 2 "_law_at") (.cst (.int 1))) (.var 0 "_law_k")) (.cons (.cst (.int 4)) .nil))))
theorem kg:cN=⟨["_law_script","_law_at"],["_law_script","_law_at"],.ret (.comp false .rng1 (.cons (.call "_law_drawn" (.cons (.var 0 "_law_script") (.cons (.var 1 "_law_at") (.cons (.cst (.int 4)) .nil)))) .nil) ["_law_k"] [(0,"_law_script"),(1,"_law_at")] .nil CK)⟩:=rfl
theorem v7 (L:Lw T) (ns:List Int) (hl:ns.length<=1000) (p:Int):∃ asked:List Int,Ask asked/\asked.length<=3/\∀ (m:Nat) (h:HH),
 runN T G (m+3) "_law_asked" [.p (.lst (aa ns)),.p (.int p)] h=some (.p (.lst (aa asked)),h):=by
 have dr:=fun m q many (hm:0 < many)=>cF (G:=G) L m ns hl q many hm
 have at4:∀ i:Int,0<=i->i < 4->∃ n:Int,Wth n/\aD (.lst [.int 0,.int 1,.int 5,.int 10006]) (.int i)=some (.int n):=by
  intro i h0 h1
  have:i=0\/i=1\/i=2\/i=3:=by omega
  rcases this with rfl | rfl | rfl | rfl
  ·exact ⟨0,⟨by decide,by decide⟩,rfl⟩
  ·exact ⟨1,⟨by decide,by decide⟩,rfl⟩
  ·exact ⟨5,⟨by decide,by decide⟩,rfl⟩
  ·exact ⟨10006,⟨by decide,by decide⟩,rfl⟩
 have ch:∀ k:Nat,∃ n:Int,Wth n/\aD (.lst [.int 0,.int 1,.int 5,.int 10006]) (.int (drw ns (p+1+k) 4))=some (.int n):=fun k =>
  at4 _ (cA _ _ (by decide)) (cB _ _ (by decide))
 obtain ⟨g,hg⟩:=TV ch
 have w0:=cA ns p (many:=4) (by decide)
 have w1:=cB ns p (many:=4) (by decide)
 refine ⟨(O8 (drw ns p 4).toNat).map g,?_,by simp;omega,fun m h=>?_⟩
 ·intro x hx
  simp at hx
  obtain ⟨k,_,rfl⟩:=hx
  exact (hg k).1
 ·rw[run_eq L.asked rfl,kg]
  have c1:drw ns p 4<=100000:=by omega
  have c0:-100000<=drw ns p 4:=by omega
  have he:∀ (k:Nat) (h:HH),ev (runN T G (m+2)) G CK [some (.p (.int k)),some (.p (.lst (aa ns))),some (.p (.int p))] h=some (.p (.int (g k)),h):=fun k h=>by
   have e:=(hg k).2
   simp[-aW,CK,dr,e]
  have cm:=comp_map (dZ (fun _ h=>some ([],h)) (ev (runN T G (m+2)) G CK) [some (.p (.lst (aa ns))),some (.p (.int p))]) (fun d=>match d with | .int k=>.int (g k.toNat) | _=>.non) (upto 0 (drw ns p 4).toNat) h (by
   intro d hd h
   obtain ⟨k,hk,rfl⟩:=qp hd
   simp[c7,he])
  have ln:(drw ns p 4).toNat<=100000:=by omega
  rw[qt] at cm
  have cm':(O8 (drw ns p 4).toNat).map (fun (k:Nat)=>match D.int (k:Int) with | .int k=>D.int (g k.toNat) | _=>.non)=aa ((O8 (drw ns p 4).toNat).map g):=by simp[aa,Function.comp_def]
  rw[cm'] at cm
  simp[dr,c0,c1,cm,gI,ln,ai,f6]
noncomputable def zF:E:=.call "_law_row" (.cons (.var 1 "_law_script") (.cons (.bin .add (.bin .add (.var 2 "_law_at") (.cst (.int 10))) (.bin .mul (.cst (.int 40)) (.var 0 "_law_k"))) (.cons (.var 3 "_law_size") .nil)))
structure Drawn (p:Pg):Prop where
 ok:Pg.ok p
 lo:1<=p.length
 hi:p.length<=9
noncomputable def gJ (n:Int) (o:Op):Pg:=[.ask .a,.call 4,.say (.nam .a),.jump 0,.put (.nam .a) (.num n),.call 7,.back,.set .b (.two o (.nam .b) (.nam .a)),.back]
theorem oG (n:Int) (o:Op) (h:Wth n):Drawn (gJ n o):=by
 refine ⟨?_,by simp[gJ],by simp[gJ]⟩
 intro r hr
 simp only[gJ,QS,Qo,or_false] at hr
 rcases hr with rfl | rfl | rfl | rfl | rfl | rfl | rfl | rfl | rfl<;>simp[Rw.ok,gJ,oB,Sm.ok,Sm.size,h]
theorem lG (L:Lw T)
 (ns:List Int) (hl:ns.length<=1000) (p:Int)
 (run1:∀ (m:Nat) (h:HH) (n:Int) (o:Op),drw ns (p+1) 4=0->n=drw ns (p+2) 9->aD (.lst [.str "add",.str "sub"]) (.int (drw ns (p+3) 2))=some (.str o.w) →
  (∀ m q many,0 < many->∀ h,runN T G (m+2) "_law_drawn" [.p (.lst (aa ns)),.p (.int q),.p (.int many)] h=some (.p (.int (drw ns q many)),h)) →
  runN T G (m+7) "_law_program" [.p (.lst (aa ns)),.p (.int p)] h=some (.p (bq (gJ n o)),h))
 (run2:∀ (m:Nat) (h:HH) (pg:Pg),drw ns (p+1) 4≠0->pg.length=(1+drw ns p 9).toNat →
  (∀ m q many,0 < many->∀ h,runN T G (m+2) "_law_drawn" [.p (.lst (aa ns)),.p (.int q),.p (.int many)] h=some (.p (.int (drw ns q many)),h)) →
  (∀ h,bf (dZ (fun _ h=>some ([],h)) (ev (runN T G (m+6)) G zF) [some (.p (.lst (aa ns))),some (.p (.int p)),some (.p (.int (1+drw ns p 9)))]) 1 (upto 0 (1+drw ns p 9).toNat) h=some (pg.map Rw.enc,h)) →
  runN T G (m+7) "_law_program" [.p (.lst (aa ns)),.p (.int p)] h=some (.p (bq pg),h)) :
 ∃ pg:Pg,Drawn pg/\∀ (m:Nat) (h:HH),runN T G (m+7) "_law_program" [.p (.lst (aa ns)),.p (.int p)] h=some (.p (bq pg),h):=by
 have dr:=fun m q many (hm:0 < many)=>cF (G:=G) L m ns hl q many hm
 by_cases c:drw ns (p+1) 4=0
 ·have d0:=cA ns (p+3) (many:=2) (by decide)
  have d1:=cB ns (p+3) (many:=2) (by decide)
  have e0:=cA ns (p+2) (many:=9) (by decide)
  have e1:=cB ns (p+2) (many:=9) (by decide)
  have z:drw ns (p+3) 2=0\/drw ns (p+3) 2=1:=by omega
  have:∃ o:Op,aD (.lst [.str "add",.str "sub"]) (.int (drw ns (p+3) 2))=some (.str o.w):=by
   rcases z with z | z<;>rw[z]
   ·exact ⟨.add,rfl⟩
   ·exact ⟨.sub,rfl⟩
  obtain ⟨o,eo⟩:=this
  exact ⟨gJ (drw ns (p+2) 9) o,oG _ _ ⟨by omega,by omega⟩,fun m h=>run1 m h _ o c rfl eo dr⟩
 ·have d0:=cA ns p (many:=9) (by decide)
  have d1:=cB ns p (many:=9) (by decide)
  obtain ⟨sz,hsz⟩:∃ sz:Nat,1+drw ns p 9=(sz:Int):=⟨(1+drw ns p 9).toNat,by omega⟩
  have ch:∀ k:Nat,∃ r:Rw,r.ok sz/\∀ (m:Nat) (h:HH),runN T G (m+6) "_law_row" [.p (.lst (aa ns)),.p (.int (p+10+40*(k:Int))),.p (.int sz)] h=some (.p r.enc,h) :=
   fun k=>CJ L ns hl _ sz
  obtain ⟨g,hg⟩:=TV ch
  refine ⟨(O8 sz).map g,⟨?_,by simp;omega,by simp;omega⟩,fun m h=>run2 m h _ c (by simp;omega) dr fun h=>?_⟩
  ·intro r hr
   simp at hr
   obtain ⟨k,_,rfl⟩:=hr
   simpa using (hg k).1
  ·rw[hsz]
   have b:big 40=true:=by decide
   have he:∀ (k:Nat) (h:HH),ev (runN T G (m+6)) G zF [some (.p (.int k)),some (.p (.lst (aa ns))),some (.p (.int p)),some (.p (.int sz))] h=some (.p (g k).enc,h):=fun k h=>by
    have e:=(hg k).2
    simp[zF,e,b]
   have cm:=comp_map (dZ (fun _ h=>some ([],h)) (ev (runN T G (m+6)) G zF) [some (.p (.lst (aa ns))),some (.p (.int p)),some (.p (.int sz))]) (fun d=>match d with | .int k=>(g k.toNat).enc | _=>.non) (upto 0 sz) h (by
    intro d hd h
    obtain ⟨k,hk,rfl⟩:=qp hd
    simp[c7,he])
   rw[qt] at cm
   simp only[Qz,Qc]
   rw[cm]
   rfl
end
end BT
end
section
namespace BT
open PySem
section
variable {T:FK->Option Fn}{G:Str->Option W}
noncomputable def prA:S:=(.seq (.set 3 "_law_put" (.tup (.cons (.cst (.str "put")) (.cons (.tup (.cons (.cst (.str "name")) (.cons (.cst (.str "a")) .nil))) (.cons (.tup (.cons (.cst (.str "num")) (.cons (.call "_law_drawn" (.cons (.var 0 "_law_script") (.cons (.bin .add (.var 1 "_law_at") (.cst (.int 2))) (.cons (.cst (.int 9)) .nil)))) .nil))) .nil)))))
 (.seq (.set 4 "_law_sign" (.idx (.lst false (.cons (.cst (.str "add")) (.cons (.cst (.str "sub")) .nil))) (.call "_law_drawn" (.cons (.var 0 "_law_script") (.cons (.bin .add (.var 1 "_law_at") (.cst (.int 3))) (.cons (.cst (.int 2)) .nil))))))
 (.seq (.set 5 "_law_rows" (.tup (.cons (.tup (.cons (.cst (.str "ask")) (.cons (.cst (.str "a")) .nil))) (.cons (.tup (.cons (.cst (.str "call")) (.cons (.cst (.int 4)) .nil))) (.cons (.tup (.cons (.cst (.str "say")) (.cons (.tup (.cons (.cst (.str "name")) (.cons (.cst (.str "a")) .nil))) .nil))) (.cons (.tup (.cons (.cst (.str "jump")) (.cons (.cst (.int 0)) .nil))) (.cons (.var 3 "_law_put") .nil)))))))
 (.ret (.bin .add (.var 5 "_law_rows") (.tup (.cons (.tup (.cons (.cst (.str "call")) (.cons (.cst (.int 7)) .nil))) (.cons (.tup (.cons (.cst (.str "back")) .nil)) (.cons (.tup (.cons (.cst (.str "set")) (.cons (.cst (.str "b")) (.cons (.tup (.cons (.var 4 "_law_sign") (.cons (.tup (.cons (.cst (.str "name")) (.cons (.cst (.str "b")) .nil))) (.cons (.tup (.cons (.cst (.str "name")) (.cons (.cst (.str "a")) .nil))) .nil)))) .nil)))) (.cons (.tup (.cons (.cst (.str "back")) .nil)) .nil))))))))))
noncomputable def prB:S:=(.ret (.bi .tuple false (.cons (.comp false .rng1 (.cons (.var 2 "_law_size") .nil) ["_law_k"] [(0,"_law_script"),(1,"_law_at"),(2,"_law_size")] .nil zF) .nil)))
theorem fu:aR=⟨["_law_script","_law_at"],["_law_script","_law_at","_law_size","_law_put","_law_sign","_law_rows"],
 (.seq (.set 2 "_law_size" (.bin .add (.cst (.int 1)) (.call "_law_drawn" (.cons (.var 0 "_law_script") (.cons (.var 1 "_law_at") (.cons (.cst (.int 9)) .nil))))))
 (.seq (.ife (.cmp .eq (.call "_law_drawn" (.cons (.var 0 "_law_script") (.cons (.bin .add (.var 1 "_law_at") (.cst (.int 1))) (.cons (.cst (.int 4)) .nil)))) (.cst (.int 0))) prA .nil)
 prB))⟩:=rfl
theorem qu (L:Lw T) (hP:T "_law_program"=some aR) (ns:List Int) (hl:ns.length<=1000) (p:Int) :
 ∃ pg:Pg,Drawn pg/\∀ (m:Nat) (h:HH),runN T G (m+7) "_law_program" [.p (.lst (aa ns)),.p (.int p)] h=some (.p (bq pg),h):=by
 refine lG L ns hl p (fun m h n o c en eo dr=>?_) (fun m h pg c el dr cm=>?_)
 ·rw[run_eq hP rfl]
  have d:=fun q many hm h=>dr (m+4) q many hm h
  rw[fu]
  simp[-aW,prA,d,c,eo,ai,bq,gJ,Rw.enc,Sm.enc,← en,Nm.w]
 ·rw[run_eq hP rfl]
  have d:=fun q many hm h=>dr (m+4) q many hm h
  have d0:=cA ns p (many:=9) (by decide)
  have d1:=cB ns p (many:=9) (by decide)
  have c0:-100000<=1+drw ns p 9:=by omega
  have c1:1+drw ns p 9<=100000:=by omega
  have c2:pg.length<=100000:=by omega
  have cm':=cm h
  rw[fu]
  simp[-dZ,prB,d,c,c0,c1,c2,cm',ai,bq,f6]
mutual
theorem jt:∀ d:D,eqv d d=true
 | .non=>rfl
 | .bl b=>by simp
 | .int i=>by simp
 | .str x=>by simp
 | .tup xs=>by simp[iw xs]
 | .lst xs=>by simp[iw xs]
theorem iw:∀ ds:List D,lW ds ds=true
 | []=>rfl
 | d :: r=>by simp[jt d,iw r]
end
theorem lH (n:Nat) (xs:List Int):(aa xs).all (dok n)=true:=by simp[aa,P7]
theorem qv (n:Nat) (xs:List Nat):(af xs).all (dok n)=true:=by simp[af,P7]
theorem ne_self {x:D} (h:dok 100 x=true):dX .ne x x=some false:=by rw[nJ,if_pos (gi h),jt];rfl
@[simp] theorem GM (ds:List D):lW ds ds=true:=iw ds
@[simp] theorem HF (d:D):eqv d d=true:=jt d
@[simp] theorem HG (x:D) (xs:List Int):bA x (.tup (aa xs))=true:=gi (lH 99 xs)
@[simp] theorem HJ (x:D) (xs:List Nat):bA x (.tup (af xs))=true:=gi (qv 99 xs)
@[simp] theorem JL (x:D) (xs ys:List Int):bA x (.tup [.tup (aa xs),.tup (aa ys)])=true:=gi (by simp[lH])
end
end BT
end
section
namespace BT
open PySem
section
variable {T:FK->Option Fn}{G:Str->Option W}
@[simp] theorem M9 (st:St):qZ st.enc (some 1) (some 3)=some (.tup [.tup (aa st.names),.tup (aa st.cells)]):=rfl
end
end BT
end
section
namespace BT
open PySem
theorem zG (n:Nat) (st:St):dok (n+2) st.enc=true:=by
 simp[St.enc,sC,lH,qv]
theorem CM (L:List St):dok 100 (.lst (L.map St.enc))=true:=by
 rw[sD,P7]
 intro d hd
 simp at hd
 obtain ⟨st,_,rfl⟩:=hd
 exact zG 97 st
@[simp] theorem LR (x:D) (st:St):bA x st.enc=true:=gi (zG 98 st)
@[simp] theorem JM (x:D) (L:List St):bA x (.lst (L.map St.enc))=true:=gi (CM L)
end BT
end
section
namespace BT
open PySem
noncomputable def itr (p:Pg) (asked:List Int):Nat->St
 | 0=>St.zero
 | n+1=>step p asked (itr p asked n)
structure Run (p:Pg) (asked:List Int) (most e:Nat):Prop where
 le:e<=most
 on:∀ i,i < e->over p (itr p asked i)=false
 last:e=most\/over p (itr p asked e)=true
theorem zH (p:Pg) (asked:List Int):∀ (r j:Nat),∃ e,e<=r/\sts p asked r (itr p asked j)=(O8 (e+1)).map (fun i=>itr p asked (j+i))/\(∀ i,i < e->over p (itr p asked (j+i))=false)/\(e=r\/over p (itr p asked (j+e))=true)
 | 0,j=>⟨0,OE _,rfl,fun i hi=>absurd hi (SA _),.inl rfl⟩
 | r+1,j=>by
  rw[sts]
  by_cases c:over p (itr p asked j)=true
  ·rw[if_pos c]
   exact ⟨0,Pq _,rfl,fun i hi=>absurd hi (SA _),.inr c⟩
  ·rw[if_neg c]
   obtain ⟨e,h1,h2,h3,h4⟩:=zH p asked r (j+1)
   have c':over p (itr p asked j)=false:=by simpa using c
   refine ⟨e+1,by omega,?_,fun i hi=>?_,?_⟩
   ·show itr p asked j :: sts p asked r (itr p asked (j+1))=_
    rw[h2,Sk (n:=e+1),O0,Qc]
    congr 1
    apply Qh
    intro i _
    show itr p asked (j+1+i)=itr p asked (j+(i+1))
    congr 1;omega
   ·cases i with
    | zero=>exact c'
    | succ i =>
     have:=h3 i (by omega)
     rw[show j+(i+1)=j+1+i by omega];exact this
   ·rcases h4 with h4 | h4
    ·exact .inl (by omega)
    ·exact .inr (by rw[show j+(e+1)=j+1+e by omega];exact h4)
theorem CP (p:Pg) (asked:List Int) (most:Nat):∃ e,Run p asked most e/\sts p asked most St.zero=(O8 (e+1)).map (itr p asked):=by
 obtain ⟨e,h1,h2,h3,h4⟩:=zH p asked most 0
 refine ⟨e,⟨h1,fun i hi=>by have:=h3 i hi;simpa using this,by simpa using h4⟩,?_⟩
 have:sts p asked most St.zero=sts p asked most (itr p asked 0):=rfl
 rw[this,h2]
 apply Qh
 intro i _
 simp
theorem jR {p:Pg}{asked:List Int}{most e:Nat} (hp:Pg.ok p) (ha:Ask asked) (R:Run p asked most e):∀ i,i<=e->At i (itr p asked i)
 | 0,_=>CF
 | i+1,h=>CG hp ha (jR hp ha R i (by omega)) (R.on i (by omega))
structure Tp where
 p:Pg
 asked:List Int
 gap:Nat
 most:Nat
 kept:List St
 far:Nat
 front:St
 now:Nat
noncomputable def Tp.fs (t:Tp) (r:Nat):List (Str×W):=[("program",.p (bq t.p)),("asked",.p (.lst (aa t.asked))),("gap",.p (.int t.gap)),("most",.p (.int t.most)),("kept",.r r),("farthest",.p (.int t.far)),("front",.p t.front.enc),("now",.p (.int t.now))]
section
variable (t:Tp) (r:Nat)
@[simp] theorem GN:aX "program" (t.fs r)=some (.p (bq t.p)):=by simp[Tp.fs]
@[simp] theorem JN:aX "asked" (t.fs r)=some (.p (.lst (aa t.asked))):=by simp[Tp.fs]
@[simp] theorem Na:aX "gap" (t.fs r)=some (.p (.int t.gap)):=by simp[Tp.fs]
@[simp] theorem LS:aX "most" (t.fs r)=some (.p (.int t.most)):=by simp[Tp.fs]
@[simp] theorem CQ:aX "kept" (t.fs r)=some (.r r):=by simp[Tp.fs]
@[simp] theorem Nb:aX "farthest" (t.fs r)=some (.p (.int t.far)):=by simp[Tp.fs]
@[simp] theorem JO:aX "front" (t.fs r)=some (.p t.front.enc):=by simp[Tp.fs]
@[simp] theorem Nc:aX "now" (t.fs r)=some (.p (.int t.now)):=by simp[Tp.fs]
@[simp] theorem Nd:(t.fs r).length=8:=rfl
theorem CU (v:Nat):bz "gap" (.p (.int v)) (t.fs r)=({ t with gap:=v }:Tp).fs r:=by simp[Tp.fs]
theorem zI (r':Nat):bz "kept" (.r r') (t.fs r)=t.fs r':=by simp[Tp.fs]
theorem CV (v:Nat):bz "farthest" (.p (.int v)) (t.fs r)=({ t with far:=v }:Tp).fs r:=by simp[Tp.fs]
theorem v8 (v:St):bz "front" (.p v.enc) (t.fs r)=({ t with front:=v }:Tp).fs r:=by simp[Tp.fs]
theorem b9 {m:String} (h:(["program","asked","gap","most","kept","farthest","front","now"]:List String).contains m=false):aX m (t.fs r)=none:=by
 simp only[List.contains_cons,List.contains_nil,S9,Bool.or_eq_false_iff,beq_eq_false_iff_ne,ne_eq] at h
 obtain ⟨h1,h2,h3,h4,h5,h6,h7,h8⟩:=h
 simp[Tp.fs,h1,h2,h3,h4,h5,h6,h7,h8]
end
structure TAt (h:HH) (n r:Nat) (t:Tp):Prop where
 ob:oat h n=some (OT "Tape",t.fs r)
 li:lat h r=some (t.kept.map St.enc)
theorem jS {h:HH}{n:Nat}{q:Str×List (Str×W)} (e:oat h n=some q):n < h.length:=by
 unfold oat at e
 rcases OR n h.length with z | z
 ·exact z
 ·rw[OJ z] at e;cases e
theorem jT {h:HH}{n:Nat}{q:List D} (e:lat h n=some q):n < h.length:=by
 unfold lat at e
 rcases OR n h.length with z | z
 ·exact z
 ·rw[OJ z] at e;cases e
theorem D8 {h:HH}{n r:Nat}{q:Str×List (Str×W)}{xs:List D} (e:oat h n=some q) (e':lat h r=some xs):n≠r:=by
 rintro rfl
 unfold oat at e
 unfold lat at e'
 cases g:h[n]? with
 | none=>rw[g] at e;cases e
 | some c=>rw[g] at e e';cases c<;>simp at e e'
theorem ju {h:HH}{n:Nat} (hn:n < h.length) (c:Cl):oat (h.set n c) n=pL c:=by
 unfold oat;rw[PY hn];rfl
theorem lI {h:HH}{n i:Nat} (hn:i≠n) (c:Cl):oat (h.set n c) i=oat h i:=by
 unfold oat;rw[Pd (PD hn)]
theorem qw {h:HH}{n:Nat} (hn:n < h.length) (c:Cl):lat (h.set n c) n=nF c:=by
 unfold lat;rw[PY hn];rfl
theorem iQ {h:HH}{n i:Nat} (hn:i≠n) (c:Cl):lat (h.set n c) i=lat h i:=by
 unfold lat;rw[Pd (PD hn)]
theorem zJ {h h':HH}{i:Nat} (e:h'[i]?=h[i]?):lat h' i=lat h i:=by unfold lat;rw[e]
theorem zK {h h':HH}{i:Nat} (e:h'[i]?=h[i]?):oat h' i=oat h i:=by unfold oat;rw[e]
theorem CW {h g:HH}{i:Nat} (hi:i < h.length):lat (h++g) i=lat h i:=zJ (OH hi)
theorem tZ {h g:HH}{i:Nat} (hi:i < h.length):oat (h++g) i=oat h i:=zK (OH hi)
structure Go (n:Nat) (h:HH) (r:Nat) (t:Tp) (h':HH) (r':Nat) (t':Tp):Prop where
 a:TAt h n r t
 b:TAt h' n r' t'
 len:(h'.length=h.length/\r'=r)\/(h.length<=r')
 le:h.length<=h'.length
 fr:∀ i,i≠n->i≠r->i < h.length->h'[i]?=h[i]?
theorem Go.refl {n:Nat}{h:HH}{r:Nat}{t:Tp} (a:TAt h n r t):Go n h r t h r t:=⟨a,a,.inl ⟨rfl,rfl⟩,OE _,fun _ _ _ _=>rfl⟩
theorem Go.trans {n:Nat}{h h1 h2:HH}{r r1 r2:Nat}{t t1 t2:Tp} (x:Go n h r t h1 r1 t1) (y:Go n h1 r1 t1 h2 r2 t2):Go n h r t h2 r2 t2:=by
 refine ⟨x.a,y.b,?_,Ph x.le y.le,fun i h1 h2 h3=>?_⟩
 ·rcases x.len with ⟨a1,a2⟩ | a1
  ·rcases y.len with ⟨b1,b2⟩ | b1
   ·exact .inl ⟨b1.trans a1,b2.trans a2⟩
   ·exact .inr (by omega)
  ·rcases y.len with ⟨b1,b2⟩ | b1
   ·exact .inr (by omega)
   ·exact .inr (by have:=x.le;omega)
 ·have:i≠r1:=by
   rcases x.len with ⟨a1,a2⟩ | a1
   ·rw[a2];exact h2
   ·omega
  rw[y.fr i h1 this (by have:=x.le;omega)]
  exact x.fr i h1 h2 h3
theorem bF {n:Nat}{h h':HH}{r r':Nat}{t t':Tp} (x:Go n h r t h' r' t') (w:W):fin h w h'=some (w,h'):=by
 unfold fin
 by_cases c:h'.length=h.length
 ·rw[if_pos c]
 ·rw[if_neg c]
  rw[if_neg]
  intro z
  rcases x.len with ⟨a1,a2⟩ | a1
  ·exact c a1
  ·have hn:=jS x.a.ob
   have e:h'[n]?=h[n]?:=by
    have q:=Q3 (l:=h') hn
    rw[z] at q
    exact q.symm
   have e2:oat h' n=oat h n:=zK e
   rw[x.a.ob,x.b.ob] at e2
   have e3:=congrArg (fun q:Option (Str×List (Str×W))=>q.bind fun y=>aX "kept" y.2) e2
   simp only[Ql,CQ,RG,W.r.injEq] at e3
   have:=jT x.a.li
   omega
end BT
end
section
namespace BT
open PySem
noncomputable def dP:Fn:=⟨["thing"],["thing"],
 (.ret (.and (.bi .isInt false (.cons (.var 0 "thing") .nil)) (.not (.bi .isBool false (.cons (.var 0 "thing") .nil)))))⟩
noncomputable def cO:Fn:=⟨["self","program","asked","every","most"],["self","program","asked","every","most"],
 (.seq (.setf (.var 0 "self") "program" (.var 1 "program"))
 (.seq (.setf (.var 0 "self") "asked" (.bi .list false (.cons (.var 2 "asked") .nil)))
 (.seq (.setf (.var 0 "self") "gap" (.bi .max2 false (.cons (.var 3 "every") (.cons (.cst (.int 1)) .nil))))
 (.seq (.setf (.var 0 "self") "most" (.bi .max2 false (.cons (.var 4 "most") (.cons (.cst (.int 0)) .nil))))
 (.seq (.setf (.var 0 "self") "kept" (.lst true (.cons (.call "begun" .nil) .nil)))
 (.seq (.setf (.var 0 "self") "farthest" (.cst (.int 0)))
 (.seq (.setf (.var 0 "self") "front" (.call "begun" .nil))
 (.setf (.var 0 "self") "now" (.cst (.int 0))))))))))⟩
noncomputable def eX:Fn:=⟨["self","moment"],["self","moment","state","step"],
 (.seq (.ex (.meth (.var 0 "self") "check" (.cons (.var 1 "moment") .nil)))
 (.seq (.set 2 "state" (.idx (.fld (.var 0 "self") "kept") (.bin .fdiv (.var 1 "moment") (.fld (.var 0 "self") "gap"))))
 (.seq (.for [(3,"step")] .rng1 (.cons (.bin .mod (.var 1 "moment") (.fld (.var 0 "self") "gap")) .nil) (.set 2 "state" (.meth (.var 0 "self") "behind" (.cons (.var 2 "state") .nil))))
 (.ret (.var 2 "state")))))⟩
noncomputable def dQ:Fn:=⟨["self"],["self"],
 (.seq (.ex (.meth (.var 0 "self") "reach" (.cons (.fld (.var 0 "self") "most") .nil)))
 (.ret (.fld (.var 0 "self") "farthest")))⟩
noncomputable def bO:Fn:=⟨["self","state"],["self","state"],
 (.ret (.call "stepped" (.cons (.fld (.var 0 "self") "program") (.cons (.fld (.var 0 "self") "asked") (.cons (.var 1 "state") .nil)))))⟩
noncomputable def aU:Fn:=⟨["self","moment","state"],["self","moment","state"],
 (.ret (.or (.cmp .ge (.var 1 "moment") (.fld (.var 0 "self") "most")) (.call "is_over" (.cons (.fld (.var 0 "self") "program") (.cons (.var 2 "state") .nil)))))⟩
noncomputable def bP:Fn:=⟨["self","state"],["self","state"],
 (.seq (.ex (.me .append (.fld (.var 0 "self") "kept") (.cons (.var 1 "state") .nil)))
 (.ife (.cmp .gt (.bi .len false (.cons (.fld (.var 0 "self") "kept") .nil)) (.glo "MOST_MARKS")) (.seq (.setf (.var 0 "self") "kept" (.stp true 2 (.fld (.var 0 "self") "kept")))
 (.augf (.var 0 "self") "gap" .mul (.cst (.int 2)))) .nil))⟩
noncomputable def bW:Fn:=⟨["self","moment"],["self","moment"],
 (.whl (.and (.cmp .lt (.fld (.var 0 "self") "farthest") (.var 1 "moment")) (.not (.meth (.var 0 "self") "is_last" (.cons (.fld (.var 0 "self") "farthest") (.cons (.fld (.var 0 "self") "front") .nil))))) (.seq (.setf (.var 0 "self") "front" (.meth (.var 0 "self") "behind" (.cons (.fld (.var 0 "self") "front") .nil)))
 (.seq (.augf (.var 0 "self") "farthest" .add (.cst (.int 1)))
 (.ife (.cmp .eq (.bin .mod (.fld (.var 0 "self") "farthest") (.fld (.var 0 "self") "gap")) (.cst (.int 0))) (.ex (.meth (.var 0 "self") "keep" (.cons (.fld (.var 0 "self") "front") .nil))) .nil))))⟩
noncomputable def cG:Fn:=⟨["self","moment"],["self","moment"],
 (.seq (.ife (.or (.not (.call "is_whole" (.cons (.var 1 "moment") .nil))) (.or (.cmp .lt (.var 1 "moment") (.cst (.int 0))) (.cmp .gt (.var 1 "moment") (.fld (.var 0 "self") "most")))) (.ret (.cst (.bl false))) .nil)
 (.seq (.ex (.meth (.var 0 "self") "reach" (.cons (.var 1 "moment") .nil)))
 (.ret (.cmp .le (.var 1 "moment") (.fld (.var 0 "self") "farthest")))))⟩
noncomputable def bX:Fn:=⟨["self","moment"],["self","moment"],
 (.ife (.not (.meth (.var 0 "self") "has" (.cons (.var 1 "moment") .nil))) .bad .nil)⟩
structure TpP (T:FK->Option Fn) (G:Str->Option W):Prop where
 prg:Prg T G
 is_whole:T "is_whole"=some dP
 init:T (.m "Tape" "__init__")=some cO
 behind:T (.m "Tape" "behind")=some bO
 is_last:T (.m "Tape" "is_last")=some aU
 keep:T (.m "Tape" "keep")=some bP
 reach:T (.m "Tape" "reach")=some bW
 has:T (.m "Tape" "has")=some cG
 check:T (.m "Tape" "check")=some bX
 at_:T (.m "Tape" "at")=some eX
 MOST_MARKS:G "MOST_MARKS"=some (.p (.int 8))
section
variable {T:FK->Option Fn}{G:Str->Option W}
theorem jv (P:TpP T G) (k:Nat) (i:Int) (h:HH):runN T G (k+1) "is_whole" [.p (.int i)] h=some (.p (.bl true),h):=by
 rw[run_eq P.is_whole rfl]
 simp[dP,ai]
theorem eY (P:TpP T G) (k:Nat) {n r:Nat}{t:Tp}{h:HH} (a:TAt h n r t) (hp:Pg.ok t.p) {j:Nat}{st:St} (hj:j<=5000) (at_:At j st) (hb:over t.p st=false):runN T G (k+7) (.m "Tape" "behind") [.o n,.p st.enc] h=some (.p (step t.p t.asked st).enc,h):=by
 rw[run_eq P.behind rfl]
 have s:=qm P.prg k t.p hp t.asked st at_.ok (at_.small hj) hb
 simp[bO,a.ob,s,ai]
theorem dR (P:TpP T G) (k:Nat) {n r:Nat}{t:Tp}{h:HH} (a:TAt h n r t) (mo:Nat) (st:St):runN T G (k+2) (.m "Tape" "is_last") [.o n,.p (.int mo),.p st.enc] h=some (.p (.bl (decide (t.most<=mo)||over t.p st)),h):=by
 rw[run_eq P.is_last rfl]
 have o:=qk P.prg k t.p st
 by_cases c:t.most<=mo
 ·have c1:(t.most:Int)<=(mo:Int):=by omega
  simp[aU,a.ob,c,c1,ai]
 ·have c1:¬ (t.most:Int)<=(mo:Int):=by omega
  simp[aU,a.ob,o,c,c1,ai]
theorem zL:SY (Pa none none (some 2) 9).1 (Pa none none (some 2) 9).2.1 (Pa none none (some 2) 9).2.2=[0,2,4,6,8]:=by decide +kernel
theorem GO (x0 x1 x2 x3 x4 x5 x6 x7 x8:D):pP 2 [x0,x1,x2,x3,x4,x5,x6,x7,x8]=[x0,x2,x4,x6,x8]:=by
 show (SY (Pa none none (some 2) 9).1 (Pa none none (some 2) 9).2.1 (Pa none none (some 2) 9).2.2).filterMap _=_
 rw[zL];rfl
noncomputable def Tp.keep (t:Tp) (st:St):Tp:=if t.kept.length < 8 then { t with kept:=t.kept++[st] } else { t with kept:=(O8 5).filterMap fun i=>(t.kept++[st])[2*i]?,gap:=2*t.gap }
theorem zM (P:TpP T G) (k:Nat) {n r:Nat}{t:Tp}{h:HH} (a:TAt h n r t) (hg:t.gap<=100000) (hl:t.kept.length<=8) (st:St) :
 ∃ h' r',runN T G (k+1) (.m "Tape" "keep") [.o n,.p st.enc] h=some (.p .non,h')/\Go n h r t h' r' (t.keep st):=by
 have nr:=D8 a.ob a.li
 have hn:=jS a.ob
 have hr:=jT a.li
 have e1:lat (h.set r (Cl.l (t.kept.map St.enc++[st.enc]))) r=some (t.kept.map St.enc++[st.enc]):=qw hr _
 have e2:oat (h.set r (Cl.l (t.kept.map St.enc++[st.enc]))) n=some (OT "Tape",t.fs r):=(lI nr _).trans a.ob
 have l0:t.kept.length < 100000:=by omega
 by_cases c:t.kept.length < 8
 ·have c1:¬ (8:Int) < (t.kept.length:Int)+1:=by omega
  have go:Go n h r t (h.set r (Cl.l (t.kept.map St.enc++[st.enc]))) r (t.keep st):=by
   refine ⟨a,⟨?_,?_⟩,.inl ⟨by simp,rfl⟩,by simp,fun i h1 h2 h3=>Pd (PD h2)⟩
   ·rw[Tp.keep,if_pos c];exact e2
   ·rw[Tp.keep,if_pos c,e1];simp
  refine ⟨_,r,?_,go⟩
  rw[run_eq P.keep rfl]
  have f:=bF go (.p .non)
  simp[bP,a.ob,a.li,e1,e2,P.MOST_MARKS,rd,c1,l0,f]
 ·have c8:t.kept.length=8:=by omega
  obtain ⟨x0,x1,x2,x3,x4,x5,x6,x7,ek⟩:∃ x0 x1 x2 x3 x4 x5 x6 x7,t.kept=[x0,x1,x2,x3,x4,x5,x6,x7]:=by
   match t.kept,c8 with
   | [x0,x1,x2,x3,x4,x5,x6,x7],_=>exact ⟨x0,x1,x2,x3,x4,x5,x6,x7,rfl⟩
  have ev:pP 2 (t.kept.map St.enc++[st.enc])=((t.keep st).kept).map St.enc:=by
   rw[Tp.keep,if_neg c,ek]
   exact GO _ _ _ _ _ _ _ _ _
  have c1:(8:Int) < (t.kept.length:Int)+1:=by omega
  have e3:∀ g:HH,oat ((h.set r (Cl.l (t.kept.map St.enc++[st.enc])))++g) n=some (OT "Tape",t.fs r):=fun g=>(tZ (by simpa using hn)).trans e2
  have e4:(h.set r (Cl.l (t.kept.map St.enc++[st.enc]))).length=h.length:=by simp
  have b0:big (t.gap:Int)=true:=by unfold big;exact decide_eq_true (by omega)
  have go:Go n h r t ((h.set r (Cl.l (t.kept.map St.enc++[st.enc]))++[Cl.l ((t.keep st).kept.map St.enc)]).set n (.o "Tape" ((t.keep st).fs h.length))) h.length (t.keep st):=by
   have hn2:n < (h.set r (Cl.l (t.kept.map St.enc++[st.enc]))++[Cl.l ((t.keep st).kept.map St.enc)]).length:=by simp;omega
   refine ⟨a,⟨ju hn2 _,?_⟩,.inr (OE _),by simp,fun i h1 h2 h3=>?_⟩
   ·rw[iQ (PD (O3 hn))]
    have:=M8 (h.set r (Cl.l (t.kept.map St.enc++[st.enc]))) (Cl.l ((t.keep st).kept.map St.enc)) []
    rw[e4] at this
    exact this
   ·rw[Pd (PD h1),OH (by simpa using h3),Pd (PD h2)]
  refine ⟨_,_,?_,go⟩
  rw[run_eq P.keep rfl]
  have f:=bF go (.p .non)
  have k2:(t.keep st).fs h.length=({ t with gap:=2*t.gap }:Tp).fs h.length:=by
   rw[Tp.keep,if_neg c];rfl
  have pk:bz "gap" (.p (.int ((t.gap:Int)*2))) (t.fs h.length)=(t.keep st).fs h.length:=by
   rw[k2,← CU t h.length (2*t.gap)]
   congr 3
   show (t.gap:Int)*2=((2*t.gap:Nat):Int)
   omega
  have hn2:n < (h.set r (Cl.l (t.kept.map St.enc++[st.enc]))++[Cl.l ((t.keep st).kept.map St.enc)]).length:=by simp;omega
  have e5:=ju hn2 (.o "Tape" (t.fs h.length))
  rw[E2] at e5
  have s2:∀ x y:Cl,((h.set r (Cl.l (t.kept.map St.enc++[st.enc]))++[Cl.l ((t.keep st).kept.map St.enc)]).set n x).set n y=(h.set r (Cl.l (t.kept.map St.enc++[st.enc]))++[Cl.l ((t.keep st).kept.map St.enc)]).set n y:=fun x y=>by rw[UM]
  simp[bP,a.ob,a.li,e1,e2,e3,e4,P.MOST_MARKS,rd,c1,l0,ev,zI,e5,b0,pk,s2,f]
end
end BT
end
section
namespace BT
open PySem
structure TI (t:Tp) (e ev:Nat):Prop where
 run:Run t.p t.asked t.most e
 ok:Pg.ok t.p
 ask:Ask t.asked
 g0:0 < t.gap
 g1:t.gap<=1000
 m1:t.most<=1000
 far:t.far<=e
 front:t.front=itr t.p t.asked t.far
 len:t.kept.length=t.far / t.gap+1
 l8:t.kept.length<=8
 kept:∀ j,j < t.kept.length->t.kept[j]?=some (itr t.p t.asked (j*t.gap))
 now:t.now<=t.far
 pw:∃ j,t.gap=ev*2 ^ j/\(0 < j->8<=t.far / (t.gap / 2))
structure Sm8 (t t':Tp):Prop where
 p:t'.p=t.p
 asked:t'.asked=t.asked
 most:t'.most=t.most
 now:t'.now=t.now
theorem Sm8.refl (t:Tp):Sm8 t t:=⟨rfl,rfl,rfl,rfl⟩
theorem Sm8.trans {t u v:Tp} (x:Sm8 t u) (y:Sm8 u v):Sm8 t v:=⟨y.p.trans x.p,y.asked.trans x.asked,y.most.trans x.most,y.now.trans x.now⟩
noncomputable def Tp.on (t:Tp):Tp:={ t with front:=step t.p t.asked t.front,far:=t.far+1 }
noncomputable def Tp.nx (t:Tp):Tp:=if (t.far+1) % t.gap=0 then t.on.keep t.on.front else t.on
theorem zN {f g:Nat} (hg:0 < g) (c:¬ (f+1) % g=0):(f+1) / g=f / g:=by
 have h1:=SB f g
 have h2:f % g < g:=SC _ hg
 have e:f+1=g*(f / g)+(f % g+1):=by omega
 have h3:f % g+1 < g:=by
  rcases OR (f % g+1) g with z | z
  ·exact z
  ·exfalso;apply c
   have:f % g+1=g:=by omega
   rw[e,this,Nat.mul_add_mod,Nat.mod_self]
 rw[e,Nat.mul_add_div hg,Nat.div_eq_of_lt h3];omega
theorem zO {f g:Nat} (hg:0 < g) (c:(f+1) % g=0):(f+1) / g=f / g+1/\(f / g+1)*g=f+1:=by
 have h1:=SB f g
 have h2:f % g < g:=SC _ hg
 have h3:f % g+1=g:=by
  rcases OR (f % g+1) g with z | z
  ·exfalso
   have e:f+1=g*(f / g)+(f % g+1):=by omega
   rw[e,Nat.mul_add_mod,Nat.mod_eq_of_lt z] at c
   omega
  ·omega
 have e:f+1=(f / g+1)*g:=by rw[Nat.add_mul,Q4 (f / g) g];omega
 exact ⟨by rw[e,Te _ hg],e.symm⟩
theorem TI.nx {t:Tp}{e ev:Nat} (I:TI t e ev) (h:t.far < e):TI t.nx e ev/\Sm8 t t.nx/\t.nx.far=t.far+1:=by
 have g0:=I.g0
 have hf:step t.p t.asked t.front=itr t.p t.asked (t.far+1):=by rw[I.front];rfl
 have mono:∀ g:Nat,t.far / g<=(t.far+1) / g:=fun g=>SE (P9 _)
 unfold Tp.nx
 by_cases c:(t.far+1) % t.gap=0
 ·rw[if_pos c]
  obtain ⟨d1,d2⟩:=zO g0 c
  have hfr:t.on.front=itr t.p t.asked (t.far+1):=hf
  have kp:∀ j,j < t.kept.length+1->(t.kept++[itr t.p t.asked (t.far+1)])[j]?=some (itr t.p t.asked (j*t.gap)):=fun j hj=>by
   rcases OR j t.kept.length with z | z
   ·rw[OH z];exact I.kept j z
   ·have ej:j=t.kept.length:=by omega
    subst ej
    rw[OU (OE _),Nat.sub_self]
    have:t.kept.length*t.gap=t.far+1:=by rw[I.len];exact d2
    rw[this];rfl
  unfold Tp.keep
  by_cases c2:t.kept.length < 8
  ·have c2':t.on.kept.length < 8:=c2
   rw[if_pos c2']
   refine ⟨⟨I.run,I.ok,I.ask,g0,I.g1,I.m1,h,hf,?_,?_,fun j hj=>?_,?_,?_⟩,⟨rfl,rfl,rfl,rfl⟩,rfl⟩
   ·show (t.kept++[t.on.front]).length=(t.far+1) / t.gap+1
    rw[d1,OS,I.len];rfl
   ·show (t.kept++[t.on.front]).length<=8
    rw[OS];simp;omega
   ·have hj':j < t.kept.length+1:=by
     have:(t.kept++[t.on.front]).length=t.kept.length+1:=by simp
     rw[← this];exact hj
    show (t.kept++[t.on.front])[j]?=some (itr t.p t.asked (j*t.gap))
    rw[hfr];exact kp j hj'
   ·show t.now<=t.far+1;have:=I.now;omega
   ·obtain ⟨j,h1,h2⟩:=I.pw
    exact ⟨j,h1,fun hj=>Ph (h2 hj) (mono _)⟩
  ·have c2':¬ t.on.kept.length < 8:=c2
   rw[if_neg c2']
   have l8:t.kept.length=8:=by have:=I.l8;omega
   have f8:t.far+1=8*t.gap:=by rw[← d2,← I.len,l8]
   have le:=I.run.le
   have m1:=I.m1
   have hk:∀ i,i < 5->(t.kept++[itr t.p t.asked (t.far+1)])[2*i]?=some (itr t.p t.asked (i*(2*t.gap))):=fun i hi=>by
    rw[kp (2*i) (by omega)]
    congr 2
    rw[Q4 2 i,Nat.mul_assoc]
   have ek:(O8 5).filterMap (fun i=>(t.kept++[t.on.front])[2*i]?)=(O8 5).map fun i=>itr t.p t.asked (i*(2*t.gap)):=by
    rw[hfr,show O8 5=[0,1,2,3,4] from rfl]
    simp only[O9,List.filterMap_nil,hk 0 (by decide),hk 1 (by decide),hk 2 (by decide),hk 3 (by decide),hk 4 (by decide),O0,QK]
   have dv:(t.far+1) / (2*t.gap)=4:=by
    rw[f8,show 8*t.gap=4*(2*t.gap) by omega]
    exact Te _ (by omega)
   refine ⟨⟨I.run,I.ok,I.ask,?_,?_,I.m1,h,hf,?_,?_,fun j hj=>?_,?_,?_⟩,⟨rfl,rfl,rfl,rfl⟩,rfl⟩
   ·show 0 < 2*t.gap;omega
   ·show 2*t.gap<=1000;omega
   ·show ((O8 5).filterMap fun i=>(t.kept++[t.on.front])[2*i]?).length=(t.far+1) / (2*t.gap)+1
    rw[ek,dv];simp
   ·show ((O8 5).filterMap fun i=>(t.kept++[t.on.front])[2*i]?).length<=8
    rw[ek];simp
   ·have hj':j < 5:=by
     have q:j < ((O8 5).filterMap fun i=>(t.kept++[t.on.front])[2*i]?).length:=hj
     rw[ek] at q;simpa using q
    show ((O8 5).filterMap fun i=>(t.kept++[t.on.front])[2*i]?)[j]?=some (itr t.p t.asked (j*(2*t.gap)))
    rw[ek,O2,QB hj'];rfl
   ·show t.now<=t.far+1;have:=I.now;omega
   ·obtain ⟨j,h1,h2⟩:=I.pw
    refine ⟨j+1,?_,fun _=>?_⟩
    ·show 2*t.gap=ev*2 ^ (j+1)
     rw[h1,Nat.pow_succ];rw[Q4 2,Nat.mul_assoc]
    ·show 8<=(t.far+1) / (2*t.gap / 2)
     rw[Nat.mul_div_cancel_left _ (by omega:0 < 2),f8,Te _ g0]
     exact OE _
 ·rw[if_neg c]
  refine ⟨⟨I.run,I.ok,I.ask,g0,I.g1,I.m1,h,hf,?_,I.l8,I.kept,?_,?_⟩,⟨rfl,rfl,rfl,rfl⟩,rfl⟩
  ·show t.kept.length=(t.far+1) / t.gap+1
   rw[I.len,zN g0 c]
  ·show t.now<=t.far+1;have:=I.now;omega
  ·obtain ⟨j,h1,h2⟩:=I.pw
   exact ⟨j,h1,fun hj=>Ph (h2 hj) (mono _)⟩
section
variable {T:FK->Option Fn}{G:Str->Option W}
noncomputable def rcC:E:=(.and (.cmp .lt (.fld (.var 0 "self") "farthest") (.var 1 "moment")) (.not (.meth (.var 0 "self") "is_last" (.cons (.fld (.var 0 "self") "farthest") (.cons (.fld (.var 0 "self") "front") .nil)))))
noncomputable def rcB:S:=(.seq (.setf (.var 0 "self") "front" (.meth (.var 0 "self") "behind" (.cons (.fld (.var 0 "self") "front") .nil)))
 (.seq (.augf (.var 0 "self") "farthest" .add (.cst (.int 1)))
 (.ife (.cmp .eq (.bin .mod (.fld (.var 0 "self") "farthest") (.fld (.var 0 "self") "gap")) (.cst (.int 0))) (.ex (.meth (.var 0 "self") "keep" (.cons (.fld (.var 0 "self") "front") .nil))) .nil)))
theorem d9 (t:Tp) (r:Nat):aX "is_last" (t.fs r)=none:=b9 t r rfl
theorem fN (t:Tp) (r:Nat):aX "behind" (t.fs r)=none:=b9 t r rfl
theorem GP (t:Tp) (r:Nat):aX "keep" (t.fs r)=none:=b9 t r rfl
theorem ua (t:Tp) (r:Nat):aX "reach" (t.fs r)=none:=b9 t r rfl
theorem uc (t:Tp) (r:Nat):aX "has" (t.fs r)=none:=b9 t r rfl
theorem ud (t:Tp) (r:Nat):aX "check" (t.fs r)=none:=b9 t r rfl
theorem CY (t:Tp) (r:Nat):aX "at" (t.fs r)=none:=b9 t r rfl
theorem D9 (t:Tp) (r:Nat):aX "end" (t.fs r)=none:=b9 t r rfl
theorem JP {n r:Nat}{t:Tp}{h:HH} (a:TAt h n r t) (t':Tp) (k:t'.kept=t.kept):Go n h r t (h.set n (.o "Tape" (t'.fs r))) r t':=by
 have hn:=jS a.ob
 have nr:=D8 a.ob a.li
 exact ⟨a,⟨ju hn _,by rw[iQ (PD nr),k];exact a.li⟩,.inl ⟨by simp,rfl⟩,by simp,fun i h1 _ _=>Pd (PD h1)⟩
theorem CZ (P:TpP T G) (k:Nat) {n r:Nat}{t:Tp}{h:HH}{e ev:Nat} (a:TAt h n r t) (I:TI t e ev) (hl:t.far < e) (w:W) :
 ∃ h' r',evS (runN T G (k+7)) G rcB [some (.o n),some w] h=some (.nx [some (.o n),some w] h')/\Go n h r t h' r' t.nx:=by
 have hn:=jS a.ob
 have atf:=jR I.ok I.ask I.run t.far (by omega)
 have le:=I.run.le
 have m1:=I.m1
 have bh:=eY P k a I.ok (j:=t.far) (st:=t.front) (by omega) (by rw[I.front];exact atf) (by rw[I.front];exact I.run.on _ hl)
 have go1:=JP a t.on rfl
 have e1:oat (h.set n (.o "Tape" (({ t with front:=step t.p t.asked t.front }:Tp).fs r))) n=some (OT "Tape",({ t with front:=step t.p t.asked t.front }:Tp).fs r):=ju hn _
 have pf:=v8 t r (step t.p t.asked t.front)
 have pa:bz "farthest" (.p (.int ((t.far:Int)+1))) (({ t with front:=step t.p t.asked t.front }:Tp).fs r)=t.on.fs r:=CV ({ t with front:=step t.p t.asked t.front }:Tp) r (t.far+1)
 have e2:oat (h.set n (.o "Tape" (t.on.fs r))) n=some (OT "Tape",t.on.fs r):=ju hn _
 have g0:(0:Int) < (t.gap:Int):=by have:=I.g0;omega
 have s2:∀ x y:Cl,(h.set n x).set n y=h.set n y:=fun x y=>by rw[UM]
 have of:t.on.far=t.far+1:=rfl
 have og:t.on.gap=t.gap:=rfl
 have pre:evS (runN T G (k+7)) G rcB [some (.o n),some w] h=evS (runN T G (k+7)) G (.ife (.cmp .eq (.bin .mod (.fld (.var 0 "self") "farthest") (.fld (.var 0 "self") "gap")) (.cst (.int 0))) (.ex (.meth (.var 0 "self") "keep" (.cons (.fld (.var 0 "self") "front") .nil))) .nil) [some (.o n),some w] (h.set n (.o "Tape" (t.on.fs r))):=by
  rw[rcB]
  simp[a.ob,bh,fN,pf,e1,pa,s2]
 rw[pre]
 unfold Tp.nx
 have cm:(((t.far+1) % t.gap:Nat):Int)=((t.far:Int)+1) % (t.gap:Int):=by simp
 by_cases c:(t.far+1) % t.gap=0
 ·rw[if_pos c]
  have c1:((t.far:Int)+1) % (t.gap:Int)=0:=by omega
  obtain ⟨h2,r2,k1,k2⟩:=zM P (k+6) go1.b (by show t.gap<=100000;have:=I.g1;omega) (by show t.kept.length<=8;exact I.l8) t.on.front
  refine ⟨h2,r2,?_,go1.trans k2⟩
  simp[e2,of,og,g0,I.g0,c1,GP,k1]
 ·rw[if_neg c]
  have c1:¬ ((t.far:Int)+1) % (t.gap:Int)=0:=by omega
  refine ⟨_,r,?_,go1⟩
  have c2:(((t.far:Int)+1) % (t.gap:Int)==0)=false:=by simpa using c1
  simp[e2,of,og,g0,I.g0,c2]
theorem oH (P:TpP T G) (k:Nat) {n r:Nat}{t:Tp}{h:HH}{e ev:Nat} (a:TAt h n r t) (I:TI t e ev) (m:Nat) :
 BT.ev (runN T G (k+7)) G rcC [some (.o n),some (.p (.int m))] h=some (.p (.bl (decide (t.far < min m e))),h):=by
 have il:=dR P (k+5) a t.far t.front
 have le:=I.run.le
 by_cases c:t.far < m
 ·have c1:(t.far:Int) < (m:Int):=by omega
  by_cases c2:t.far < e
  ·have o:over t.p t.front=false:=by rw[I.front];exact I.run.on _ c2
   have q:(decide (t.most<=t.far)||over t.p t.front)=false:=by
    rw[o,S9];exact decide_eq_false (by omega)
   rw[q] at il
   have d:decide (t.far < min m e)=true:=decide_eq_true (by omega)
   rw[d]
   simp[rcC,a.ob,c1,c,d9,il]
  ·have fe:t.far=e:=by have:=I.far;omega
   have q:(decide (t.most<=t.far)||over t.p t.front)=true:=by
    rcases I.run.last with z | z
    ·rw[decide_eq_true (by omega)];rfl
    ·rw[I.front,fe,z,Bool.or_true]
   rw[q] at il
   have d:decide (t.far < min m e)=false:=decide_eq_false (by omega)
   rw[d]
   simp[rcC,a.ob,c1,c,d9,il]
 ·have c1:¬ (t.far:Int) < (m:Int):=by omega
  have d:decide (t.far < min m e)=false:=decide_eq_false (by omega)
  rw[d]
  simp[rcC,a.ob,c1,c]
theorem C1 (P:TpP T G) (k:Nat) (n:Nat) (e ev m:Nat):∀ (d f:Nat) (h:HH) (r:Nat) (t:Tp),TAt h n r t->TI t e ev->min m e - t.far<=d->d<=f →
 ∃ h' r' t',aP (BT.ev (runN T G (k+7)) G rcC) (evS (runN T G (k+7)) G rcB) (f+1) [some (.o n),some (.p (.int m))] h=some (.nx [some (.o n),some (.p (.int m))] h')/\Go n h r t h' r' t'/\TI t' e ev/\Sm8 t t'/\t'.far=max t.far (min m e):=by
 intro d
 induction d with
 | zero =>
  intro f h r t a I hd hf
  have q:=oH P k a I m
  rw[decide_eq_false (by omega)] at q
  refine ⟨h,r,t,?_,.refl a,I,.refl t,by omega⟩
  rw[aP,q,cg,fV]
 | succ d ih =>
  intro f h r t a I hd hf
  by_cases c:t.far < min m e
  ·have q:=oH P k a I m
   rw[decide_eq_true c] at q
   obtain ⟨h1,r1,b1,g1⟩:=CZ P k a I (by omega) (.p (.int m))
   obtain ⟨I1,s1,f1⟩:=I.nx (by omega)
   cases f with
   | zero=>omega
   | succ f =>
    obtain ⟨h2,r2,t2,b2,g2,I2,s2,f2⟩:=ih f h1 r1 t.nx g1.b I1 (by omega) (by omega)
    refine ⟨h2,r2,t2,?_,g1.trans g2,I2,s1.trans s2,by omega⟩
    rw[aP,q,cg,gq,b1,bM,b2]
  ·have q:=oH P k a I m
   rw[decide_eq_false c] at q
   refine ⟨h,r,t,?_,.refl a,I,.refl t,by omega⟩
   rw[aP,q,cg,fV]
theorem qx:bW=⟨["self","moment"],["self","moment"],.whl rcC rcB⟩:=rfl
theorem nj (P:TpP T G) (k:Nat) {n r:Nat}{t:Tp}{h:HH}{e ev:Nat} (a:TAt h n r t) (I:TI t e ev) (m:Nat) :
 ∃ h' r' t',runN T G (k+8) (.m "Tape" "reach") [.o n,.p (.int m)] h=some (.p .non,h')/\Go n h r t h' r' t'/\TI t' e ev/\Sm8 t t'/\t'.far=max t.far (min m e):=by
 have le:=I.run.le
 have m1:=I.m1
 obtain ⟨h',r',t',b,g,I',s,f⟩:=C1 P k n e ev m 99999 99999 h r t a I (by omega) (OE _)
 refine ⟨h',r',t',?_,g,I',s,f⟩
 rw[run_eq P.reach rfl,qx]
 have fn:=bF g (.p .non)
 simp[turns,b,fn]
theorem ue (P:TpP T G) (k:Nat) {n r:Nat}{t:Tp}{h:HH}{e ev:Nat} (a:TAt h n r t) (I:TI t e ev) (m:Nat) (hm:m<=t.most) :
 ∃ h' r' t',runN T G (k+9) (.m "Tape" "has") [.o n,.p (.int m)] h=some (.p (.bl (decide (m<=e))),h')/\Go n h r t h' r' t'/\TI t' e ev/\Sm8 t t'/\t'.far=max t.far (min m e):=by
 obtain ⟨h',r',t',b,g,I',s,f⟩:=nj P k a I m
 refine ⟨h',r',t',?_,g,I',s,f⟩
 rw[run_eq P.has rfl]
 have w:=jv P (k+7) m
 have c1:¬ ((m:Int) < 0):=by omega
 have c2:¬ ((t.most:Int) < (m:Int)):=by omega
 have fn:=fun w=>bF g w
 have far:=I.far
 have d:decide ((m:Int)<=(t'.far:Int))=decide (m<=e):=by
  by_cases c:m<=e
  ·rw[decide_eq_true c];exact decide_eq_true (by omega)
  ·rw[decide_eq_false c];exact decide_eq_false (by omega)
 simp[cG,w,c1,a.ob,c2,ua,b,g.b.ob,fn]
 simpa using d
theorem nk (P:TpP T G) (k:Nat) {n r:Nat}{t:Tp}{h:HH}{e ev:Nat} (a:TAt h n r t) (I:TI t e ev) (m:Nat) (hm:m<=e) :
 ∃ h' r' t',runN T G (k+10) (.m "Tape" "check") [.o n,.p (.int m)] h=some (.p .non,h')/\Go n h r t h' r' t'/\TI t' e ev/\Sm8 t t'/\t'.far=max t.far m:=by
 obtain ⟨h',r',t',b,g,I',s,f⟩:=ue P k a I m (Ph hm I.run.le)
 rw[decide_eq_true hm] at b
 refine ⟨h',r',t',?_,g,I',s,by omega⟩
 rw[run_eq P.check rfl]
 have fn:=bF g (.p .non)
 simp[bX,a.ob,uc,b,fn]
noncomputable def atB:S:=(.set 2 "state" (.meth (.var 0 "self") "behind" (.cons (.var 2 "state") .nil)))
theorem uf (P:TpP T G) (k:Nat) {n r:Nat}{t:Tp}{h:HH}{e ev:Nat} (a:TAt h n r t) (I:TI t e ev) (w1:W):∀ (q j:Nat) (x:Option W) (lo:Int),j+q<=e →
 ∃ x',aQ (evS (runN T G (k+7)) G atB) [(3,"step")] (upto lo q) [some (.o n),some w1,some (.p (itr t.p t.asked j).enc),x] h=some (.nx [some (.o n),some w1,some (.p (itr t.p t.asked (j+q)).enc),x'] h)
 | 0,j,x,lo,_=>⟨x,rfl⟩
 | q+1,j,x,lo,hj=>by
  have le:=I.run.le
  have m1:=I.m1
  obtain ⟨x',b⟩:=uf P k a I w1 q (j+1) (some (.p (.int lo))) (lo+1) (by omega)
  refine ⟨x',?_⟩
  have bh:=eY P k a I.ok (j:=j) (st:=itr t.p t.asked j) (by omega) (jR I.ok I.ask I.run j (by omega)) (I.run.on j (by omega))
  have up:upto lo (q+1)=.int lo :: upto (lo+1) q:=by
   unfold upto
   rw[Sk,O0,Qc]
   simp only[Int.natCast_zero,Int.add_zero,Ro,true_and]
   apply Qh
   intro i _
   simp;omega
  rw[up]
  have s1:step t.p t.asked (itr t.p t.asked j)=itr t.p t.asked (j+1):=rfl
  rw[s1] at bh
  have ej:j+1+q=j+(q+1):=by omega
  rw[ej] at b
  have hb:evS (runN T G (k+7)) G atB [some (.o n),some w1,some (.p (itr t.p t.asked j).enc),some (.p (.int lo))] h=some (.nx [some (.o n),some w1,some (.p (itr t.p t.asked (j+1)).enc),some (.p (.int lo))] h):=by
   simp[atB,a.ob,fN,bh]
  simp[hb,b]
theorem zP:eX=⟨["self","moment"],["self","moment","state","step"],(.seq (.ex (.meth (.var 0 "self") "check" (.cons (.var 1 "moment") .nil)))
 (.seq (.set 2 "state" (.idx (.fld (.var 0 "self") "kept") (.bin .fdiv (.var 1 "moment") (.fld (.var 0 "self") "gap"))))
 (.seq (.for [(3,"step")] .rng1 (.cons (.bin .mod (.var 1 "moment") (.fld (.var 0 "self") "gap")) .nil) atB)
 (.ret (.var 2 "state")))))⟩:=rfl
theorem rT (P:TpP T G) (k:Nat) {n r:Nat}{t:Tp}{h:HH}{e ev:Nat} (a:TAt h n r t) (I:TI t e ev) (m:Nat) (hm:m<=e) :
 ∃ h' r' t',runN T G (k+11) (.m "Tape" "at") [.o n,.p (.int m)] h=some (.p (itr t.p t.asked m).enc,h')/\Go n h r t h' r' t'/\TI t' e ev/\Sm8 t t'/\t'.far=max t.far m:=by
 obtain ⟨h',r',t',b,g,I',s,f⟩:=nk P k a I m hm
 refine ⟨h',r',t',?_,g,I',s,f⟩
 rw[run_eq P.at_ rfl,zP]
 have fn:=fun w=>bF g w
 have g0:=I'.g0
 have g1:=I'.g1
 have dm:=SB m t'.gap
 have md:=SC m g0
 have hq:m / t'.gap < t'.kept.length:=by
  rw[I'.len]
  have:m / t'.gap<=t'.far / t'.gap:=SE (by omega)
  omega
 have hk:=I'.kept _ hq
 have le:=I'.run.le
 have m1:=I'.m1
 rw[s.p,s.asked] at hk
 have gz:(0:Int) < (t'.gap:Int):=by omega
 have gm:(t'.gap:Int) < 1073741824:=by omega
 have e1:(m:Int) / (t'.gap:Int)=((m / t'.gap:Nat):Int):=by simp
 have e2:(m:Int) % (t'.gap:Int)=((m % t'.gap:Nat):Int):=by simp
 have ix:aD (.lst (t'.kept.map St.enc)) (.int ((m / t'.gap:Nat):Int))=some (itr t.p t.asked (m / t'.gap*t'.gap)).enc:=by
  show atP _ _=_
  rw[ig,O2,hk];rfl
 obtain ⟨x',lp⟩:=uf P (k+3) g.b I' (.p (.int m)) (m % t'.gap) (m / t'.gap*t'.gap) none 0 (by rw[Q4];omega)
 rw[s.p,s.asked] at lp
 have em:m / t'.gap*t'.gap+m % t'.gap=m:=by rw[Q4];exact dm
 rw[em] at lp
 have rg:dH .rng1 [.int ((m % t'.gap:Nat):Int)]=some (upto 0 (m % t'.gap)):=by
  rw[bI]
  have c:((-100000<=(((m % t'.gap:Nat):Int)):Bool)&&(((m % t'.gap:Nat):Int)<=100000:Bool))=true:=by
   simp only[OC,decide_eq_true_eq];omega
  rw[if_pos c];rfl
 simp[-aW,-bI,-Int.natCast_ediv,-Int.natCast_emod,a.ob,ud,b,g.b.ob,g.b.li,rd,gz,g0,gm,e1,e2,ix,rg,f6,lp,fn]
end
end BT
end
section
namespace BT
open PySem
section
variable {T:FK->Option Fn}{G:Str->Option W}
theorem zQ {h h':HH} (i:Nat) (hi:i < h.length) (ne:h'[i]?≠h[i]?) (w:W):fin h w h'=some (w,h'):=by
 unfold fin
 by_cases c:h'.length=h.length
 ·rw[if_pos c]
 ·rw[if_neg c,if_neg]
  intro z
  apply ne
  have q:=Q3 (l:=h') hi
  rw[z] at q
  exact q.symm
noncomputable def Tp.new (p:Pg) (asked:List Int) (ev most:Nat):Tp:=⟨p,asked,ev,most,[St.zero],0,St.zero,0⟩
theorem zR (P:TpP T G) (k:Nat) (p:Pg) (asked:List Int) (ev most:Nat) (hv:1<=ev) (h:HH) :
 runN T G (k+2) (.m "Tape" "__init__") [.o h.length,.p (bq p),.p (.lst (aa asked)),.p (.int ev),.p (.int most)] (h++[.o "Tape" []])=some (.p .non,h++[.o "Tape" ((Tp.new p asked ev most).fs (h.length+1)),.l [St.zero.enc]]):=by
 rw[run_eq P.init rfl]
 have b:=vW P.prg k
 have c0:(if (1:Int) > (ev:Int) then (1:Int) else (ev:Int))=(ev:Int):=if_neg (by omega)
 have c1:(if (0:Int) > (most:Int) then (0:Int) else (most:Int))=(most:Int):=if_neg (by omega)
 have f:∀ (c:Cl) (g:HH) (w:W),c≠.o "Tape" []->fin (h++[.o "Tape" []]) w (h++c :: g)=some (w,h++c :: g):=fun c g w hc=>by
  refine zQ h.length (by simp) ?_ w
  simp
  exact hc
 have f2:=f (.o "Tape" ((Tp.new p asked ev most).fs (h.length+1))) [.l [St.zero.enc]] (.p .non) (by simp[Tp.fs])
 have fs:(Tp.new p asked ev most).fs (h.length+1)=([("program",.p (bq p)),("asked",.p (.lst (aa asked))),("gap",.p (.int ev)),("most",.p (.int most)),("kept",.r (h.length+1)),("farthest",.p (.int 0)),("front",.p St.zero.enc),("now",.p (.int 0))]:List (Str×W)):=by simp[Tp.fs,Tp.new]
 rw[fs] at f2 ⊢
 rw[cO]
 simp only[fB,O0,QK,OZ,PN]
 simp[c0,c1,b,f2]
theorem GQ {p:Pg}{asked:List Int}{ev most e:Nat} (hp:Pg.ok p) (ha:Ask asked) (R:Run p asked most e) (h1:1<=ev) (h2:ev<=1000) (h3:most<=1000):TI (Tp.new p asked ev most) e ev :=
 ⟨R,hp,ha,h1,h2,h3,Pq _,rfl,by simp[Tp.new],by simp[Tp.new],fun j hj=>by
  have:j=0:=by simpa [Tp.new] using hj
  subst this
  simp[Tp.new,itr],Pq _,⟨0,by simp[Tp.new],fun z=>absurd z (Pi _)⟩⟩
theorem GR (h:HH) (p:Pg) (asked:List Int) (ev most:Nat):TAt (h++[.o "Tape" ((Tp.new p asked ev most).fs (h.length+1)),.l [St.zero.enc]]) h.length (h.length+1) (Tp.new p asked ev most) :=
 ⟨by simp,by simp[Tp.new]⟩
theorem TAt.app {h g:HH}{n r:Nat}{t:Tp} (a:TAt h n r t):TAt (h++g) n r t:=⟨(tZ (jS a.ob)).trans a.ob,(CW (jT a.li)).trans a.li⟩
end
end BT
end
section
namespace BT
open PySem
noncomputable def ffC:E:=(.not (.callv 2 "test" (.cons (.var 3 "state") .nil)))
noncomputable def ffB:S:=(.seq (.ife (.meth (.var 0 "self") "is_last" (.cons (.var 1 "moment") (.cons (.var 3 "state") .nil))) (.ret (.cst .non)) .nil)
 (.seq (.set 3 "state" (.meth (.var 0 "self") "behind" (.cons (.var 3 "state") .nil)))
 (.aug 1 "moment" .add (.cst (.int 1)))))
noncomputable def aS:Fn:=⟨["self","moment","test"],["self","moment","test","state"],
 (.seq (.set 3 "state" (.meth (.var 0 "self") "at" (.cons (.var 1 "moment") .nil)))
 (.seq (.whl ffC ffB)
 (.ret (.var 1 "moment"))))⟩
noncomputable def ltC:E:=(.and (.cmp .isN (.var 3 "found") (.cst .non)) (.cmp .ge (.var 1 "moment") (.cst (.int 0))))
noncomputable def ltB:S:=(.seq (.set 4 "mark" (.bin .sub (.var 1 "moment") (.bin .mod (.var 1 "moment") (.fld (.var 0 "self") "gap"))))
 (.seq (.set 3 "found" (.meth (.var 0 "self") "last_between" (.cons (.var 4 "mark") (.cons (.var 1 "moment") (.cons (.var 2 "test") .nil)))))
 (.set 1 "moment" (.bin .sub (.var 4 "mark") (.cst (.int 1))))))
noncomputable def bH:Fn:=⟨["self","moment","test"],["self","moment","test","found","mark"],
 (.seq (.ex (.meth (.var 0 "self") "check" (.cons (.var 1 "moment") .nil)))
 (.seq (.set 3 "found" (.cst .non))
 (.seq (.whl ltC ltB)
 (.ret (.var 3 "found")))))⟩
noncomputable def lbB:S:=(.seq (.ife (.cmp .gt (.var 6 "number") (.var 1 "mark")) (.set 4 "state" (.meth (.var 0 "self") "behind" (.cons (.var 4 "state") .nil))) .nil)
 (.ife (.callv 3 "test" (.cons (.var 4 "state") .nil)) (.set 5 "found" (.var 6 "number")) .nil))
noncomputable def aI:Fn:=⟨["self","mark","moment","test"],["self","mark","moment","test","state","found","number"],
 (.seq (.set 4 "state" (.idx (.fld (.var 0 "self") "kept") (.bin .fdiv (.var 1 "mark") (.fld (.var 0 "self") "gap"))))
 (.seq (.set 5 "found" (.cst .non))
 (.seq (.for [(6,"number")] .rng2 (.cons (.var 1 "mark") (.cons (.bin .add (.var 2 "moment") (.cst (.int 1))) .nil)) lbB)
 (.ret (.var 5 "found")))))⟩
structure TpF (T:FK->Option Fn):Prop where
 first:T (.m "Tape" "first_from")=some aS
structure TpB (T:FK->Option Fn):Prop where
 last:T (.m "Tape" "last_to")=some bH
 betw:T (.m "Tape" "last_between")=some aI
structure TpL (T:FK->Option Fn):Prop where
 f:TpF T
 b:TpB T
noncomputable def bY:Option Nat->D
 | none=>.non
 | some j=>.int j
@[simp] theorem zS:bY none=.non:=rfl
@[simp] theorem GS (j:Nat):bY (some j)=.int j:=rfl
structure FF (g:Nat->Bool) (m e:Nat) (o:Option Nat):Prop where
 yes:∀ j,o=some j->m<=j/\j<=e/\g j=true/\∀ i,m<=i->i < j->g i=false
 no:o=none->∀ i,m<=i->i<=e->g i=false
structure FL (g:Nat->Bool) (a b:Nat) (o:Option Nat):Prop where
 yes:∀ j,o=some j->a<=j/\j<=b/\g j=true/\∀ i,j < i->i<=b->g i=false
 no:o=none->∀ i,a<=i->i<=b->g i=false
section
variable {T:FK->Option Fn}{G:Str->Option W}
noncomputable def Tst (T:FK->Option Fn) (G:Str->Option W) (n:Nat) (t:Tp) (q:FK) (cs:List Cp) (g:Nat->Bool) (e:Nat):Prop :=
 ∀ k h r t',TAt h n r t'->Sm8 t t'->∀ i,i<=e->runN T G (k+10) q (.p (itr t.p t.asked i).enc :: cs.map Cp.w) h=some (.p (.bl (g i)),h)
theorem ug (t:Tp) (r:Nat):aX "first_from" (t.fs r)=none:=b9 t r rfl
theorem zT (t:Tp) (r:Nat):aX "last_to" (t.fs r)=none:=b9 t r rfl
theorem GT (t:Tp) (r:Nat):aX "last_between" (t.fs r)=none:=b9 t r rfl
theorem oJ {p:Pg}{asked:List Int}{most e:Nat} (R:Run p asked most e) {m:Nat} (h:m<=e):(decide (most<=m)||over p (itr p asked m))=decide (m=e):=by
 have le:=R.le
 by_cases c:m=e
 ·rw[decide_eq_true c]
  rcases R.last with z | z
  ·rw[decide_eq_true (by omega)];rfl
  ·rw[c,z,Bool.or_true]
 ·rw[decide_eq_false c,R.on m (by omega),decide_eq_false (by omega)];rfl
theorem C2 (P:TpP T G) (k:Nat) {n r:Nat}{t:Tp}{h:HH}{e ev:Nat} (a:TAt h n r t) (I:TI t e ev) {t0:Tp} (s0:Sm8 t0 t) {q:FK}{cs:List Cp}{g:Nat->Bool} (tt:Tst T G n t0 q cs g e):∀ (d f m:Nat),e - m=d->d < f->m<=e →
 ∃ o,FF g m e o/\(∀ j,o=some j->aP (BT.ev (runN T G (k+10)) G ffC) (evS (runN T G (k+10)) G ffB) f [some (.o n),some (.p (.int m)),some (.c q cs),some (.p (itr t.p t.asked m).enc)] h=some (.nx [some (.o n),some (.p (.int j)),some (.c q cs),some (.p (itr t.p t.asked j).enc)] h)) ∧
  (o=none->aP (BT.ev (runN T G (k+10)) G ffC) (evS (runN T G (k+10)) G ffB) f [some (.o n),some (.p (.int m)),some (.c q cs),some (.p (itr t.p t.asked m).enc)] h=some (.rt (.p .non) h)):=by
 intro d
 induction d with
 | zero =>
  intro f m hd hf hm
  have em:m=e:=by omega
  cases f with
  | zero=>omega
  | succ f =>
   have t1:=tt k h r t a s0 m hm
   rw[← s0.p,← s0.asked] at t1
   have ts:BT.ev (runN T G (k+10)) G ffC [some (.o n),some (.p (.int m)),some (.c q cs),some (.p (itr t.p t.asked m).enc)] h=some (.p (.bl (!g m)),h):=by
    simp[ffC,t1]
   cases gm:g m with
   | true =>
    rw[gm] at ts
    refine ⟨some m,⟨fun j e1=>by cases e1;exact ⟨OE _,hm,gm,fun i h1 h2=>by omega⟩,fun z=>by cases z⟩,fun j e1=>?_,fun z=>by cases z⟩
    cases e1
    rw[aP,ts,Uv,cg,fV]
   | false =>
    rw[gm] at ts
    refine ⟨none,⟨fun j e1=>(by cases e1),fun _ i h1 h2=>by rw[show i=m by omega];exact gm⟩,fun j e1=>(by cases e1),fun _=>?_⟩
    have il:=dR P (k+8) a m (itr t.p t.asked m)
    rw[oJ I.run hm,decide_eq_true em] at il
    have bd:evS (runN T G (k+10)) G ffB [some (.o n),some (.p (.int m)),some (.c q cs),some (.p (itr t.p t.asked m).enc)] h=some (.rt (.p .non) h):=by
     simp[ffB,a.ob,d9,il]
    rw[aP,ts,Bool.not_false,cg,gq,bd,xY]
 | succ d ih =>
  intro f m hd hf hm
  cases f with
  | zero=>omega
  | succ f =>
   have t1:=tt k h r t a s0 m hm
   rw[← s0.p,← s0.asked] at t1
   have ts:BT.ev (runN T G (k+10)) G ffC [some (.o n),some (.p (.int m)),some (.c q cs),some (.p (itr t.p t.asked m).enc)] h=some (.p (.bl (!g m)),h):=by
    simp[ffC,t1]
   cases gm:g m with
   | true =>
    rw[gm] at ts
    refine ⟨some m,⟨fun j e1=>by cases e1;exact ⟨OE _,hm,gm,fun i h1 h2=>by omega⟩,fun z=>by cases z⟩,fun j e1=>?_,fun z=>by cases z⟩
    cases e1
    rw[aP,ts,Uv,cg,fV]
   | false =>
    rw[gm] at ts
    obtain ⟨o,F,y,nn⟩:=ih f (m+1) (by omega) (by omega) (by omega)
    have il:=dR P (k+8) a m (itr t.p t.asked m)
    rw[oJ I.run hm,decide_eq_false (by omega)] at il
    have le:=I.run.le
    have m1:=I.m1
    have bh:=eY P (k+3) a I.ok (j:=m) (st:=itr t.p t.asked m) (by omega) (jR I.ok I.ask I.run m hm) (I.run.on m (by omega))
    have s1:step t.p t.asked (itr t.p t.asked m)=itr t.p t.asked (m+1):=rfl
    rw[s1] at bh
    have em:(m:Int)+1=((m+1:Nat):Int):=by omega
    have bd:evS (runN T G (k+10)) G ffB [some (.o n),some (.p (.int m)),some (.c q cs),some (.p (itr t.p t.asked m).enc)] h=some (.nx [some (.o n),some (.p (.int ((m+1:Nat):Int))),some (.c q cs),some (.p (itr t.p t.asked (m+1)).enc)] h):=by
     simp[ffB,a.ob,d9,il,fN,bh]
    have wl:∀ z,aP (BT.ev (runN T G (k+10)) G ffC) (evS (runN T G (k+10)) G ffB) f [some (.o n),some (.p (.int ((m+1:Nat):Int))),some (.c q cs),some (.p (itr t.p t.asked (m+1)).enc)] h=z->aP (BT.ev (runN T G (k+10)) G ffC) (evS (runN T G (k+10)) G ffB) (f+1) [some (.o n),some (.p (.int m)),some (.c q cs),some (.p (itr t.p t.asked m).enc)] h=z:=fun z e1=>by
     rw[aP,ts,Bool.not_false,cg,gq,bd,bM,e1]
    refine ⟨o,⟨fun j e1=>?_,fun z i h1 h2=>?_⟩,fun j e1=>wl _ (y j e1),fun z=>wl _ (nn z)⟩
    ·obtain ⟨q1,q2,q3,q4⟩:=F.yes j e1
     refine ⟨by omega,q2,q3,fun i h1 h2=>?_⟩
     by_cases c:i=m
     ·rw[c];exact gm
     ·exact q4 i (by omega) h2
    ·by_cases c:i=m
     ·rw[c];exact gm
     ·exact F.no z i (by omega) h2
theorem v9 (P:TpP T G) (L:TpF T) (k:Nat) {n r:Nat}{t:Tp}{h:HH}{e ev:Nat} (a:TAt h n r t) (I:TI t e ev) {q:FK}{cs:List Cp}{g:Nat->Bool} (tt:Tst T G n t q cs g e) (m:Nat) (hm:m<=e) :
 ∃ o h' r' t',runN T G (k+12) (.m "Tape" "first_from") [.o n,.p (.int m),.c q cs] h=some (.p (bY o),h')/\FF g m e o/\Go n h r t h' r' t'/\TI t' e ev/\Sm8 t t':=by
 obtain ⟨h',r',t',b,g1,I',s,f⟩:=rT P k a I m hm
 have le:=I.run.le
 have m1:=I.m1
 obtain ⟨o,F,y,nn⟩:=C2 P (k+1) g1.b I' s tt (e - m) 100000 m rfl (by omega) hm
 refine ⟨o,h',r',t',?_,F,g1,I',s⟩
 rw[s.p,s.asked] at y nn
 rw[run_eq L.first rfl,aS]
 have fn:=fun w=>bF g1 w
 cases o with
 | none =>
  have w1:=nn rfl
  simp[a.ob,CY,b,turns,w1,fn]
 | some j =>
  have w1:=y j rfl
  simp[a.ob,CY,b,turns,w1,fn]
theorem fY (lo:Int) (q:Nat):upto lo (q+1)=.int lo :: upto (lo+1) q:=by
 unfold upto
 rw[Sk,O0,Qc]
 simp only[Int.natCast_zero,Int.add_zero,Ro,true_and]
 apply Qh
 intro i _
 simp;omega
theorem uh (P:TpP T G) (k:Nat) {n r:Nat}{t:Tp}{h:HH}{e ev:Nat} (A:TAt h n r t) (I:TI t e ev) {t0:Tp} (s0:Sm8 t0 t) {q:FK}{cs:List Cp}{g:Nat->Bool}{E:Nat} (tt:Tst T G n t0 q cs g E) (a:Nat) (w2:W):∀ (c j:Nat) (o:Option Nat) (x:Option W),a<=j->j+c<=e->j+c<=E->FL g a j o →
 ∃ o' x',aQ (evS (runN T G (k+10)) G lbB) [(6,"number")] (upto ((j+1:Nat):Int) c) [some (.o n),some (.p (.int a)),some w2,some (.c q cs),some (.p (itr t.p t.asked j).enc),some (.p (bY o)),x] h =
  some (.nx [some (.o n),some (.p (.int a)),some w2,some (.c q cs),some (.p (itr t.p t.asked (j+c)).enc),some (.p (bY o')),x'] h)/\FL g a (j+c) o'
 | 0,j,o,x,_,_,_,F=>⟨o,x,rfl,F⟩
 | c+1,j,o,x,h1,h2,h2',F=>by
  have le:=I.run.le
  have m1:=I.m1
  have t1:=tt k h r t A s0 (j+1) (by omega)
  rw[← s0.p,← s0.asked] at t1
  have bh:=eY P (k+3) A I.ok (j:=j) (st:=itr t.p t.asked j) (by omega) (jR I.ok I.ask I.run j (by omega)) (I.run.on j (by omega))
  have s1:step t.p t.asked (itr t.p t.asked j)=itr t.p t.asked (j+1):=rfl
  rw[s1] at bh
  have gt:(a:Int) < ((j+1:Nat):Int):=by omega
  have F1:FL g a (j+1) (if g (j+1)=true then some (j+1) else o):=by
   by_cases c1:g (j+1)=true
   ·rw[if_pos c1]
    exact ⟨fun i e1=>by cases e1;exact ⟨by omega,OE _,c1,fun i h3 h4=>by omega⟩,fun z=>by cases z⟩
   ·rw[if_neg c1]
    have c2:g (j+1)=false:=by simpa using c1
    refine ⟨fun i e1=>?_,fun z i h3 h4=>?_⟩
    ·obtain ⟨q1,q2,q3,q4⟩:=F.yes i e1
     refine ⟨q1,by omega,q3,fun i' h3 h4=>?_⟩
     by_cases c3:i'=j+1
     ·rw[c3];exact c2
     ·exact q4 i' h3 (by omega)
    ·by_cases c3:i=j+1
     ·rw[c3];exact c2
     ·exact F.no z i h3 (by omega)
  obtain ⟨o',x',b,F'⟩:=uh P k A I s0 tt a w2 c (j+1) _ (some (.p (.int ((j+1:Nat):Int)))) (by omega) (by omega) (by omega) F1
  have ej:j+1+c=j+(c+1):=by omega
  rw[ej] at b F'
  refine ⟨o',x',?_,F'⟩
  have bd:evS (runN T G (k+10)) G lbB [some (.o n),some (.p (.int a)),some w2,some (.c q cs),some (.p (itr t.p t.asked j).enc),some (.p (bY o)),some (.p (.int ((j+1:Nat):Int)))] h =
   some (.nx [some (.o n),some (.p (.int a)),some w2,some (.c q cs),some (.p (itr t.p t.asked (j+1)).enc),some (.p (bY (if g (j+1)=true then some (j+1) else o))),some (.p (.int ((j+1:Nat):Int)))] h):=by
   generalize hz:((j+1:Nat):Int)=z at gt
   have ez:∀ i:Nat,i=j+1->(D.int (i:Int))=D.int z:=fun i e1=>by rw[e1,hz]
   cases g1:g (j+1) with
   | true =>
    rw[g1] at t1
    simp[lbB,gt,A.ob,fN,bh,t1,hz]
   | false =>
    rw[g1] at t1
    simp[lbB,gt,A.ob,fN,bh,t1]
  have e1:((j+1:Nat):Int)+1=((j+1+1:Nat):Int):=by omega
  rw[fY,e1]
  have st:∀ (d:D) (l:List D) (s':Sl) (w:Option W),aQ (evS (runN T G (k+10)) G lbB) [(6,"number")] (d :: l) [some (.o n),some (.p (.int a)),some w2,some (.c q cs),some (.p (itr t.p t.asked j).enc),some (.p (bY o)),w] h =
   fJ (evS (runN T G (k+10)) G lbB [some (.o n),some (.p (.int a)),some w2,some (.c q cs),some (.p (itr t.p t.asked j).enc),some (.p (bY o)),some (.p d)] h) (aQ (evS (runN T G (k+10)) G lbB) [(6,"number")] l):=fun d l s' w=>rfl
  rw[st _ _ [] x,bd,bM,b]
theorem zU (P:TpP T G) (L:TpB T) (k:Nat) {n r:Nat}{t:Tp}{h:HH}{e ev:Nat} (A:TAt h n r t) (I:TI t e ev) {t0:Tp} (s0:Sm8 t0 t) {q:FK}{cs:List Cp}{g:Nat->Bool}{E:Nat} (tt:Tst T G n t0 q cs g E) (a m:Nat) (h1:a<=m) (h2:m<=t.far) (hE:m<=E) (h3:a % t.gap=0) :
 ∃ o,runN T G (k+11) (.m "Tape" "last_between") [.o n,.p (.int a),.p (.int m),.c q cs] h=some (.p (bY o),h)/\FL g a m o:=by
 have le:=I.run.le
 have m1:=I.m1
 have fr:=I.far
 have g0:=I.g0
 have g1':=I.g1
 have t1:=tt k h r t A s0 a (by omega)
 rw[← s0.p,← s0.asked] at t1
 have F0:FL g a a (if g a=true then some a else none):=by
  by_cases c:g a=true
  ·rw[if_pos c];exact ⟨fun i e1=>by cases e1;exact ⟨OE _,OE _,c,fun i h3 h4=>by omega⟩,fun z=>by cases z⟩
  ·rw[if_neg c];exact ⟨fun i e1=>(by cases e1),fun _ i h3 h4=>by rw[show i=a by omega];simpa using c⟩
 obtain ⟨o,x',b,F⟩:=uh P k A I s0 tt a (.p (.int m)) (m - a) a _ (some (.p (.int (a:Int)))) (OE _) (by omega) (by omega) F0
 rw[show a+(m - a)=m by omega] at b F
 refine ⟨o,?_,F⟩
 rw[run_eq L.betw rfl,aI]
 have hq:a / t.gap < t.kept.length:=by
  rw[I.len]
  have:a / t.gap<=t.far / t.gap:=SE (by omega)
  omega
 have hk:=I.kept _ hq
 have ea:a / t.gap*t.gap=a:=Nat.div_mul_cancel (Nat.dvd_of_mod_eq_zero h3)
 rw[ea] at hk
 have e1:(a:Int) / (t.gap:Int)=((a / t.gap:Nat):Int):=by simp
 have ix:aD (.lst (t.kept.map St.enc)) (.int ((a / t.gap:Nat):Int))=some (itr t.p t.asked a).enc:=by
  show atP _ _=_
  rw[ig,O2,hk];rfl
 have gz:(0:Int) < (t.gap:Int):=by omega
 have gm:(t.gap:Int) < 1073741824:=by omega
 have rg:dH .rng2 [.int (a:Int),.int ((m:Int)+1)]=some (.int (a:Int) :: upto ((a+1:Nat):Int) (m - a)):=by
  rw[gS]
  have c:((-100000<=(a:Int):Bool)&&((a:Int)<=100000:Bool)&&((-100000<=(m:Int)+1:Bool))&&(((m:Int)+1<=100000:Bool)))=true:=by
   simp only[OC,decide_eq_true_eq];omega
  rw[if_pos c,show ((m:Int)+1 - (a:Int)).toNat=(m - a)+1 by omega,fY]
  rfl
 have bd:evS (runN T G (k+10)) G lbB [some (.o n),some (.p (.int a)),some (.p (.int m)),some (.c q cs),some (.p (itr t.p t.asked a).enc),some (.p .non),some (.p (.int (a:Int)))] h =
  some (.nx [some (.o n),some (.p (.int a)),some (.p (.int m)),some (.c q cs),some (.p (itr t.p t.asked a).enc),some (.p (bY (if g a=true then some a else none))),some (.p (.int (a:Int)))] h):=by
  cases g1:g a with
  | true=>rw[g1] at t1;simp[lbB,t1]
  | false=>rw[g1] at t1;simp[lbB,t1]
 have st:∀ (d:D) (l:List D) (w:Option W),aQ (evS (runN T G (k+10)) G lbB) [(6,"number")] (d :: l) [some (.o n),some (.p (.int a)),some (.p (.int m)),some (.c q cs),some (.p (itr t.p t.asked a).enc),some (.p .non),w] h =
  fJ (evS (runN T G (k+10)) G lbB [some (.o n),some (.p (.int a)),some (.p (.int m)),some (.c q cs),some (.p (itr t.p t.asked a).enc),some (.p .non),some (.p d)] h) (aQ (evS (runN T G (k+10)) G lbB) [(6,"number")] l):=fun d l w=>rfl
 have lp:aQ (evS (runN T G (k+10)) G lbB) [(6,"number")] (.int (a:Int) :: upto ((a+1:Nat):Int) (m - a)) [some (.o n),some (.p (.int a)),some (.p (.int m)),some (.c q cs),some (.p (itr t.p t.asked a).enc),some (.p .non),none] h=some (.nx [some (.o n),some (.p (.int a)),some (.p (.int m)),some (.c q cs),some (.p (itr t.p t.asked m).enc),some (.p (bY o)),x'] h):=by
  rw[st,bd,bM,b]
 generalize upto ((a+1:Nat):Int) (m - a)=ll at rg lp
 simp[-aW,-gS,-Int.natCast_ediv,A.ob,A.li,rd,gz,g0,gm,e1,ix,rg,f6,-aQ,lp,ai]
theorem um (P:TpP T G) (L:TpB T) (k:Nat) {n r:Nat}{t:Tp}{h:HH}{e ev:Nat} (A:TAt h n r t) (I:TI t e ev) {t0:Tp} (s0:Sm8 t0 t) {q:FK}{cs:List Cp}{g:Nat->Bool}{E:Nat} (tt:Tst T G n t0 q cs g E) (M:Nat) (hM:M<=t.far) (hE:M<=E):∀ (f mm:Nat) (o:Option Nat) (x:Option W),mm < f->mm<=M+1 →
 (o=none->∀ i,mm<=i->i<=M->g i=false)->(∀ j,o=some j->FL g 0 M (some j)) →
 ∃ o' y x',aP (BT.ev (runN T G (k+11)) G ltC) (evS (runN T G (k+11)) G ltB) f [some (.o n),some (.p (.int ((mm:Int) - 1))),some (.c q cs),some (.p (bY o)),x] h=some (.nx [some (.o n),y,some (.c q cs),some (.p (bY o')),x'] h)/\FL g 0 M o'
 | 0,mm,o,x,hf,_,_,_=>absurd hf (SA _)
 | f+1,mm,some j,x,hf,hm,i1,i2=>by
  refine ⟨some j,some (.p (.int ((mm:Int) - 1))),x,?_,i2 j rfl⟩
  have ts:BT.ev (runN T G (k+11)) G ltC [some (.o n),some (.p (.int ((mm:Int) - 1))),some (.c q cs),some (.p (bY (some j))),x] h=some (.p (.bl false),h):=by simp[ltC]
  rw[aP,ts,cg,fV]
 | f+1,0,none,x,hf,hm,i1,i2=>by
  refine ⟨none,some (.p (.int (((0:Nat):Int) - 1))),x,?_,⟨fun j z=>(by cases z),fun _ i h1 h2=>i1 rfl i h1 h2⟩⟩
  have ts:BT.ev (runN T G (k+11)) G ltC [some (.o n),some (.p (.int (((0:Nat):Int) - 1))),some (.c q cs),some (.p (bY none)),x] h=some (.p (.bl false),h):=by simp[ltC]
  rw[aP,ts,cg,fV]
 | f+1,m+1,none,x,hf,hm,i1,i2=>by
  have e0:((m+1:Nat):Int) - 1=(m:Int):=by omega
  rw[e0]
  have ts:BT.ev (runN T G (k+11)) G ltC [some (.o n),some (.p (.int (m:Int))),some (.c q cs),some (.p (bY none)),x] h=some (.p (.bl true),h):=by simp[ltC]
  have g0:=I.g0
  have dm:=SB m t.gap
  have md:=SC m g0
  have mk:(m - m % t.gap) % t.gap=0:=by
   have:m - m % t.gap=t.gap*(m / t.gap):=by omega
   rw[this];exact Nat.mul_mod_right _ _
  obtain ⟨o1,b1,F1⟩:=zU P L k A I s0 tt (m - m % t.gap) m (by omega) (by omega) (by omega) mk
  have hmm:m % t.gap<=m:=Nat.mod_le _ _
  have em:(m:Int) - (m:Int) % (t.gap:Int)=((m - m % t.gap:Nat):Int):=by
   have:(m:Int) % (t.gap:Int)=((m % t.gap:Nat):Int):=by simp
   rw[this];omega
  have gz:(0:Int) < (t.gap:Int):=by omega
  have bd:evS (runN T G (k+11)) G ltB [some (.o n),some (.p (.int (m:Int))),some (.c q cs),some (.p (bY none)),x] h=some (.nx [some (.o n),some (.p (.int (((m - m % t.gap:Nat):Int) - 1))),some (.c q cs),some (.p (bY o1)),some (.p (.int ((m - m % t.gap:Nat):Int)))] h):=by
   generalize hz:((m - m % t.gap:Nat):Int)=z at b1 em
   simp[ltB,A.ob,gz,g0,em,GT,b1]
  obtain ⟨o',y,x',b2,F2⟩:=um P L k A I s0 tt M hM hE f (m - m % t.gap) o1 (some (.p (.int ((m - m % t.gap:Nat):Int)))) (by omega) (by omega) (fun z i h1 h2=>by
   by_cases c:i<=m
   ·exact F1.no z i h1 c
   ·exact i1 rfl i (by omega) h2) (fun j z=>by
   obtain ⟨q1,q2,q3,q4⟩:=F1.yes j z
   refine ⟨fun j' z'=>?_,fun z'=>by cases z'⟩
   cases z'
   refine ⟨Pq _,by omega,q3,fun i h1 h2=>?_⟩
   by_cases c:i<=m
   ·exact q4 i h1 c
   ·exact i1 rfl i (by omega) h2)
  refine ⟨o',y,x',?_,F2⟩
  rw[aP,ts,cg,gq,bd,bM,b2]
theorem zV (P:TpP T G) (L:TpB T) (k:Nat) {n r:Nat}{t:Tp}{h:HH}{e ev:Nat} (a:TAt h n r t) (I:TI t e ev) {q:FK}{cs:List Cp}{g:Nat->Bool}{E:Nat} (tt:Tst T G n t q cs g E) (m:Nat) (hm:m<=e) (hE:m<=E) :
 ∃ o h' r' t',runN T G (k+12) (.m "Tape" "last_to") [.o n,.p (.int m),.c q cs] h=some (.p (bY o),h')/\FL g 0 m o/\Go n h r t h' r' t'/\TI t' e ev/\Sm8 t t':=by
 obtain ⟨h',r',t',b,g1,I',s,f⟩:=nk P (k+1) a I m hm
 have le:=I.run.le
 have m1:=I.m1
 obtain ⟨o,y,x',w1,F⟩:=um P L k g1.b I' s tt m (by omega) hE 100000 (m+1) none none (by omega) (OE _) (fun _ i h1 h2=>by omega) (fun j z=>by cases z)
 refine ⟨o,h',r',t',?_,F,g1,I',s⟩
 rw[run_eq L.last rfl,bH]
 have fn:=fun w=>bF g1 w
 have e0:((m+1:Nat):Int) - 1=(m:Int):=by omega
 rw[e0] at w1
 simp only[zS] at w1
 simp[a.ob,ud,b,turns,w1,fn]
structure TpE (T:FK->Option Fn):Prop where
 end_:T (.m "Tape" "end")=some dQ
theorem qy (P:TpP T G) (M:TpE T) (k:Nat) {n r:Nat}{t:Tp}{h:HH}{e ev:Nat} (a:TAt h n r t) (I:TI t e ev) :
 ∃ h' r' t',runN T G (k+9) (.m "Tape" "end") [.o n] h=some (.p (.int e),h')/\Go n h r t h' r' t'/\TI t' e ev/\Sm8 t t'/\t'.far=e:=by
 obtain ⟨h',r',t',b,g,I',s,f⟩:=nj P k a I t.most
 have le:=I.run.le
 have fr:=I.far
 have fe:t'.far=e:=by omega
 refine ⟨h',r',t',?_,g,I',s,fe⟩
 rw[run_eq M.end_ rfl]
 have fn:=fun w=>bF g w
 simp[dQ,a.ob,ua,b,g.b.ob,fe,fn]
end
end BT
end
section
namespace BT
open PySem
noncomputable def eZ:Fn:=⟨["state"],["state"],
 (.ret (.bi .len false (.cons (.idx (.var 0 "state") (.glo "CALLS")) .nil)))⟩
noncomputable def gK:Fn:=⟨["tape","moment"],["tape","moment"],
 (.ret (.call "open_in" (.cons (.meth (.var 0 "tape") "at" (.cons (.var 1 "moment") .nil)) .nil)))⟩
noncomputable def aJ:Fn:=⟨["tape","moment","bound"],["tape","moment","bound","found","<next_within>"],
 (.seq (.ife (.not (.meth (.var 0 "tape") "has" (.cons (.bin .add (.var 1 "moment") (.cst (.int 1))) .nil))) (.ret (.var 1 "moment")) .nil)
 (.seq (.set 3 "found" (.methL (.var 0 "tape") "first_from" (.cons (.bin .add (.var 1 "moment") (.cst (.int 1))) .nil) 9 [(2,"bound")]))
 (.ret (.ite (.cmp .isN (.var 3 "found") (.cst .non)) (.meth (.var 0 "tape") "end" .nil) (.var 3 "found")))))⟩
noncomputable def aK:Fn:=⟨["tape","moment","bound"],["tape","moment","bound","found","<last_within>"],
 (.seq (.ife (.cmp .eq (.var 1 "moment") (.cst (.int 0))) (.ret (.cst (.int 0))) .nil)
 (.seq (.set 3 "found" (.methL (.var 0 "tape") "last_to" (.cons (.bin .sub (.var 1 "moment") (.cst (.int 1))) .nil) 10 [(2,"bound")]))
 (.ret (.ite (.cmp .isN (.var 3 "found") (.cst .non)) (.cst (.int 0)) (.var 3 "found")))))⟩
noncomputable def jw:Fn:=⟨["tape","moment"],["tape","moment"],
 (.ret (.call "next_within" (.cons (.var 0 "tape") (.cons (.var 1 "moment") (.cons (.call "depth" (.cons (.var 0 "tape") (.cons (.var 1 "moment") .nil))) .nil)))))⟩
noncomputable def lJ:Fn:=⟨["tape","moment"],["tape","moment"],
 (.ret (.call "next_within" (.cons (.var 0 "tape") (.cons (.var 1 "moment") (.cons (.bin .sub (.call "depth" (.cons (.var 0 "tape") (.cons (.var 1 "moment") .nil))) (.cst (.int 1))) .nil)))))⟩
noncomputable def cQ:Fn:=⟨["tape","moment"],["tape","moment"],
 (.ret (.call "last_within" (.cons (.var 0 "tape") (.cons (.var 1 "moment") (.cons (.call "depth" (.cons (.var 0 "tape") (.cons (.var 1 "moment") .nil))) .nil)))))⟩
noncomputable def dS:Fn:=⟨["tape","moment"],["tape","moment"],
 (.ret (.call "last_within" (.cons (.var 0 "tape") (.cons (.var 1 "moment") (.cons (.bin .sub (.call "depth" (.cons (.var 0 "tape") (.cons (.var 1 "moment") .nil))) (.cst (.int 1))) .nil)))))⟩
structure WkP (T:FK->Option Fn) (G:Str->Option W):Prop where
 open_in:T "open_in"=some eZ
 depth:T "depth"=some gK
 next:T "next_within"=some aJ
 last:T "last_within"=some aK
 l9:T (.l 9)=some Bw
 l10:T (.l 10)=some sL
structure WkQ (T:FK->Option Fn):Prop where
 over:T "over"=some jw
 out:T "out"=some lJ
 back_over:T "back_over"=some cQ
 back_out:T "back_out"=some dS
noncomputable def dep (t:Tp) (i:Nat):Nat:=(itr t.p t.asked i).calls.length
section
variable {T:FK->Option Fn}{G:Str->Option W}
theorem fy (P:TpP T G) (Wk:WkP T G) (k:Nat) (st:St) (h:HH):runN T G (k+1) "open_in" [.p st.enc] h=some (.p (.int st.calls.length),h):=by
 rw[run_eq Wk.open_in rfl]
 have e:aD st.enc (.int 3)=some (.tup (af st.calls)):=rfl
 have l:biD .len [.tup (af st.calls)]=some (.int st.calls.length):=by simp[af]
 simp[-jJ,eZ,P.prg.CALLS,e,l,ai]
theorem dj (P:TpP T G) (Wk:WkP T G) (k:Nat) {n r:Nat}{t:Tp}{h:HH}{e ev:Nat} (a:TAt h n r t) (I:TI t e ev) (m:Nat) (hm:m<=e) :
 ∃ h' r' t',runN T G (k+12) "depth" [.o n,.p (.int m)] h=some (.p (.int (dep t m)),h')/\Go n h r t h' r' t'/\TI t' e ev/\Sm8 t t':=by
 obtain ⟨h',r',t',b,g,I',s,f⟩:=rT P k a I m hm
 refine ⟨h',r',t',?_,g,I',s⟩
 rw[run_eq Wk.depth rfl]
 have fn:=fun w=>bF g w
 have o:=fy P Wk (k+10) (itr t.p t.asked m) h'
 simp[gK,a.ob,CY,b,o,fn,dep]
theorem zW (P:TpP T G) (k:Nat) {n r:Nat}{t:Tp}{h:HH}{e ev:Nat} (a:TAt h n r t) (I:TI t e ev) (m:Nat) :
 ∃ h' r' t',runN T G (k+9) (.m "Tape" "has") [.o n,.p (.int m)] h=some (.p (.bl (decide (m<=e))),h')/\Go n h r t h' r' t'/\TI t' e ev/\Sm8 t t':=by
 by_cases c:m<=t.most
 ·obtain ⟨h',r',t',b,g,I',s,_⟩:=ue P k a I m c
  exact ⟨h',r',t',b,g,I',s⟩
 ·refine ⟨h,r,t,?_,.refl a,I,.refl t⟩
  have le:=I.run.le
  rw[decide_eq_false (by omega),run_eq P.has rfl]
  have w:=jv P (k+7) m
  have c1:¬ ((m:Int) < 0):=by omega
  have c2:((t.most:Int) < (m:Int)):=by omega
  have c3:t.most < m:=by omega
  simp[cG,w,c1,a.ob,c2,c3,ai]
noncomputable def wi (t:Tp) (b:Int):Nat->Bool:=fun i=>decide ((dep t i:Int)<=b)
theorem Nf (P:TpP T G) (Wk:WkP T G) (n:Nat) (t:Tp) (b:Int) (e:Nat):Tst T G n t (.l 9) [.p (.int b)] (wi t b) e:=fun k h r t' a s i hi=>by
 rw[run_eq (k:=k+9) Wk.l9 rfl]
 have o:=fy P Wk (k+8) (itr t.p t.asked i) h
 simp[Bw,o,ai,wi,dep]
 exact decide_eq_decide.mpr Iff.rfl
theorem JQ (P:TpP T G) (Wk:WkP T G) (n:Nat) (t:Tp) (b:Int) (e:Nat):Tst T G n t (.l 10) [.p (.int b)] (wi t b) e:=fun k h r t' a s i hi=>by
 rw[run_eq (k:=k+9) Wk.l10 rfl]
 have o:=fy P Wk (k+8) (itr t.p t.asked i) h
 simp[sL,o,ai,wi,dep]
 exact decide_eq_decide.mpr Iff.rfl
structure NX (g:Nat->Bool) (m e j:Nat):Prop where
 le:m<=j
 le2:j<=e
 lt:m < e->m < j
 yes:j≠e->g j=true
 gap:∀ i,m < i->i < j->g i=false
structure BX (g:Nat->Bool) (m j:Nat):Prop where
 le:j<=m
 lt:0 < m->j < m
 yes:j≠0->g j=true
 gap:∀ i,j < i->i < m->g i=false
theorem qz (P:TpP T G) (M:TpE T) (L:TpL T) (Wk:WkP T G) (k:Nat) {n r:Nat}{t:Tp}{h:HH}{e ev:Nat} (a:TAt h n r t) (I:TI t e ev) (m:Nat) (hm:m<=e) (b:Int) :
 ∃ j h' r' t',runN T G (k+13) "next_within" [.o n,.p (.int m),.p (.int b)] h=some (.p (.int ((j:Nat):Int)),h')/\NX (wi t b) m e j/\Go n h r t h' r' t'/\TI t' e ev/\Sm8 t t':=by
 obtain ⟨h1,r1,t1,b1,g1,I1,s1⟩:=zW P (k+3) a I (m+1)
 have e1:(m:Int)+1=((m+1:Nat):Int):=by omega
 by_cases c:m+1<=e
 ·rw[decide_eq_true c] at b1
  have tt:=Nf P Wk n t1 b e
  have ew:wi t1 b=wi t b:=by unfold wi dep;rw[s1.p,s1.asked]
  rw[ew] at tt
  obtain ⟨o,h2,r2,t2,b2,F,g2,I2,s2⟩:=v9 P L.f k g1.b I1 tt (m+1) c
  have G2:=g1.trans g2
  have S2:=s1.trans s2
  cases o with
  | some j =>
   obtain ⟨q1,q2,q3,q4⟩:=F.yes j rfl
   refine ⟨j,h2,r2,t2,?_,⟨by omega,q2,fun _=>by omega,fun _=>q3,fun i h3 h4=>q4 i (by omega) h4⟩,G2,I2,S2⟩
   rw[run_eq Wk.next rfl]
   have fn:=fun w=>bF G2 w
   generalize hz:((m+1:Nat):Int)=z at b1 b2 e1
   simp[aJ,a.ob,e1,uc,b1,g1.b.ob,ug,b2,fn]
  | none =>
   obtain ⟨h3,r3,t3,b3,g3,I3,s3,f3⟩:=qy P M (k+3) g2.b I2
   have G3:=G2.trans g3
   refine ⟨e,h3,r3,t3,?_,⟨by omega,OE _,fun _=>by omega,fun z=>absurd rfl z,fun i h3 h4=>F.no rfl i (by omega) (by omega)⟩,G3,I3,S2.trans s3⟩
   rw[run_eq Wk.next rfl]
   have fn:=fun w=>bF G3 w
   generalize hz:((m+1:Nat):Int)=z at b1 b2 e1
   simp[aJ,a.ob,e1,uc,b1,g1.b.ob,ug,b2,g2.b.ob,D9,b3,fn]
 ·rw[decide_eq_false c] at b1
  refine ⟨m,h1,r1,t1,?_,⟨OE _,hm,fun z=>by omega,fun z=>by omega,fun i h3 h4=>by omega⟩,g1,I1,s1⟩
  rw[run_eq Wk.next rfl]
  have fn:=fun w=>bF g1 w
  generalize hz:((m+1:Nat):Int)=z at b1 e1
  simp[aJ,a.ob,e1,uc,b1,fn]
theorem zX (P:TpP T G) (L:TpL T) (Wk:WkP T G) (k:Nat) {n r:Nat}{t:Tp}{h:HH}{e ev:Nat} (a:TAt h n r t) (I:TI t e ev) (m:Nat) (hm:m<=e) (b:Int) :
 ∃ j h' r' t',runN T G (k+13) "last_within" [.o n,.p (.int m),.p (.int b)] h=some (.p (.int ((j:Nat):Int)),h')/\BX (wi t b) m j/\Go n h r t h' r' t'/\TI t' e ev/\Sm8 t t':=by
 by_cases c:m=0
 ·subst c
  refine ⟨0,h,r,t,?_,⟨OE _,fun z=>absurd z (Pi _),fun z=>absurd rfl z,fun i h3 h4=>by omega⟩,.refl a,I,.refl t⟩
  rw[run_eq Wk.last rfl]
  simp[aK,ai]
 ·obtain ⟨o,h2,r2,t2,b2,F,g2,I2,s2⟩:=zV P L.b k a I (JQ P Wk n t b e) (m - 1) (by omega) (by omega)
  have e1:(m:Int) - 1=((m - 1:Nat):Int):=by omega
  have c1:((m:Int)==0)=false:=by rw[beq_eq_false_iff_ne];omega
  cases o with
  | some j =>
   obtain ⟨q1,q2,q3,q4⟩:=F.yes j rfl
   refine ⟨j,h2,r2,t2,?_,⟨by omega,fun _=>by omega,fun _=>q3,fun i h3 h4=>q4 i h3 (by omega)⟩,g2,I2,s2⟩
   rw[run_eq Wk.last rfl]
   have fn:=fun w=>bF g2 w
   generalize hz:((m - 1:Nat):Int)=z at b2 e1
   simp[aK,a.ob,c,c1,e1,zT,b2,fn]
  | none =>
   refine ⟨0,h2,r2,t2,?_,⟨by omega,fun _=>by omega,fun z=>absurd rfl z,fun i h3 h4=>F.no rfl i (Pq _) (by omega)⟩,g2,I2,s2⟩
   rw[run_eq Wk.last rfl]
   have fn:=fun w=>bF g2 w
   generalize hz:((m - 1:Nat):Int)=z at b2 e1
   simp[aK,a.ob,c,c1,e1,zT,b2,fn]
theorem jx {t t':Tp} (s:Sm8 t t') (b:Int):wi t' b=wi t b:=by unfold wi dep;rw[s.p,s.asked]
theorem zY (P:TpP T G) (M:TpE T) (L:TpL T) (Wk:WkP T G) (Q:WkQ T) (k:Nat) {n r:Nat}{t:Tp}{h:HH}{e ev:Nat} (a:TAt h n r t) (I:TI t e ev) (m:Nat) (hm:m<=e) :
 ∃ j h' r' t',runN T G (k+14) "over" [.o n,.p (.int m)] h=some (.p (.int ((j:Nat):Int)),h')/\NX (wi t (dep t m)) m e j/\Go n h r t h' r' t'/\TI t' e ev/\Sm8 t t':=by
 obtain ⟨h1,r1,t1,b1,g1,I1,s1⟩:=dj P Wk (k+1) a I m hm
 obtain ⟨j,h2,r2,t2,b2,F,g2,I2,s2⟩:=qz P M L Wk k g1.b I1 m hm (dep t m)
 rw[jx s1] at F
 have G2:=g1.trans g2
 refine ⟨j,h2,r2,t2,?_,F,G2,I2,s1.trans s2⟩
 rw[run_eq Q.over rfl]
 have fn:=fun w=>bF G2 w
 simp[jw,b1,b2,fn]
theorem C3 (P:TpP T G) (M:TpE T) (L:TpL T) (Wk:WkP T G) (Q:WkQ T) (k:Nat) {n r:Nat}{t:Tp}{h:HH}{e ev:Nat} (a:TAt h n r t) (I:TI t e ev) (m:Nat) (hm:m<=e) :
 ∃ j h' r' t',runN T G (k+14) "out" [.o n,.p (.int m)] h=some (.p (.int ((j:Nat):Int)),h')/\NX (wi t ((dep t m:Int) - 1)) m e j/\Go n h r t h' r' t'/\TI t' e ev/\Sm8 t t':=by
 obtain ⟨h1,r1,t1,b1,g1,I1,s1⟩:=dj P Wk (k+1) a I m hm
 obtain ⟨j,h2,r2,t2,b2,F,g2,I2,s2⟩:=qz P M L Wk k g1.b I1 m hm ((dep t m:Int) - 1)
 rw[jx s1] at F
 have G2:=g1.trans g2
 refine ⟨j,h2,r2,t2,?_,F,G2,I2,s1.trans s2⟩
 rw[run_eq Q.out rfl]
 have fn:=fun w=>bF G2 w
 simp[lJ,b1,b2,fn]
theorem mG (P:TpP T G) (L:TpL T) (Wk:WkP T G) (Q:WkQ T) (k:Nat) {n r:Nat}{t:Tp}{h:HH}{e ev:Nat} (a:TAt h n r t) (I:TI t e ev) (m:Nat) (hm:m<=e) :
 ∃ j h' r' t',runN T G (k+14) "back_over" [.o n,.p (.int m)] h=some (.p (.int ((j:Nat):Int)),h')/\BX (wi t (dep t m)) m j/\Go n h r t h' r' t'/\TI t' e ev/\Sm8 t t':=by
 obtain ⟨h1,r1,t1,b1,g1,I1,s1⟩:=dj P Wk (k+1) a I m hm
 obtain ⟨j,h2,r2,t2,b2,F,g2,I2,s2⟩:=zX P L Wk k g1.b I1 m hm (dep t m)
 rw[jx s1] at F
 have G2:=g1.trans g2
 refine ⟨j,h2,r2,t2,?_,F,G2,I2,s1.trans s2⟩
 rw[run_eq Q.back_over rfl]
 have fn:=fun w=>bF G2 w
 simp[cQ,b1,b2,fn]
theorem jy (P:TpP T G) (L:TpL T) (Wk:WkP T G) (Q:WkQ T) (k:Nat) {n r:Nat}{t:Tp}{h:HH}{e ev:Nat} (a:TAt h n r t) (I:TI t e ev) (m:Nat) (hm:m<=e) :
 ∃ j h' r' t',runN T G (k+14) "back_out" [.o n,.p (.int m)] h=some (.p (.int ((j:Nat):Int)),h')/\BX (wi t ((dep t m:Int) - 1)) m j/\Go n h r t h' r' t'/\TI t' e ev/\Sm8 t t':=by
 obtain ⟨h1,r1,t1,b1,g1,I1,s1⟩:=dj P Wk (k+1) a I m hm
 obtain ⟨j,h2,r2,t2,b2,F,g2,I2,s2⟩:=zX P L Wk k g1.b I1 m hm ((dep t m:Int) - 1)
 rw[jx s1] at F
 have G2:=g1.trans g2
 refine ⟨j,h2,r2,t2,?_,F,G2,I2,s1.trans s2⟩
 rw[run_eq Q.back_out rfl]
 have fn:=fun w=>bF G2 w
 simp[dS,b1,b2,fn]
end
end BT
end
section
namespace BT
open PySem
inductive Th where
 | nm (x:Nm) | cl (i:Nat) (h:i < 4)
noncomputable def Th.enc:Th->D
 | .nm x=>.str x.w
 | .cl i _=>.int i
noncomputable def Th.val (st:St):Th->Int
 | .nm x=>st.names.getD x.ix 0
 | .cl i _=>st.cells.getD i 0
section
variable {T:FK->Option Fn}{G:Str->Option W}
noncomputable def JR:Option Nat->D
 | none=>.non
 | some j=>.int ((j:Int)+1)
@[simp] theorem Ng:JR none=.non:=rfl
@[simp] theorem Nh (j:Nat):JR (some j)=.int ((j:Int)+1):=rfl
end
end BT
end
section
namespace BT
open PySem
noncomputable def rdC:E:=(.not (.meth (.var 0 "self") "is_last" (.cons (.bin .sub (.bi .len false (.cons (.var 3 "told") .nil)) (.cst (.int 1))) (.cons (.var 2 "state") .nil))))
noncomputable def rdB:S:=(.seq (.set 2 "state" (.meth (.var 0 "self") "behind" (.cons (.var 2 "state") .nil)))
 (.ex (.me .append (.var 3 "told") (.cons (.callv 1 "reader" (.cons (.var 2 "state") .nil)) .nil))))
noncomputable def br:Fn:=⟨["self","reader"],["self","reader","state","told"],
 (.seq (.set 2 "state" (.idx (.fld (.var 0 "self") "kept") (.cst (.int 0))))
 (.seq (.set 3 "told" (.lst true (.cons (.callv 1 "reader" (.cons (.var 2 "state") .nil)) .nil)))
 (.seq (.whl rdC rdB)
 (.ret (.var 3 "told")))))⟩
structure TpR (T:FK->Option Fn):Prop where
 readings:T (.m "Tape" "readings")=some br
section
variable {T:FK->Option Fn}{G:Str->Option W}
theorem rV (t:Tp) (r:Nat):aX "readings" (t.fs r)=none:=b9 t r rfl
noncomputable def Rdg (T:FK->Option Fn) (G:Str->Option W) (n:Nat) (t:Tp) (q:FK) (cs:List Cp) (f:Nat->D) (e:Nat):Prop :=
 ∀ k h r t',TAt h n r t'->Sm8 t t'->∀ i,i<=e->runN T G (k+10) q (.p (itr t.p t.asked i).enc :: cs.map Cp.w) h=some (.p (f i),h)
noncomputable def each (f:Nat->D) (e:Nat):List D:=(O8 (e+1)).map f
theorem jz (f:Nat->D) (e:Nat):(each f e).length=e+1:=by simp[each]
theorem we (f:Nat->D) (e:Nat):each f (e+1)=each f e++[f (e+1)]:=by
 unfold each
 rw[List.range_succ (n:=e+1),QL];rfl
theorem uq (f:Nat->D) {e i:Nat} (h:i<=e):(each f e)[i]?=some (f i):=by
 unfold each
 rw[O2,QB (by omega)];rfl
theorem C4 (P:TpP T G) (k:Nat) {n r:Nat}{t:Tp}{h:HH}{e ev:Nat} (a:TAt h n r t) (I:TI t e ev) {q:FK}{cs:List Cp}{f:Nat->D} (tt:Rdg T G n t q cs f e):∀ (d u m:Nat),e - m=d->d < u->m<=e →
 aP (BT.ev (runN T G (k+10)) G rdC) (evS (runN T G (k+10)) G rdB) u [some (.o n),some (.c q cs),some (.p (itr t.p t.asked m).enc),some (.r h.length)] (h++[.l (each f m)]) =
  some (.nx [some (.o n),some (.c q cs),some (.p (itr t.p t.asked e).enc),some (.r h.length)] (h++[.l (each f e)])):=by
 intro d
 induction d with
 | zero =>
  intro u m hd hu hm
  have em:m=e:=by omega
  subst em
  cases u with
  | zero=>omega
  | succ u =>
   have A:=a.app (g:=[.l (each f m)])
   have il:=dR P (k+8) A m (itr t.p t.asked m)
   rw[oJ I.run hm,decide_eq_true rfl] at il
   have l1:(((each f m).length:Nat):Int) - 1=(m:Int):=by rw[jz];omega
   have ts:BT.ev (runN T G (k+10)) G rdC [some (.o n),some (.c q cs),some (.p (itr t.p t.asked m).enc),some (.r h.length)] (h++[.l (each f m)])=some (.p (.bl false),h++[.l (each f m)]):=by
    simp[rdC,A.ob,d9,rd,l1,il]
   rw[aP,ts,cg,fV]
 | succ d ih =>
  intro u m hd hu hm
  cases u with
  | zero=>omega
  | succ u =>
   have A:=a.app (g:=[.l (each f m)])
   have il:=dR P (k+8) A m (itr t.p t.asked m)
   rw[oJ I.run hm,decide_eq_false (by omega)] at il
   have l1:(((each f m).length:Nat):Int) - 1=(m:Int):=by rw[jz];omega
   have ts:BT.ev (runN T G (k+10)) G rdC [some (.o n),some (.c q cs),some (.p (itr t.p t.asked m).enc),some (.r h.length)] (h++[.l (each f m)])=some (.p (.bl true),h++[.l (each f m)]):=by
    simp[rdC,A.ob,d9,rd,l1,il]
   have le:=I.run.le
   have m1:=I.m1
   have bh:=eY P (k+3) A I.ok (j:=m) (st:=itr t.p t.asked m) (by omega) (jR I.ok I.ask I.run m hm) (I.run.on m (by omega))
   have s1:step t.p t.asked (itr t.p t.asked m)=itr t.p t.asked (m+1):=rfl
   rw[s1] at bh
   have t1:=tt k (h++[.l (each f m)]) r t A (.refl t) (m+1) (by omega)
   have l2:(each f m).length < 100000:=by rw[jz];omega
   have bd:evS (runN T G (k+10)) G rdB [some (.o n),some (.c q cs),some (.p (itr t.p t.asked m).enc),some (.r h.length)] (h++[.l (each f m)])=some (.nx [some (.o n),some (.c q cs),some (.p (itr t.p t.asked (m+1)).enc),some (.r h.length)] (h++[.l (each f (m+1))])):=by
    simp[rdB,A.ob,fN,bh,t1,l2,we]
   rw[aP,ts,cg,gq,bd,bM]
   exact ih u (m+1) (by omega) (by omega) (by omega)
theorem oK (P:TpP T G) (Q:TpR T) (k:Nat) {n r:Nat}{t:Tp}{h:HH}{e ev:Nat} (a:TAt h n r t) (I:TI t e ev) {q:FK}{cs:List Cp}{f:Nat->D} (tt:Rdg T G n t q cs f e) :
 runN T G (k+11) (.m "Tape" "readings") [.o n,.c q cs] h=some (.p (.lst (each f e)),h):=by
 have le:=I.run.le
 have m1:=I.m1
 have k0:0 < t.kept.length:=by rw[I.len];exact Nat.succ_pos _
 have hk:=I.kept 0 k0
 rw[Nat.zero_mul] at hk
 have ix:aD (.lst (t.kept.map St.enc)) (.int 0)=some (itr t.p t.asked 0).enc:=by
  show atP _ ((0:Nat):Int)=_
  rw[ig,O2,hk];rfl
 have t0:=tt k h r t a (.refl t) 0 (Pq _)
 have lp:=C4 P k a I tt (e - 0) 100000 0 rfl (by omega) (Pq _)
 have e0:each f 0=[f 0]:=rfl
 rw[e0] at lp
 rw[run_eq Q.readings rfl,br]
 simp[-aW,a.ob,a.li,rd,ix,t0,turns,lp,D4]
end
end BT
end
section
namespace BT
open PySem
theorem kD {F:FK->List W->HH->Option (W×HH)}{G:Str->Option W}{sr:Sr}{sa:Es}{tg:List Str}{fv:List (Nat×Str)}{cond:Es}{elt:E}{s:Sl}{h h1 h2:HH}{ws:List W}{ds xs:List D}{fs:Sl} (e1:evs F G sa s h=some (ws,h1)) (e2:(rds ws h1).bind (dH sr)=some ds) (e3:frees s fv=some fs) (e4:f6 ws=true) (e5:bf (dZ (evs F G cond) (BT.ev F G elt) fs) tg.length ds h1=some (xs,h2)) (e6:xs.length<=100000):BT.ev F G (.comp false sr sa tg fv cond elt) s h=some (.p (.lst xs),h2):=by
 rw[BT.ev,e1,aZ]
 unfold xT
 rw[e2,e3]
 show (if f6 ws=true then _ else _)=_
 rw[if_pos e4,e5,aZ]
 unfold kR
 rw[if_pos (show xs.length<=lim from e6)];rfl
theorem GU {α:Type} (f:List D->HH->Option (Option D×HH)) (mk:α->D) (g:α->Option D) (h:HH):∀ (l:List α),(∀ x∈l,f [mk x] h=some (g x,h))->bf f 1 (l.map mk) h=some (l.filterMap g,h):=by
 intro l
 induction l with
 | nil=>intro _;rfl
 | cons x r ih =>
  intro hf
  rw[O0,bf,gn]
  show bnd (f [mk x] h) (vn (bf f 1 (r.map mk)))=_
  rw[hf x ON,aZ,nK,ih fun y hy=>hf y (OL _ hy),aZ,kQ,O9]
  cases g x<;>rfl
theorem zZ {α:Type} (f:List D->HH->Option (Option D×HH)) (mk:α->D) (g:α->Option D) (Iv:HH->Prop):∀ (l:List α),(∀ x∈l,∀ h,Iv h->∃ h',f [mk x] h=some (g x,h')/\Iv h')->∀ h,Iv h->∃ h',bf f 1 (l.map mk) h=some (l.filterMap g,h')/\Iv h':=by
 intro l
 induction l with
 | nil=>intro _ h hi;exact ⟨h,rfl,hi⟩
 | cons x r ih =>
  intro hf h hi
  obtain ⟨h1,e1,i1⟩:=hf x ON h hi
  obtain ⟨h2,e2,i2⟩:=ih (fun y hy=>hf y (OL _ hy)) h1 i1
  refine ⟨h2,?_,i2⟩
  rw[O0,bf,gn]
  show bnd (f [mk x] h) (vn (bf f 1 (r.map mk)))=_
  rw[e1,aZ,nK,e2,aZ,kQ,O9]
  cases g x<;>rfl
section
variable {T:FK->Option Fn}{G:Str->Option W}
@[simp] theorem Ou (h:HH) (a:Cl) (r:HH):dat (h++a :: r) h.length=vj a:=by simp[dat]
end
end BT
end
section
namespace BT
open PySem
theorem GV {α:Type} (f:List D->HH->Option (Option D×HH)) (n:Nat) (mk:α->D) (tx:α->List D) (g:α->Option D) (h:HH):∀ (l:List α),(∀ x∈l,target n (mk x)=some (tx x)/\f (tx x) h=some (g x,h))->bf f n (l.map mk) h=some (l.filterMap g,h):=by
 intro l
 induction l with
 | nil=>intro _;rfl
 | cons x r ih =>
  intro hf
  obtain ⟨h1,h2⟩:=hf x ON
  rw[O0,bf,h1]
  show bnd (f (tx x) h) (vn (bf f n (r.map mk)))=_
  rw[h2,aZ,nK,ih fun y hy=>hf y (OL _ hy),aZ,kQ,O9]
  cases g x<;>rfl
noncomputable def mom (g:Nat->Bool) (e:Nat):List Nat:=(O8 (e+1)).filter g
noncomputable def gvi (t:Tp) (c:Nat) (i:Nat):Bool:=(itr t.p t.asked i).row==c
section
variable {T:FK->Option Fn}{G:Str->Option W}
end
end BT
end
section
namespace BT
open PySem
theorem qA {t:Tp}{e i:Nat} (R:Run t.p t.asked t.most e) (hi:i < e) :
 ((∃ c,t.p[(itr t.p t.asked i).row]?=some (.call c))/\(itr t.p t.asked (i+1)).calls=(itr t.p t.asked i).calls++[(itr t.p t.asked i).row+1]) ∨
 ((itr t.p t.asked i).calls≠[]/\(itr t.p t.asked (i+1)).calls=(itr t.p t.asked i).calls.dropLast/\(itr t.p t.asked (i+1)).row=(itr t.p t.asked i).calls.getLast?.getD 0) ∨
 (itr t.p t.asked (i+1)).calls=(itr t.p t.asked i).calls:=by
 have ov:=R.on i hi
 show _\/(_/\(step t.p t.asked (itr t.p t.asked i)).calls=_/\(step t.p t.asked (itr t.p t.asked i)).row=_)\/(step t.p t.asked (itr t.p t.asked i)).calls=_
 have e1:(itr t.p t.asked (i+1))=step t.p t.asked (itr t.p t.asked i):=rfl
 rw[e1]
 unfold over at ov
 unfold step
 cases g:t.p[(itr t.p t.asked i).row]? with
 | none=>rw[g] at ov;cases ov
 | some r =>
  rw[g] at ov
  cases r with
  | call c=>exact .inl ⟨⟨c,rfl⟩,rfl⟩
  | back =>
   refine .inr (.inl ⟨fun z=>?_,rfl,rfl⟩)
   have:((itr t.p t.asked i).calls.length==0)=false:=ov
   rw[z] at this
   cases this
  | _=>exact .inr (.inr rfl)
noncomputable def wt (t:Tp):Nat->List Nat
 | 0=>[]
 | m+1=>if dep t m < dep t (m+1) then wt t m++[m] else if dep t (m+1) < dep t m then (wt t m).dropLast else wt t m
noncomputable def en (t:Tp):Nat->List (Nat×Option Nat)
 | 0=>[]
 | m+1=>if dep t m < dep t (m+1) then en t m++[(m,none)] else if dep t (m+1) < dep t m then (en t m).map (fun p=>if p.1=(wt t m).getLast?.getD 0 then (p.1,some (m+1)) else p) else en t m
structure WtI (t:Tp) (m:Nat):Prop where
 len:(wt t m).length=dep t m
 ok:∀ k w,(wt t m)[k]?=some w->w < m/\dep t w=k/\(itr t.p t.asked m).calls[k]?=some ((itr t.p t.asked w).row+1)/\(∃ c,t.p[(itr t.p t.asked w).row]?=some (.call c))/\∀ j,w < j->j<=m->k < dep t j
structure EnI (t:Tp) (m:Nat):Prop where
 rise:(en t m).Pairwise fun a b=>a.1 < b.1
 lt:∀ p∈en t m,p.1 < m
 start:∀ p∈en t m,(∃ c,t.p[(itr t.p t.asked p.1).row]?=some (.call c))/\dep t (p.1+1)=dep t p.1+1
 non:∀ s,(s,none)∈en t m->s∈wt t m
 som:∀ s b,(s,some b)∈en t m->s < b/\b<=m/\dep t b=dep t s/\(itr t.p t.asked b).row=(itr t.p t.asked s).row+1/\∀ j,s < j->j < b->dep t s < dep t j
 wait:∀ w∈wt t m,(w,none)∈en t m
theorem z4 {t:Tp}{m:Nat} (h:dep t m < dep t (m+1)):wt t (m+1)=wt t m++[m]/\en t (m+1)=en t m++[(m,none)]:=⟨if_pos h,if_pos h⟩
theorem oM {t:Tp}{m:Nat} (h:dep t (m+1) < dep t m):wt t (m+1)=(wt t m).dropLast/\en t (m+1)=(en t m).map (fun p=>if p.1=(wt t m).getLast?.getD 0 then (p.1,some (m+1)) else p):=by
 have n:¬ dep t m < dep t (m+1):=by omega
 exact ⟨by rw[wt,if_neg n,if_pos h],by rw[en,if_neg n,if_pos h]⟩
theorem oN {t:Tp}{m:Nat} (h:dep t (m+1)=dep t m):wt t (m+1)=wt t m/\en t (m+1)=en t m:=by
 have n:¬ dep t m < dep t (m+1):=by omega
 have n2:¬ dep t (m+1) < dep t m:=by omega
 exact ⟨by rw[wt,if_neg n,if_neg n2],by rw[en,if_neg n,if_neg n2]⟩
theorem dY {t:Tp}{e:Nat} (R:Run t.p t.asked t.most e):∀ m,m<=e->WtI t m
 | 0,_=>⟨rfl,fun k w h=>by simp[wt] at h⟩
 | m+1,h=>by
  have I:=dY R m (by omega)
  have len:=I.len
  rcases qA R (show m < e by omega) with ⟨cc,hc⟩ | ⟨hne,hc,hr⟩ | hc
  ·have d:dep t (m+1)=dep t m+1:=by unfold dep;rw[hc,OS];rfl
   have e1:=(z4 (t:=t) (m:=m) (by omega)).1
   refine ⟨by rw[e1,OS,len,d];rfl,fun k w hk=>?_⟩
   rw[e1] at hk
   rcases OR k (wt t m).length with q | q
   ·rw[OH q] at hk
    obtain ⟨a1,a2,a3,a4,a5⟩:=I.ok k w hk
    refine ⟨by omega,a2,?_,a4,fun j j1 j2=>?_⟩
    ·rw[hc,OH (by show k < dep t m;omega)];exact a3
    ·rcases OR m j with z | z
     ·rw[show j=m+1 by omega,d];omega
     ·exact a5 j j1 z
   ·rw[OU q] at hk
    have k0:k - (wt t m).length=0:=by
     rcases Nat.eq_zero_or_pos (k - (wt t m).length) with z | z
     ·exact z
     ·rw[OJ (by rw[Pv];omega)] at hk;cases hk
    rw[k0] at hk
    have:m=w:=by simpa using hk
    subst this
    refine ⟨P8 _,by omega,?_,cc,fun j j1 j2=>?_⟩
    ·rw[hc,OU (by show dep t m<=k;omega),show k - (itr t.p t.asked m).calls.length=0 by have:(itr t.p t.asked m).calls.length=dep t m:=rfl;omega];rfl
    ·rw[show j=m+1 by omega,d];omega
  ·have hp:0 < dep t m:=by
    unfold dep
    exact List.length_pos_iff.mpr hne
   have d:dep t (m+1)=dep t m - 1:=by unfold dep;rw[hc,PP]
   have e1:=(oM (t:=t) (m:=m) (by omega)).1
   refine ⟨by rw[e1,PP,len,d],fun k w hk=>?_⟩
   rw[e1] at hk
   have kl:k < (wt t m).dropLast.length:=(List.getElem?_eq_some_iff.mp hk).1
   rw[PP,len] at kl
   rw[Rg,if_pos (by omega)] at hk
   obtain ⟨a1,a2,a3,a4,a5⟩:=I.ok k w hk
   refine ⟨by omega,a2,?_,a4,fun j j1 j2=>?_⟩
   ·rw[hc,Rg,if_pos (by show k < dep t m - 1;omega)];exact a3
   ·rcases OR m j with z | z
    ·rw[show j=m+1 by omega,d];omega
    ·exact a5 j j1 z
  ·have d:dep t (m+1)=dep t m:=by unfold dep;rw[hc]
   have e1:=(oN d).1
   refine ⟨by rw[e1,len,d],fun k w hk=>?_⟩
   rw[e1] at hk
   have kl:k < (wt t m).length:=(List.getElem?_eq_some_iff.mp hk).1
   obtain ⟨a1,a2,a3,a4,a5⟩:=I.ok k w hk
   refine ⟨by omega,a2,by rw[hc];exact a3,a4,fun j j1 j2=>?_⟩
   rcases OR m j with z | z
   ·rw[show j=m+1 by omega,d];omega
   ·exact a5 j j1 z
theorem JS {t:Tp}{e m:Nat} (R:Run t.p t.asked t.most e) (hm:m<=e) {k k' w:Nat} (h:(wt t m)[k]?=some w) (h':(wt t m)[k']?=some w):k=k':=by
 have I:=dY R m hm
 have a:=(I.ok k w h).2.1
 have b:=(I.ok k' w h').2.1
 omega
theorem oO {t:Tp}{e:Nat} (R:Run t.p t.asked t.most e):∀ m,m<=e->EnI t m
 | 0,_=>⟨.nil,(fun p h=>nomatch h),(fun p h=>nomatch h),(fun s h=>nomatch h),(fun s b h=>nomatch h),(fun w h=>nomatch h)⟩
 | m+1,h=>by
  have I:=oO R m (by omega)
  have W:=dY R m (by omega)
  rcases qA R (show m < e by omega) with ⟨cc,hc⟩ | ⟨hne,hc,hr⟩ | hc
  ·have d:dep t (m+1)=dep t m+1:=by unfold dep;rw[hc,OS];rfl
   obtain ⟨e1,e2⟩:=z4 (t:=t) (m:=m) (by omega)
   refine ⟨?_,fun p hp=>?_,fun p hp=>?_,fun s hs=>?_,fun s b hs=>?_,fun w hw=>?_⟩
   ·rw[e2]
    refine List.pairwise_append.mpr ⟨I.rise,List.pairwise_singleton _ _,fun a ha b hb=>?_⟩
    rw[List.mem_singleton.mp hb]
    exact I.lt a ha
   ·rw[e2] at hp
    rcases List.mem_append.mp hp with z | z
    ·have:=I.lt p z;omega
    ·rw[List.mem_singleton.mp z];exact P8 _
   ·rw[e2] at hp
    rcases List.mem_append.mp hp with z | z
    ·exact I.start p z
    ·rw[List.mem_singleton.mp z];exact ⟨cc,d⟩
   ·rw[e2] at hs
    rw[e1]
    rcases List.mem_append.mp hs with z | z
    ·exact Qa _ (I.non s z)
    ·have:=List.mem_singleton.mp z
     cases this
     exact O7 _ ON
   ·rw[e2] at hs
    rcases List.mem_append.mp hs with z | z
    ·obtain ⟨a1,a2,a3⟩:=I.som s b z
     exact ⟨a1,by omega,a3⟩
    ·have:=List.mem_singleton.mp z
     cases this
   ·rw[e1] at hw
    rw[e2]
    rcases List.mem_append.mp hw with z | z
    ·exact Qa _ (I.wait w z)
    ·rw[List.mem_singleton.mp z];exact O7 _ ON
  ·have hp:0 < dep t m:=by
    unfold dep
    exact List.length_pos_iff.mpr hne
   have d:dep t (m+1)=dep t m - 1:=by unfold dep;rw[hc,PP]
   obtain ⟨e1,e2⟩:=oM (t:=t) (m:=m) (by omega)
   have len:=W.len
   obtain ⟨l,hl⟩:∃ l,(wt t m)[dep t m - 1]?=some l:=⟨_,OF (by omega)⟩
   have gl:(wt t m).getLast?.getD 0=l:=by
    rw[QX,len,hl];rfl
   rw[gl] at e2
   obtain ⟨w1,w2,w3,w4,w5⟩:=W.ok _ _ hl
   have rowm:(itr t.p t.asked (m+1)).row=(itr t.p t.asked l).row+1:=by
    rw[hr,QX]
    have:(itr t.p t.asked m).calls.length - 1=dep t m - 1:=rfl
    rw[this,w3];rfl
   have ins:∀ w,w∈(wt t m).dropLast↔w∈wt t m/\w≠l:=fun w=>by
    constructor
    ·intro hw
     obtain ⟨k,hk⟩:=Po hw
     have kl:k < (wt t m).dropLast.length:=(List.getElem?_eq_some_iff.mp hk).1
     rw[PP,len] at kl
     rw[Rg,if_pos (by omega)] at hk
     refine ⟨OM hk,fun z=>?_⟩
     subst z
     have:=JS R (by omega) hk hl
     omega
    ·rintro ⟨hw,hn⟩
     obtain ⟨k,hk⟩:=Po hw
     have kl:k < (wt t m).length:=(List.getElem?_eq_some_iff.mp hk).1
     have kn:k≠dep t m - 1:=fun z=>by
      rw[z,hl] at hk;cases hk;exact hn rfl
     refine OM (i:=k) ?_
     rw[Rg,if_pos (by omega)]
     exact hk
   have key:∀ p,p∈en t (m+1)->∃ q∈en t m,q.1=p.1/\((p.1=l/\p.2=some (m+1))\/(p.1≠l/\p=q)):=fun p hp=>by
    rw[e2] at hp
    obtain ⟨q,hq,rfl⟩:=List.mem_map.mp hp
    by_cases z:q.1=l
    ·exact ⟨q,hq,by rw[if_pos z],.inl ⟨by rw[if_pos z];exact z,by rw[if_pos z]⟩⟩
    ·exact ⟨q,hq,by rw[if_neg z],.inr ⟨by rw[if_neg z];exact z,by rw[if_neg z]⟩⟩
   refine ⟨?_,fun p hp=>?_,fun p hp=>?_,fun s hs=>?_,fun s b hs=>?_,fun w hw=>?_⟩
   ·rw[e2]
    refine So _ (fun a b hab=>?_) I.rise
    have f:∀ q:Nat×Option Nat,(if q.1=l then (q.1,some (m+1)) else q).1=q.1:=fun q=>by split<;>rfl
    rw[f,f];exact hab
   ·obtain ⟨q,hq,e3,_⟩:=key p hp
    have:=I.lt q hq
    omega
   ·obtain ⟨q,hq,e3,_⟩:=key p hp
    rw[← e3];exact I.start q hq
   ·obtain ⟨q,hq,e3,z | z⟩:=key _ hs
    ·cases z.2
    ·rw[← z.2] at hq
     rw[e1]
     exact (ins s).mpr ⟨I.non s hq,z.1⟩
   ·obtain ⟨q,hq,e3,z | z⟩:=key _ hs
    ·obtain ⟨z1,z2⟩:=z
     have zz:s=l:=z1
     cases z2
     rw[zz]
     exact ⟨by omega,OE _,by omega,rowm,fun j j1 j2=>by have:=w5 j j1 (by omega);omega⟩
    ·rw[← z.2] at hq
     obtain ⟨a1,a2,a3⟩:=I.som s b hq
     exact ⟨a1,by omega,a3⟩
   ·rw[e1] at hw
    obtain ⟨h1,h2⟩:=(ins w).mp hw
    rw[e2]
    exact List.mem_map.mpr ⟨(w,none),I.wait w h1,by rw[if_neg h2]⟩
  ·have d:dep t (m+1)=dep t m:=by unfold dep;rw[hc]
   obtain ⟨e1,e2⟩:=oN d
   refine ⟨by rw[e2];exact I.rise,fun p hp=>?_,fun p hp=>I.start p (by rw[← e2];exact hp),fun s hs=>by rw[e1];exact I.non s (by rw[← e2];exact hs),fun s b hs=>?_,fun w hw=>by rw[e2];exact I.wait w (by rw[← e1];exact hw)⟩
   ·have:=I.lt p (by rw[← e2];exact hp);omega
   ·obtain ⟨a1,a2,a3⟩:=I.som s b (by rw[← e2];exact hs)
    exact ⟨a1,by omega,a3⟩
end BT
end
section
namespace BT
open PySem
noncomputable def caB:S:=(.ife (.cmp .gt (.idx (.var 1 "depths") (.bin .add (.var 4 "moment") (.cst (.int 1)))) (.idx (.var 1 "depths") (.var 4 "moment"))) (.seq (.putd 2 "ends" (.var 4 "moment") (.cst .non))
 (.ex (.me .append (.var 3 "waiting") (.cons (.var 4 "moment") .nil)))) (.ife (.cmp .lt (.idx (.var 1 "depths") (.bin .add (.var 4 "moment") (.cst (.int 1)))) (.idx (.var 1 "depths") (.var 4 "moment"))) (.putd 2 "ends" (.me .pop (.var 3 "waiting") .nil) (.bin .add (.var 4 "moment") (.cst (.int 1)))) .nil))
noncomputable def gM:Fn:=⟨["tape"],["tape","depths","ends","waiting","moment"],
 (.seq (.set 1 "depths" (.meth (.var 0 "tape") "readings" (.cons (.glo "open_in") .nil)))
 (.seq (.set 2 "ends" .dnew)
 (.seq (.set 3 "waiting" (.lst true .nil))
 (.seq (.for [(4,"moment")] .rng1 (.cons (.bin .sub (.bi .len false (.cons (.var 1 "depths") .nil)) (.cst (.int 1))) .nil) caB)
 (.ret (.dli (.var 2 "ends")))))))⟩
noncomputable def ocC:E:=(.cmp .gt (.call "depth" (.cons (.var 0 "tape") (.cons (.var 3 "inner") .nil))) (.cst (.int 0)))
noncomputable def ocB:S:=(.seq (.set 3 "inner" (.call "back_out" (.cons (.var 0 "tape") (.cons (.var 3 "inner") .nil))))
 (.ex (.me .append (.var 2 "begun_at") (.cons (.var 3 "inner") .nil))))
noncomputable def bZ:Fn:=⟨["tape","moment"],["tape","moment","begun_at","inner"],
 (.seq (.set 2 "begun_at" (.lst true .nil))
 (.seq (.set 3 "inner" (.var 1 "moment"))
 (.seq (.whl ocC ocB)
 (.ret (.lsr false .rev (.cons (.var 2 "begun_at") .nil))))))⟩
structure CaP (T:FK->Option Fn) (G:Str->Option W):Prop where
 calls:T "calls"=some gM
 open_calls:T "open_calls"=some bZ
 g:G "open_in"=some (.c (.f "open_in") [])
noncomputable def dw (l:List (Nat×Option Nat)):List (Ky×D):=l.map fun p=>(.inl (p.1:Int),bY p.2)
theorem qB {l:List (Nat×Option Nat)}{m:Nat}:(dw l).any (fun kv=>decide (kv.1=.inl (m:Int)))=true↔∃ o,(m,o)∈l:=by
 unfold dw
 rw[List.any_map,List.any_eq_true]
 constructor
 ·rintro ⟨p,hp,q⟩
  have:(Sum.inl (p.1:Int):Ky)=.inl (m:Int):=by simpa using q
  have:(p.1:Int)=(m:Int):=Sum.inl.inj this
  have:p.1=m:=by omega
  exact ⟨p.2,by rw[← this];exact hp⟩
 ·rintro ⟨o,ho⟩
  exact ⟨_,ho,by simp⟩
theorem C6 {l:List (Nat×Option Nat)}{m:Nat} (h:∀ p∈l,p.1 < m):jX (dw l) (.inl (m:Int)) .non=dw (l++[(m,none)]):=by
 unfold jX
 rw[if_neg fun z=>by obtain ⟨o,ho⟩:=qB.mp z;exact absurd (h _ ho) (Pi _)]
 unfold dw
 rw[QL];rfl
theorem C7 {l:List (Nat×Option Nat)}{w b:Nat} (h:∃ o,(w,o)∈l):jX (dw l) (.inl (w:Int)) (.int (b:Int))=dw (l.map fun p=>if p.1=w then (p.1,some b) else p):=by
 unfold jX
 rw[if_pos (qB.mpr h)]
 unfold dw
 rw[Qc,Qc]
 apply Qh
 intro p _
 by_cases z:p.1=w
 ·simp[z]
 ·have z':¬ (p.1:Int)=(w:Int):=by omega
  simp[z,z']
section
variable {T:FK->Option Fn}{G:Str->Option W}
noncomputable def jA (t:Tp) (i:Nat):D:=.int (dep t i:Int)
theorem Ni (P:TpP T G) (Wk:WkP T G) (n:Nat) (t:Tp) (e:Nat):Rdg T G n t (.f "open_in") [] (jA t) e:=fun k h r t' a _ i hi=>fy P Wk (k+9) (itr t.p t.asked i) h
theorem iR (t:Tp):∀ m,(en t m).length<=m/\(wt t m).length<=m
 | 0=>⟨OE _,OE _⟩
 | m+1=>by
  have ih:=iR t m
  rw[en,wt]
  split
  ·rw[OS,OS,Pv,Pv];omega
  ·split
   ·rw[OQ,PP];omega
   ·omega
theorem z5 (h:HH) (x:List (Ky×D)) (b:Cl):dat (h++[.d x,b]) h.length=some x:=by simp[dat]
theorem z6 (h:HH) (a b x:Cl):(h++[a,b]).set h.length x=h++[x,b]:=by simp
theorem z7 (h:HH) (a b x:Cl):(h++[a,b]).set (h.length+1) x=h++[a,x]:=by
 induction h with
 | nil=>rfl
 | cons y l ih=>exact congrArg (y :: ·) ih
theorem z8 (h:HH) (a:Cl) (x:List D):lat (h++[a,.l x]) (h.length+1)=some x:=by
 unfold lat
 rw[OU (by omega),show h.length+1 - h.length=1 by omega];rfl
theorem C8 (F:FK->List W->HH->Option (W×HH)) (w0:W) (h:HH) {t:Tp}{e:Nat} (R:Run t.p t.asked t.most e) (he:e<=1000) {m:Nat} (hm:m < e) :
 evS F G caB [some w0,some (.p (.lst (each (jA t) e))),some (.r h.length),some (.r (h.length+1)),some (.p (.int (m:Int)))] (h++[.d (dw (en t m)),.l (af (wt t m))]) =
  some (.nx [some w0,some (.p (.lst (each (jA t) e))),some (.r h.length),some (.r (h.length+1)),some (.p (.int (m:Int)))] (h++[.d (dw (en t (m+1))),.l (af (wt t (m+1)))])):=by
 have I:=oO R m (by omega)
 have W:=dY R m (by omega)
 obtain ⟨l1,l2⟩:=iR t m
 have x1:aD (.lst (each (jA t) e)) (.int ((m:Int)+1))=some (.int (dep t (m+1):Int)):=by
  rw[show (m:Int)+1=((m+1:Nat):Int) by omega]
  show atP _ _=_
  rw[ig,uq _ (by omega)];rfl
 have x2:aD (.lst (each (jA t) e)) (.int (m:Int))=some (.int (dep t m:Int)):=by
  show atP _ _=_
  rw[ig,uq _ (by omega)];rfl
 have k1:(dw (en t m)).length < 100000:=by unfold dw;rw[OQ];omega
 have k2:(af (wt t m)).length < 100000:=by unfold af;rw[OQ];omega
 have d0:=z5 h (dw (en t m)) (.l (af (wt t m)))
 have t1:=z8 h (.d (dw (en t m))) (af (wt t m))
 generalize each (jA t) e=dp at *
 by_cases c:dep t m < dep t (m+1)
 ·obtain ⟨e1,e2⟩:=z4 c
  have c1:(dep t m:Int) < (dep t (m+1):Int):=by omega
  have pn:=C6 (l:=en t m) (m:=m) I.lt
  have t2:=z8 h (.d (dw (en t (m+1)))) (af (wt t m))
  rw[← e2] at pn
  have ew:af (wt t m)++[D.int (m:Int)]=af (wt t (m+1)):=by rw[e1];unfold af;rw[QL];rfl
  simp[-aW,-Rm,caB,x1,x2,c,c1,d0,lX,k1,z6,pn,t2,k2,z7,ew]
 ·by_cases c2:dep t (m+1) < dep t m
  ·obtain ⟨e1,e2⟩:=oM c2
   have len:=W.len
   obtain ⟨l,hl⟩:∃ l,(wt t m)[dep t m - 1]?=some l:=⟨_,OF (by omega)⟩
   have gl0:(wt t m).getLast?=some l:=by rw[QX,len,hl]
   have gl:(af (wt t m)).getLast?=some (.int (l:Int)):=by unfold af;rw[List.getLast?_map,gl0];rfl
   rw[gl0] at e2
   have po:=C7 (l:=en t m) (w:=l) (b:=m+1) ⟨none,I.wait l (OM hl)⟩
   have e2:en t (m+1)=(en t m).map fun p=>if p.1=l then (p.1,some (m+1)) else p:=e2
   rw[← e2] at po
   have ew:(af (wt t m)).dropLast=af (wt t (m+1)):=by rw[e1];unfold af;rw[List.map_dropLast]
   have d2:=z5 h (dw (en t m)) (.l (af (wt t (m+1))))
   have c1:¬ (dep t m:Int) < (dep t (m+1):Int):=by omega
   have c3:(dep t (m+1):Int) < (dep t m:Int):=by omega
   have e3:((m+1:Nat):Int)=(m:Int)+1:=by omega
   rw[e3] at po
   simp[-aW,-Rm,caB,x1,x2,c,c1,c2,c3,t1,gl,z7,ew,d2,lX,k1,po,z6]
  ·obtain ⟨e1,e2⟩:=oN (t:=t) (m:=m) (by omega)
   have c1:¬ (dep t m:Int) < (dep t (m+1):Int):=by omega
   have c3:¬ (dep t (m+1):Int) < (dep t m:Int):=by omega
   rw[e1,e2]
   simp[-aW,caB,x1,x2,c,c1,c2,c3]
theorem ur (F:FK->List W->HH->Option (W×HH)) (w0:W) (h:HH) {t:Tp}{e:Nat} (R:Run t.p t.asked t.most e) (he:e<=1000):∀ (q m:Nat) (x:Option W),m+q=e →
 ∃ y,aQ (evS F G caB) [(4,"moment")] (upto (m:Int) q) [some w0,some (.p (.lst (each (jA t) e))),some (.r h.length),some (.r (h.length+1)),x] (h++[.d (dw (en t m)),.l (af (wt t m))]) =
  some (.nx [some w0,some (.p (.lst (each (jA t) e))),some (.r h.length),some (.r (h.length+1)),y] (h++[.d (dw (en t e)),.l (af (wt t e))]))
 | 0,m,x,hq=>⟨x,by rw[show m=e by omega];rfl⟩
 | q+1,m,x,hq=>by
  have b1:=C8 (G:=G) F w0 h R he (m:=m) (by omega)
  obtain ⟨y,b2⟩:=ur F w0 h R he q (m+1) (some (.p (.int (m:Int)))) (by omega)
  refine ⟨y,?_⟩
  have st:∀ (d:D) (l:List D),aQ (evS F G caB) [(4,"moment")] (d :: l) [some w0,some (.p (.lst (each (jA t) e))),some (.r h.length),some (.r (h.length+1)),x] (h++[.d (dw (en t m)),.l (af (wt t m))])=fJ (evS F G caB [some w0,some (.p (.lst (each (jA t) e))),some (.r h.length),some (.r (h.length+1)),some (.p d)] (h++[.d (dw (en t m)),.l (af (wt t m))])) (aQ (evS F G caB) [(4,"moment")] l):=fun d l=>rfl
  rw[fY,st,b1,bM,show (m:Int)+1=((m+1:Nat):Int) by omega,b2]
noncomputable def itE (l:List (Nat×Option Nat)):List D:=l.map fun p=>.tup [.int (p.1:Int),bY p.2]
theorem GW (l:List (Nat×Option Nat)):ef (dw l)=itE l:=by
 unfold ef dw itE
 rw[Qc]
 apply Qh
 intro p _
 rfl
theorem wg (P:TpP T G) (R:TpR T) (Wk:WkP T G) (C:CaP T G) (k:Nat) {n r:Nat}{t:Tp}{h:HH}{e ev:Nat} (a:TAt h n r t) (I:TI t e ev) :
 runN T G (k+12) "calls" [.o n] h=some (.p (.lst (itE (en t e))),h):=by
 have le:=I.run.le
 have m1:=I.m1
 have b1:=oK P R k a I (Ni P Wk n t e)
 obtain ⟨y,b2⟩:=ur (G:=G) (runN T G (k+11)) (.o n) h I.run (by omega) e 0 none (by omega)
 have l1:=(iR t e).1
 rw[run_eq C.calls rfl,gM]
 have rg:dH .rng1 [.int ((((each (jA t) e).length:Nat):Int) - 1)]=some (upto 0 e):=by
  rw[jz,bI]
  have c:((-100000<=(((e+1:Nat):Int) - 1):Bool)&&((((e+1:Nat):Int) - 1)<=100000:Bool))=true:=by
   simp only[OC,decide_eq_true_eq];omega
  rw[if_pos c,show (((e+1:Nat):Int) - 1).toNat=e by omega]
 have f0:=gF h [.d (dw (en t e)),.l (af (wt t e))] (.lst (itE (en t e)))
 have d0:=z5 h (dw (en t e)) (.l (af (wt t e)))
 have k1:(dw (en t e)).length<=100000:=by unfold dw;rw[OQ];omega
 have b2':aQ (evS (runN T G (k+11)) G caB) [(4,"moment")] (upto 0 e) [some (.o n),some (.p (.lst (each (jA t) e))),some (.r h.length),some (.r (h.length+1)),none] (h++[.d [],.l []])=some (.nx [some (.o n),some (.p (.lst (each (jA t) e))),some (.r h.length),some (.r (h.length+1)),y] (h++[.d (dw (en t e)),.l (af (wt t e))])):=b2
 generalize each (jA t) e=dp at *
 generalize upto 0 e=up at *
 simp[-aQ,-bI,a.ob,rV,C.g,b1,rg,f6,b2',d0,k1,GW,f0]
end
end BT
end
section
namespace BT
open PySem
structure Oc (t:Tp) (m k w:Nat):Prop where
 lt:w < m
 at_:dep t w=k
 up:∀ j,w < j->j<=m->k < dep t j
theorem Oc.one {t:Tp}{m k w w':Nat} (a:Oc t m k w) (b:Oc t m k w'):w=w':=by
 rcases Qf w w' with z | z | z
 ·have h1:=a.up w' z (by have:=b.lt;omega)
  have h2:=b.at_
  omega
 ·exact z
 ·have h1:=b.up w z (by have:=a.lt;omega)
  have h2:=a.at_
  omega
theorem lK {t:Tp}{e m:Nat} (R:Run t.p t.asked t.most e) (hm:m<=e) {k w:Nat} (h:(wt t m)[k]?=some w):Oc t m k w:=by
 obtain ⟨a1,a2,_,_,a5⟩:=(dY R m hm).ok k w h
 exact ⟨a1,a2,a5⟩
theorem uv {t:Tp}{e m:Nat} (R:Run t.p t.asked t.most e) (hm:m<=e) (hp:0 < dep t m):∃ l,Oc t m (dep t m - 1) l/\wt t m=wt t l++[l]:=by
 have len:=(dY R m hm).len
 obtain ⟨l,hl⟩:∃ l,(wt t m)[dep t m - 1]?=some l:=⟨_,OF (by omega)⟩
 have o:=lK R hm hl
 have ol:=o.lt
 have oa:=o.at_
 have dW:=(dY R l (by omega)).len
 refine ⟨l,o,Tg fun k=>?_⟩
 rcases Qf k (dep t m - 1) with z | z | z
 ·rw[OH (by omega)]
  obtain ⟨w,hw⟩:∃ w,(wt t m)[k]?=some w:=⟨_,OF (by omega)⟩
  obtain ⟨w',hw'⟩:∃ w',(wt t l)[k]?=some w':=⟨_,OF (by omega)⟩
  have a:=lK R hm hw
  have b:=lK R (show l<=e by omega) hw'
  have wl:w < l:=by
   have a1:=a.at_
   rcases Qf w l with q | q | q
   ·exact q
   ·rw[q] at a1;omega
   ·have:=o.up w q (by have:=a.lt;omega)
    omega
  have:Oc t l k w:=⟨wl,a.at_,fun j j1 j2=>a.up j j1 (by omega)⟩
  rw[hw,hw',this.one b]
 ·rw[z,hl,OU (by omega),show dep t m - 1 - (wt t l).length=0 by omega];rfl
 ·rw[OJ (by omega),OJ (by rw[OS,Pv];omega)]
theorem uw {t:Tp}{m j l:Nat} (o:Oc t m (dep t m - 1) l) (hp:0 < dep t m) (b:BX (wi t ((dep t m:Int) - 1)) m j):j=l:=by
 have ol:=o.lt
 have oa:=o.at_
 have gl:wi t ((dep t m:Int) - 1) l=true:=by
  unfold wi
  rw[decide_eq_true_eq];omega
 rcases Qf j l with z | z | z
 ·rw[b.gap l z ol] at gl;cases gl
 ·exact z
 ·have jm:=b.lt (by omega)
  have h1:=b.yes (by omega)
  unfold wi at h1
  rw[decide_eq_true_eq] at h1
  have h2:=o.up j z (by omega)
  omega
theorem z9 {t t':Tp} (s:Sm8 t t'):∀ m,wt t' m=wt t m/\en t' m=en t m
 | 0=>⟨rfl,rfl⟩
 | m+1=>by
  have d:dep t'=dep t:=by funext i;unfold dep;rw[s.p,s.asked]
  obtain ⟨h1,h2⟩:=z9 s m
  exact ⟨by rw[wt,wt,d,h1],by rw[en,en,d,h1,h2]⟩
structure Tl (h:HH) (n r q:Nat) (js:List Nat):Prop where
 at_:lat h q=some (af js)
 n1:q≠n
 n2:q≠r
theorem Tl.go {n q:Nat}{h h':HH}{r r':Nat}{t t':Tp}{js:List Nat} (d:Tl h n r q js) (g:Go n h r t h' r' t'):Tl h' n r' q js:=by
 have lt:=jT d.at_
 refine ⟨?_,d.n1,?_⟩
 ·rw[← d.at_];exact zJ (g.fr q d.n1 d.n2 lt)
 ·rcases g.len with ⟨_,z⟩ | z
  ·rw[z];exact d.n2
  ·omega
theorem Tl.put {n q:Nat}{h:HH}{r:Nat}{t:Tp}{js:List Nat} (d:Tl h n r q js) (a:TAt h n r t) (j:Nat):Tl (h.set q (.l (af js++[.int (j:Int)]))) n r q (js++[j])/\TAt (h.set q (.l (af js++[.int (j:Int)]))) n r t:=by
 have lt:=jT d.at_
 refine ⟨⟨?_,d.n1,d.n2⟩,?_,?_⟩
 ·rw[qw lt]
  show some _=_
  unfold af
  rw[QL];rfl
 ·rw[lI (fun z=>d.n1 z.symm)];exact a.ob
 ·rw[iQ (fun z=>d.n2 z.symm)];exact a.li
section
variable {T:FK->Option Fn}{G:Str->Option W}
theorem C9 (P:TpP T G) (L:TpL T) (Wk:WkP T G) (Q:WkQ T) (k:Nat) (w1:W) (n q e ev:Nat):∀ (d f m:Nat) (h:HH) (r:Nat) (t:Tp) (js:List Nat),dep t m=d->d < f->m<=e->TAt h n r t->TI t e ev->Tl h n r q js->js.length+d<=50000 →
 ∃ y h' r' t',aP (BT.ev (runN T G (k+14)) G ocC) (evS (runN T G (k+14)) G ocB) f [some (.o n),some w1,some (.r q),some (.p (.int (m:Int)))] h=some (.nx [some (.o n),some w1,some (.r q),y] h')/\TAt h' n r' t'/\TI t' e ev/\Sm8 t t'/\Tl h' n r' q (js++(wt t m).reverse)/\h.length<=h'.length:=by
 intro d
 induction d with
 | zero =>
  intro f m h r t js hd hf hm a I T0 hj
  cases f with
  | zero=>omega
  | succ f =>
   obtain ⟨h1,r1,t1,b1,g1,I1,s1⟩:=dj P Wk (k+2) a I m hm
   rw[hd] at b1
   have ts:BT.ev (runN T G (k+14)) G ocC [some (.o n),some w1,some (.r q),some (.p (.int (m:Int)))] h=some (.p (.bl false),h1):=by
    simp[ocC,b1]
   have w0:wt t m=[]:=List.length_eq_zero_iff.mp (by rw[(dY I.run m hm).len,hd])
   refine ⟨some (.p (.int (m:Int))),h1,r1,t1,?_,g1.b,I1,s1,by rw[w0];simpa using T0.go g1,g1.le⟩
   rw[aP,ts,cg,fV]
 | succ d ih =>
  intro f m h r t js hd hf hm a I T0 hj
  cases f with
  | zero=>omega
  | succ f =>
   obtain ⟨h1,r1,t1,b1,g1,I1,s1⟩:=dj P Wk (k+2) a I m hm
   rw[hd] at b1
   have ts:BT.ev (runN T G (k+14)) G ocC [some (.o n),some w1,some (.r q),some (.p (.int (m:Int)))] h=some (.p (.bl true),h1):=by
    have c:(0:Int) < ((d+1:Nat):Int):=by omega
    generalize ((d+1:Nat):Int)=z at b1 c
    simp[ocC,b1,c]
   obtain ⟨j,h2,r2,t2,b2,B,g2,I2,s2⟩:=jy P L Wk Q k g1.b I1 m hm
   have D1:dep t1=dep t:=by funext i;unfold dep;rw[s1.p,s1.asked]
   rw[jx s1,D1] at B
   obtain ⟨l,o,hw⟩:=uv I.run hm (by omega)
   have jl:=uw o (by omega) B
   subst jl
   have S2:=s1.trans s2
   have T2:=(T0.go g1).go g2
   obtain ⟨T3,a3⟩:=T2.put g2.b j
   have oj:=o.lt
   have D2:dep t2=dep t:=by funext i;unfold dep;rw[S2.p,S2.asked]
   obtain ⟨y,h4,r4,t4,b4,a4,I4,s4,T4,ln⟩:=ih f j _ r2 t2 (js++[j]) (by rw[D2,o.at_];omega) (by omega) (by omega) a3 I2 T3 (by rw[OS,Pv];omega)
   have gl:=g1.le
   have gl2:=g2.le
   refine ⟨y,h4,r4,t4,?_,a4,I4,S2.trans s4,?_,?_⟩
   ·have la:=T2.at_
    have l1:(af js).length < 100000:=by unfold af;rw[OQ];omega
    have bd:evS (runN T G (k+14)) G ocB [some (.o n),some w1,some (.r q),some (.p (.int (m:Int)))] h1=some (.nx [some (.o n),some w1,some (.r q),some (.p (.int (j:Int)))] (h2.set q (.l (af js++[.int (j:Int)])))):=by
     simp[ocB,b2,la,l1]
    rw[aP,ts,cg,gq,bd,bM,b4]
   ·rw[(z9 S2 j).1,PF] at T4
    rw[hw,U3]
    exact T4
   ·rw[List.length_set] at ln;omega
theorem lM (P:TpP T G) (L:TpL T) (Wk:WkP T G) (Q:WkQ T) (C:CaP T G) (k:Nat) {n r:Nat}{t:Tp}{h:HH}{e ev:Nat} (a:TAt h n r t) (I:TI t e ev) (m:Nat) (hm:m<=e) :
 ∃ h' r' t',runN T G (k+15) "open_calls" [.o n,.p (.int (m:Int))] h=some (.p (.lst (af (wt t m))),h')/\TAt h' n r' t'/\TI t' e ev/\Sm8 t t':=by
 have le:=I.run.le
 have m1:=I.m1
 have T0:Tl (h++[.l []]) n r h.length []:=⟨by simp[lat];rfl,fun z=>by have:=jS a.ob;omega,fun z=>by have:=jT a.li;omega⟩
 have dl:=(dY I.run m hm).len
 have wl:=(iR t m).2
 obtain ⟨y,h1,r1,t1,b1,a1,I1,s1,T1,ln⟩:=C9 P L Wk Q k (.p (.int (m:Int))) n h.length e ev (dep t m) turns m (h++[.l []]) r t [] rfl (by unfold turns;omega) hm a.app I T0 (by simp only[PN];omega)
 have lr:(af ((wt t m).reverse)).reverse=af (wt t m):=by unfold af;rw[← List.map_reverse,List.reverse_reverse]
 have la:=T1.at_
 rw[Q8] at la
 have k1:(af (wt t m)).length<=100000:=by unfold af;rw[OQ];omega
 have key:∃ h' r' t',fin h (.p (.lst (af (wt t m)))) h1=some (.p (.lst (af (wt t m))),h')/\TAt h' n r' t'/\TI t' e ev/\Sm8 t t':=by
  unfold fin
  by_cases c:h1.length=h.length
  ·rw[if_pos c];exact ⟨h1,r1,t1,rfl,a1,I1,s1⟩
  ·rw[if_neg c]
   by_cases c2:h1.take h.length=h
   ·rw[if_pos c2];exact ⟨h,r,t,rfl,a,I,.refl t⟩
   ·rw[if_neg c2];exact ⟨h1,r1,t1,rfl,a1,I1,s1⟩
 obtain ⟨h',r',t',f0,a',I',s'⟩:=key
 refine ⟨h',r',t',?_,a',I',s'⟩
 rw[run_eq C.open_calls rfl,bZ]
 generalize hrv:af ((wt t m).reverse)=rv at la lr
 simp[b1,rd,la,lr,k1,f0]
end
end BT
end
section
namespace BT
open PySem
theorem dB {T:FK->Option Fn}{G:Str->Option W} (L:Lw T) (ns:List Int) (hl:ns.length<=1000) (q many:Int) (hm:0 < many):∃ z:Nat,(z:Int) < many/\∀ k h,runN T G (k+2) "_law_drawn" [.p (.lst (aa ns)),.p (.int q),.p (.int many)] h=some (.p (.int (z:Int)),h):=by
 have h0:=cA ns q hm
 have h1:=cB ns q hm
 refine ⟨(drw ns q many).toNat,by omega,fun k h=>?_⟩
 have:=cF (G:=G) L k ns hl q many hm h
 rw[this]
 congr 4
 omega
theorem Aa (xs:List Int) (v:Int):ded (xs++[v])=if (ded xs).any (·==v) then ded xs else ded xs++[v]:=by
 unfold ded
 rw[List.foldl_append];rfl
theorem Ab:∀ (n:Nat) (xs:List Int),xs.length=n->xs.Nodup->ded xs=xs
 | 0,xs,h,_=>by
  have:=List.length_eq_zero_iff.mp h
  subst this;rfl
 | n+1,xs,h,nd=>by
  have hne:xs≠[]:=fun z=>by rw[z] at h;cases h
  have e1:=TQ hne
  rw[← e1] at nd ⊢
  have nd1:=(List.nodup_append.mp nd).1
  rw[Aa,Ab n _ (by rw[PP];omega) nd1,if_neg]
  intro z
  obtain ⟨y,hy,e⟩:=List.any_eq_true.mp z
  have:=(List.nodup_append.mp nd).2.2 y hy _ ON
  exact this (eq_of_beq e)
theorem nq:∀ (xs:List Int),intsOf (aa xs)=some xs
 | []=>rfl
 | x :: xs=>by
  show (intsOf (aa xs)).map (x :: ·)=_
  rw[nq xs];rfl
section
variable {T:FK->Option Fn}{G:Str->Option W}
end
end BT
end
section
namespace BT
open PySem
noncomputable def rW (xs:List Nat):List Int:=xs.map fun (n:Nat)=>(n:Int)
theorem lN (xs:List Nat):af xs=aa (rW xs):=by unfold af aa rW;rw[Qc];rfl
theorem Dc {xs:List Nat} (h:xs.Pairwise (·<=·)):(rW xs).Pairwise (·<=·):=So _ (fun a b h=>by omega) h
theorem wj {xs ys:List Nat} (h:xs.Perm ys) (hy:ys.Pairwise (·<=·)):sortI (rW xs)=rW ys:=UZ ((sortI_perm _).trans (h.map _)) (pO _) (Dc hy)
theorem oQ (n:Nat):upto 0 n=af (O8 n):=by
 unfold upto af
 apply Qh
 intro i _
 rw[Int.zero_add]
theorem Ac (xs:List Int):dok 100 (.lst (aa xs))=true:=by
 show (aa xs).all (dok 99)=true
 unfold aa
 rw[List.all_map,P7]
 intro x _
 exact sA 99 x
theorem oR (xs:List Nat):(af xs).length=xs.length:=by unfold af;rw[OQ]
theorem Ad (xs:List D) (i:Int):(xs.all fun y=>bA y (.int i))=true:=List.all_eq_true.mpr fun y _=>gi (sA _ _)
noncomputable def vis (t:Tp) (e:Nat):Nat->Nat->List Nat
 | _,0=>[]
 | c,q+1=>mom (gvi t c) e++vis t e (c+1) q
theorem tnx (s:Sl) (h:HH) (k:Sl->HH->Option Fl):jY (some (.nx s h)) k=k s h:=Eq.trans rfl rfl
section
variable {T:FK->Option Fn}{G:Str->Option W}
theorem qC {α β:Type} (l:List α):l.filterMap (fun _=>(none:Option β))=[]:=by
 induction l with
 | nil=>rfl
 | cons x l ih=>rw[O9];exact ih
theorem Dd {js:List Nat} (h:js.Pairwise (· < ·)) (hl:js.length < 64):biD .sset [.lst (af js)]=some (.lst (af js)):=by
 have nd:(rW js).Nodup:=So _ (fun a b h=>by omega) h
 have le:js.Pairwise (·<=·):=h.imp fun h=>PK h
 rw[lN,pN,nq,Ql,if_pos (by unfold rW;rw[OQ];exact hl),Ab _ _ rfl nd,wj (.refl _) le]
 rfl
end
end BT
end
section
namespace BT
open PySem
noncomputable def clB:S:=(.seq (.set 5 "_law_way" (.call "_law_drawn" (.cons (.var 0 "_law_script") (.cons (.bin .add (.bin .add (.var 1 "_law_at") (.cst (.int 1))) (.bin .mul (.cst (.int 3)) (.var 4 "_law_k"))) (.cons (.cst (.int 5)) .nil)))))
 (.seq (.set 6 "_law_place" (.call "_law_drawn" (.cons (.var 0 "_law_script") (.cons (.bin .add (.bin .add (.var 1 "_law_at") (.cst (.int 2))) (.bin .mul (.cst (.int 3)) (.var 4 "_law_k"))) (.cons (.bin .add (.var 2 "_law_size") (.cst (.int 1))) .nil)))))
 (.seq (.set 7 "_law_step" (.tup (.cons (.cst (.str "set")) (.cons (.cst (.str "a")) (.cons (.tup (.cons (.cst (.str "add")) (.cons (.tup (.cons (.cst (.str "name")) (.cons (.cst (.str "a")) .nil))) (.cons (.tup (.cons (.cst (.str "num")) (.cons (.cst (.int 1)) .nil))) .nil)))) .nil)))))
 (.seq (.set 8 "_law_test" (.tup (.cons (.cst (.str "less")) (.cons (.tup (.cons (.cst (.str "num")) (.cons (.cst (.int 3)) .nil))) (.cons (.tup (.cons (.cst (.str "name")) (.cons (.cst (.str "a")) .nil))) .nil)))))
 (.ex (.me .append (.var 3 "_law_rows") (.cons (.idx (.lst false (.cons (.tup (.cons (.cst (.str "call")) (.cons (.var 6 "_law_place") .nil))) (.cons (.tup (.cons (.cst (.str "back")) .nil)) (.cons (.var 7 "_law_step") (.cons (.tup (.cons (.cst (.str "unless")) (.cons (.var 8 "_law_test") (.cons (.var 6 "_law_place") .nil)))) (.cons (.var 7 "_law_step") .nil)))))) (.var 5 "_law_way")) .nil)))))))
noncomputable def bw:Fn:=⟨["_law_script","_law_at"],["_law_script","_law_at","_law_size","_law_rows","_law_k","_law_way","_law_place","_law_step","_law_test"],
 (.seq (.set 2 "_law_size" (.bin .add (.cst (.int 3)) (.call "_law_drawn" (.cons (.var 0 "_law_script") (.cons (.var 1 "_law_at") (.cons (.cst (.int 4)) .nil))))))
 (.seq (.set 3 "_law_rows" (.lst true .nil))
 (.seq (.for [(4,"_law_k")] .rng1 (.cons (.var 2 "_law_size") .nil) clB)
 (.ret (.idx (.lst false (.cons (.bi .tuple false (.cons (.var 3 "_law_rows") .nil)) (.cons (.call "_law_program" (.cons (.var 0 "_law_script") (.cons (.cst (.int 20)) .nil))) .nil))) (.call "_law_drawn" (.cons (.var 0 "_law_script") (.cons (.bin .add (.var 1 "_law_at") (.cst (.int 60))) (.cons (.cst (.int 2)) .nil)))))))))⟩
section
variable {T:FK->Option Fn}{G:Str->Option W}
noncomputable def iS:Rw:=.set .a (.two .add (.nam .a) (.num 1))
noncomputable def jB (p:Nat):List Rw:=[.call p,.back,iS,.unless (.two .less (.num 3) (.nam .a)) p,iS]
theorem De {n p:Nat} (hp:p<=n):∀ r∈jB p,r.ok n:=by
 intro r hr
 simp only[jB,QS,Qo,or_false] at hr
 rcases hr with rfl | rfl | rfl | rfl | rfl
 ·exact hp
 ·trivial
 ·exact ⟨⟨trivial,⟨by decide,by decide⟩⟩,by decide⟩
 ·exact ⟨⟨⟨⟨by decide,by decide⟩,trivial⟩,by decide⟩,hp⟩
 ·exact ⟨⟨trivial,⟨by decide,by decide⟩⟩,by decide⟩
theorem ux (L:Lw T) (ns:List Int) (hl:ns.length<=1000) (p:Int) (S:Nat):∀ (q lo:Nat),∃ new:Pg,(∀ r∈new,Rw.ok S r)/\new.length=q/\∀ (k:Nat) (h:HH) (rows:Pg) (x4 x5 x6 x7 x8:Option W),rows.length+q<=100 →
 ∃ y4 y5 y6 y7 y8,aQ (evS (runN T G (k+7)) G clB) [(4,"_law_k")] (upto (lo:Int) q) [some (.p (.lst (aa ns))),some (.p (.int p)),some (.p (.int (S:Int))),some (.r h.length),x4,x5,x6,x7,x8] (h++[.l (rows.map Rw.enc)]) =
  some (.nx [some (.p (.lst (aa ns))),some (.p (.int p)),some (.p (.int (S:Int))),some (.r h.length),y4,y5,y6,y7,y8] (h++[.l ((rows++new).map Rw.enc)]))
 | 0,lo=>⟨[],fun r hr=>absurd hr (by simp),rfl,fun k h rows x4 x5 x6 x7 x8 _=>⟨x4,x5,x6,x7,x8,by rw[Pk];rfl⟩⟩
 | q+1,lo=>by
  obtain ⟨z,hz,dz⟩:=dB (G:=G) L ns hl (p+1+3*(lo:Int)) 5 (by decide)
  obtain ⟨pl,hpl,dp⟩:=dB (G:=G) L ns hl (p+2+3*(lo:Int)) ((S:Int)+1) (by omega)
  have hp:pl<=S:=by omega
  obtain ⟨rw0,hr0,hr1⟩:∃ rw0,rw0∈jB pl/\aD (.lst ((jB pl).map Rw.enc)) (.int (z:Int))=some rw0.enc:=by
   have:z=0\/z=1\/z=2\/z=3\/z=4:=by omega
   rcases this with rfl | rfl | rfl | rfl | rfl
   ·exact ⟨.call pl,by simp[jB],rfl⟩
   ·exact ⟨.back,by simp[jB],rfl⟩
   ·exact ⟨iS,by simp[jB],rfl⟩
   ·exact ⟨.unless (.two .less (.num 3) (.nam .a)) pl,by simp[jB],rfl⟩
   ·exact ⟨iS,by simp[jB],rfl⟩
  obtain ⟨new,ok,len,go⟩:=ux L ns hl p S q (lo+1)
  refine ⟨rw0 :: new,fun r hr=>?_,by simp[len],fun k h rows x4 x5 x6 x7 x8 hl2=>?_⟩
  ·rcases List.mem_cons.mp hr with e | e
   ·subst e;exact De hp r hr0
   ·exact ok r e
  obtain ⟨y4,y5,y6,y7,y8,b⟩:=go k h (rows++[rw0]) (some (.p (.int (lo:Int)))) (some (.p (.int (z:Int)))) (some (.p (.int (pl:Int)))) (some (.p iS.enc)) (some (.p (Sm.two .less (.num 3) (.nam .a)).enc)) (by simp;omega)
  rw[PF] at b
  refine ⟨y4,y5,y6,y7,y8,?_⟩
  have dz':=fun h=>dz (k+5) h
  have dp':=fun h=>dp (k+5) h
  have bg:(big 3=true\/big (lo:Int)=true):=.inl (by decide)
  have l0:lat (h++[Cl.l (rows.map Rw.enc)]) h.length=some (rows.map Rw.enc):=by simp[lat]
  have l1:rows.length < 100000:=by omega
  have ls:(h++[Cl.l (rows.map Rw.enc)]).set h.length (Cl.l (rows.map Rw.enc++[rw0.enc]))=h++[Cl.l ((rows++[rw0]).map Rw.enc)]:=by simp
  have hr2:aD (.lst [.tup [.str "call",.int (pl:Int)],.tup [.str "back"],.tup [.str "set",.str "a",.tup [.str "add",.tup [.str "name",.str "a"],.tup [.str "num",.int 1]]],.tup [.str "unless",.tup [.str "less",.tup [.str "num",.int 3],.tup [.str "name",.str "a"]],.int (pl:Int)],.tup [.str "set",.str "a",.tup [.str "add",.tup [.str "name",.str "a"],.tup [.str "num",.int 1]]]]) (.int (z:Int))=some rw0.enc:=hr1
  have bd:evS (runN T G (k+7)) G clB [some (.p (.lst (aa ns))),some (.p (.int p)),some (.p (.int (S:Int))),some (.r h.length),some (.p (.int (lo:Int))),x5,x6,x7,x8] (h++[.l (rows.map Rw.enc)]) =
   some (.nx [some (.p (.lst (aa ns))),some (.p (.int p)),some (.p (.int (S:Int))),some (.r h.length),some (.p (.int (lo:Int))),some (.p (.int (z:Int))),some (.p (.int (pl:Int))),some (.p iS.enc),some (.p (Sm.two .less (.num 3) (.nam .a)).enc)] (h++[.l ((rows++[rw0]).map Rw.enc)])):=by
   rw[← ls]
   simp[-aW,-Rm,clB,bg,dz',dp',hr2,l0,l1,iS,Rw.enc,Sm.enc,Nm.w,Op.w]
  have e1:((lo:Int)+1)=((lo+1:Nat):Int):=by omega
  rw[fY,e1]
  have st:∀ (d:D) (l:List D),aQ (evS (runN T G (k+7)) G clB) [(4,"_law_k")] (d :: l) [some (.p (.lst (aa ns))),some (.p (.int p)),some (.p (.int (S:Int))),some (.r h.length),x4,x5,x6,x7,x8] (h++[.l (rows.map Rw.enc)]) =
   fJ (evS (runN T G (k+7)) G clB [some (.p (.lst (aa ns))),some (.p (.int p)),some (.p (.int (S:Int))),some (.r h.length),some (.p d),x5,x6,x7,x8] (h++[.l (rows.map Rw.enc)])) (aQ (evS (runN T G (k+7)) G clB) [(4,"_law_k")] l):=fun d l=>rfl
  rw[st,bd,bM]
  exact b
theorem qD (L:Lw T) (hP:T "_law_program"=some aR) (hC:T "_law_calling"=some bw) (ns:List Int) (hl:ns.length<=1000) (p:Int) :
 ∃ pg:Pg,Pg.ok pg/\∀ (m:Nat) (h:HH),runN T G (m+8) "_law_calling" [.p (.lst (aa ns)),.p (.int p)] h=some (.p (bq pg),h):=by
 obtain ⟨z,hz,dz⟩:=dB (G:=G) L ns hl p 4 (by decide)
 obtain ⟨y,hy,dy⟩:=dB (G:=G) L ns hl (p+60) 2 (by decide)
 obtain ⟨p2,d2,r2⟩:=qu (G:=G) L hP ns hl 20
 obtain ⟨rows,ok,len,go⟩:=ux (G:=G) L ns hl p (3+z) (3+z) 0
 have ok1:Pg.ok rows:=fun r hr=>by rw[len];exact ok r hr
 refine ⟨if y=0 then rows else p2,by split;exact ok1;exact d2.ok,fun m h=>?_⟩
 obtain ⟨y4,y5,y6,y7,y8,b⟩:=go m h [] none none none none none (by simp;omega)
 rw[run_eq hC rfl,bw]
 have dz':=fun h=>dz (m+5) h
 have dy':=fun h=>dy (m+5) h
 have e1:(3:Int)+(z:Int)=((3+z:Nat):Int):=by omega
 have rg:dH .rng1 [.int ((3+z:Nat):Int)]=some (upto 0 (3+z)):=by
  rw[bI]
  have c:((-100000<=(((3+z:Nat):Int)):Bool)&&(((3+z:Nat):Int)<=100000:Bool))=true:=by
   simp only[OC,decide_eq_true_eq];omega
  rw[if_pos c];rfl
 have l0:lat (h++[Cl.l (rows.map Rw.enc)]) h.length=some (rows.map Rw.enc):=by simp[lat]
 have f0:=fun d=>gF h [Cl.l (rows.map Rw.enc)] d
 have ix:aD (.lst [.tup (rows.map Rw.enc),bq p2]) (.int (y:Int))=some (bq (if y=0 then rows else p2)):=by
  have:y=0\/y=1:=by omega
  rcases this with rfl | rfl
  ·rfl
  ·rfl
 have b':aQ (evS (runN T G (m+7)) G clB) [(4,"_law_k")] (upto 0 (3+z)) [some (.p (.lst (aa ns))),some (.p (.int p)),some (.p (.int ((3+z:Nat):Int))),some (.r h.length),none,none,none,none,none] (h++[.l []])=some (.nx [some (.p (.lst (aa ns))),some (.p (.int p)),some (.p (.int ((3+z:Nat):Int))),some (.r h.length),y4,y5,y6,y7,y8] (h++[.l (rows.map Rw.enc)])):=b
 generalize hS:((3+z:Nat):Int)=S at e1 rg b'
 have r2':=fun h=>r2 m h
 simp[-aW,-bI,-aQ,dz',e1,rg,f6,b',rd,l0,r2',dy',ix,f0]
theorem Sm8.dep {t t':Tp} (s:Sm8 t t') (i:Nat):dep t' i=dep t i:=by unfold BT.dep;rw[s.p,s.asked]
end
end BT
end
section
namespace BT
open PySem
noncomputable def GX:E:=(.cmp .le (.call "depth" (.cons (.var 1 "_law_tape") (.cons (.var 0 "_law_at") .nil))) (.call "depth" (.cons (.var 1 "_law_tape") (.cons (.var 2 "_law_start") .nil))))
noncomputable def JT:E:=(.comp false .rng2 (.cons (.bin .add (.var 5 "_law_start") (.cst (.int 1))) (.cons (.bin .add (.var 3 "_law_end") (.cst (.int 1))) .nil)) ["_law_at"] [(2,"_law_tape"),(5,"_law_start")] (.cons GX .nil) (.var 0 "_law_at"))
noncomputable def GY:E:=(.or (.cmp .ne (.idx (.idx (.var 1 "_law_program_here") (.idx (.meth (.var 2 "_law_tape") "at" (.cons (.var 5 "_law_start") .nil)) (.cst (.int 0)))) (.cst (.int 0))) (.cst (.str "call"))) (.cmp .ne (.call "depth" (.cons (.var 2 "_law_tape") (.cons (.bin .add (.var 5 "_law_start") (.cst (.int 1))) .nil))) (.bin .add (.call "depth" (.cons (.var 2 "_law_tape") (.cons (.var 5 "_law_start") .nil))) (.cst (.int 1)))))
noncomputable def GZ:E:=(.or (.cmp .ne (.idx (.meth (.var 2 "_law_tape") "at" (.cons (.var 6 "_law_behind") .nil)) (.cst (.int 0))) (.bin .add (.idx (.meth (.var 2 "_law_tape") "at" (.cons (.var 5 "_law_start") .nil)) (.cst (.int 0))) (.cst (.int 1)))) (.cmp .ne (.call "depth" (.cons (.var 2 "_law_tape") (.cons (.var 6 "_law_behind") .nil))) (.call "depth" (.cons (.var 2 "_law_tape") (.cons (.var 5 "_law_start") .nil)))))
noncomputable def G0:E:=(.or (.cmp .ne (.call "over" (.cons (.var 2 "_law_tape") (.cons (.var 5 "_law_start") .nil))) (.var 6 "_law_behind")) (.cmp .ne (.call "back_over" (.cons (.var 2 "_law_tape") (.cons (.var 6 "_law_behind") .nil))) (.var 5 "_law_start")))
noncomputable def G1:E:=(.cmp .ne (.call "out" (.cons (.var 2 "_law_tape") (.cons (.bin .add (.var 5 "_law_start") (.cst (.int 1))) .nil))) (.var 6 "_law_behind"))
noncomputable def oU:S:=(.seq (.ife GY (.ret (.cst (.bl false))) .nil)
 (.ife (.cmp .isN (.var 6 "_law_behind") (.cst .non)) (.ife (.cmp .ne JT (.lst false .nil)) (.ret (.cst (.bl false))) .nil) (.seq (.ife GZ (.ret (.cst (.bl false))) .nil)
 (.seq (.ife G0 (.ret (.cst (.bl false))) .nil)
 (.ife G1 (.ret (.cst (.bl false))) .nil)))))
noncomputable def G4:E:=(.or (.cmp .ne (.bi .len false (.cons (.var 8 "_law_open_ones") .nil)) (.call "depth" (.cons (.var 2 "_law_tape") (.cons (.var 7 "_law_moment") .nil)))) (.cmp .ne (.var 8 "_law_open_ones") (.bi .sset false (.cons (.var 8 "_law_open_ones") .nil))))
noncomputable def Df:E:=(.cmp .nmem (.var 0 "_law_at") (.comp false .seq (.cons (.var 1 "_law_every") .nil) ["_law_start","_law_behind"] [] .nil (.var 0 "_law_start")))
noncomputable def JU:E:=(.comp false .seq (.cons (.var 8 "_law_open_ones") .nil) ["_law_at"] [(4,"_law_every")] (.cons Df .nil) (.var 0 "_law_at"))
noncomputable def G5:E:=(.and (.cmp .eq (.call "out" (.cons (.var 2 "_law_tape") (.cons (.var 7 "_law_moment") .nil))) (.var 3 "_law_end")) (.cmp .eq (.call "back_out" (.cons (.var 2 "_law_tape") (.cons (.var 7 "_law_moment") .nil))) (.cst (.int 0))))
noncomputable def G6:E:=(.cmp .ne (.call "back_out" (.cons (.var 2 "_law_tape") (.cons (.var 7 "_law_moment") .nil))) (.idx (.var 8 "_law_open_ones") (.neg (.cst (.int 1)))))
noncomputable def Dg:E:=(.cmp .le (.call "over" (.cons (.var 2 "_law_tape") (.cons (.var 7 "_law_moment") .nil))) (.bin .sub (.var 7 "_law_moment") (.bi .int false (.cons (.cmp .eq (.var 7 "_law_moment") (.var 3 "_law_end")) .nil))))
noncomputable def G7:E:=(.cmp .eq (.comp false .seq (.cons (.var 8 "_law_open_ones") .nil) ["_law_at"] [(2,"_law_tape")] .nil (.call "depth" (.cons (.var 1 "_law_tape") (.cons (.var 0 "_law_at") .nil)))) (.lsr false .rng1 (.cons (.bi .len false (.cons (.var 8 "_law_open_ones") .nil)) .nil)))
noncomputable def Ae:S:=(.seq (.ife G4 (.ret (.cst (.bl false))) .nil)
 (.seq (.ife (.cmp .ne JU (.lst false .nil)) (.ret (.cst (.bl false))) .nil)
 (.seq (.ife (.cmp .eq (.var 8 "_law_open_ones") (.lst false .nil)) (.ret G5) .nil)
 (.seq (.ife G6 (.ret (.cst (.bl false))) .nil)
 (.seq (.ife Dg (.ret (.cst (.bl false))) .nil)
 (.ret G7))))))
noncomputable def Dh:S:=(.seq (.set 7 "_law_moment" (.call "_law_drawn" (.cons (.var 0 "_law_script") (.cons (.cst (.int 443)) (.cons (.bin .add (.var 3 "_law_end") (.cst (.int 1))) .nil)))))
 (.seq (.set 8 "_law_open_ones" (.call "open_calls" (.cons (.var 2 "_law_tape") (.cons (.var 7 "_law_moment") .nil))))
 Ae))
noncomputable def Di:S:=(.seq (.set 1 "_law_program_here" (.call "_law_calling" (.cons (.var 0 "_law_script") (.cons (.cst (.int 600)) .nil))))
 (.seq (.set 2 "_law_tape" (.make "Tape" (.cons (.var 1 "_law_program_here") (.cons (.call "_law_asked" (.cons (.var 0 "_law_script") (.cons (.cst (.int 450)) .nil))) (.cons (.bin .add (.cst (.int 1)) (.call "_law_drawn" (.cons (.var 0 "_law_script") (.cons (.cst (.int 441)) (.cons (.cst (.int 5)) .nil))))) (.cons (.call "_law_drawn" (.cons (.var 0 "_law_script") (.cons (.cst (.int 440)) (.cons (.cst (.int 15)) .nil)))) .nil))))))
 (.seq (.set 3 "_law_end" (.meth (.var 2 "_law_tape") "end" .nil))
 (.seq (.set 4 "_law_every" (.call "calls" (.cons (.var 2 "_law_tape") .nil)))
 (.seq (.for [(5,"_law_start"),(6,"_law_behind")] .seq (.cons (.var 4 "_law_every") .nil) oU)
 Dh)))))
noncomputable def fO:Fn:=⟨["_law_script"],["_law_script","_law_program_here","_law_tape","_law_end","_law_every","_law_start","_law_behind","_law_moment","_law_open_ones"],
 Di⟩
structure Nj (T:FK->Option Fn):Prop where
 lw:Lw T
 program:T "_law_program"=some aR
 calling:T "_law_calling"=some bw
 law:T "law"=some fO
structure fQ (T:FK->Option Fn) (G:Str->Option W):Prop where
 P:TpP T G
 M:TpE T
 L:TpL T
 R:TpR T
 Wk:WkP T G
 Q:WkQ T
 C:CaP T G
noncomputable def Ok (n e ev:Nat) (t:Tp) (h:HH):Prop:=∃ r t',TAt h n r t'/\TI t' e ev/\Sm8 t t'
section
variable {T:FK->Option Fn}{G:Str->Option W}
theorem dU (A:fQ T G) (k:Nat) {n e ev:Nat}{t:Tp}{h:HH} (o:Ok n e ev t h) (m:Nat) (hm:m<=e) :
 ∃ h',runN T G (k+12) "depth" [.o n,.p (.int m)] h=some (.p (.int (dep t m)),h')/\Ok n e ev t h':=by
 obtain ⟨r,t1,a,I,s⟩:=o
 obtain ⟨h',r',t',b,g,I',s'⟩:=dj A.P A.Wk k a I m hm
 rw[s.dep] at b
 exact ⟨h',b,r',t',g.b,I',s.trans s'⟩
theorem Af (A:fQ T G) (k:Nat) {n e ev:Nat}{t:Tp}{h:HH} (o:Ok n e ev t h) (m:Nat) (hm:m<=e) :
 ∃ fs,oat h n=some (OT "Tape",fs)/\aX "at" fs=none/\∃ h',runN T G (k+11) (.m "Tape" "at") [.o n,.p (.int m)] h=some (.p (itr t.p t.asked m).enc,h')/\Ok n e ev t h':=by
 obtain ⟨r,t1,a,I,s⟩:=o
 obtain ⟨h',r',t',b,g,I',s',_⟩:=rT A.P k a I m hm
 rw[s.p,s.asked] at b
 exact ⟨_,a.ob,CY _ _,h',b,r',t',g.b,I',s.trans s'⟩
theorem uy (A:fQ T G) (k:Nat) {n e ev:Nat}{t:Tp}{h:HH} (o:Ok n e ev t h) (m:Nat) (hm:m<=e) :
 ∃ (j:Nat) (h':HH),runN T G (k+14) "over" [.o n,.p (.int m)] h=some (.p (.int (j:Int)),h')/\NX (wi t (dep t m)) m e j/\Ok n e ev t h':=by
 obtain ⟨r,t1,a,I,s⟩:=o
 obtain ⟨j,h',r',t',b,N,g,I',s'⟩:=zY A.P A.M A.L A.Wk A.Q k a I m hm
 rw[s.dep,jx s] at N
 exact ⟨j,h',b,N,r',t',g.b,I',s.trans s'⟩
theorem Ag (A:fQ T G) (k:Nat) {n e ev:Nat}{t:Tp}{h:HH} (o:Ok n e ev t h) (m:Nat) (hm:m<=e) :
 ∃ (j:Nat) (h':HH),runN T G (k+14) "out" [.o n,.p (.int m)] h=some (.p (.int (j:Int)),h')/\NX (wi t ((dep t m:Int) - 1)) m e j/\Ok n e ev t h':=by
 obtain ⟨r,t1,a,I,s⟩:=o
 obtain ⟨j,h',r',t',b,N,g,I',s'⟩:=C3 A.P A.M A.L A.Wk A.Q k a I m hm
 rw[s.dep,jx s] at N
 exact ⟨j,h',b,N,r',t',g.b,I',s.trans s'⟩
theorem Ah (A:fQ T G) (k:Nat) {n e ev:Nat}{t:Tp}{h:HH} (o:Ok n e ev t h) (m:Nat) (hm:m<=e) :
 ∃ (j:Nat) (h':HH),runN T G (k+14) "back_over" [.o n,.p (.int m)] h=some (.p (.int (j:Int)),h')/\BX (wi t (dep t m)) m j/\Ok n e ev t h':=by
 obtain ⟨r,t1,a,I,s⟩:=o
 obtain ⟨j,h',r',t',b,N,g,I',s'⟩:=mG A.P A.L A.Wk A.Q k a I m hm
 rw[s.dep,jx s] at N
 exact ⟨j,h',b,N,r',t',g.b,I',s.trans s'⟩
theorem uz (A:fQ T G) (k:Nat) {n e ev:Nat}{t:Tp}{h:HH} (o:Ok n e ev t h) (m:Nat) (hm:m<=e) :
 ∃ (j:Nat) (h':HH),runN T G (k+14) "back_out" [.o n,.p (.int m)] h=some (.p (.int (j:Int)),h')/\BX (wi t ((dep t m:Int) - 1)) m j/\Ok n e ev t h':=by
 obtain ⟨r,t1,a,I,s⟩:=o
 obtain ⟨j,h',r',t',b,N,g,I',s'⟩:=jy A.P A.L A.Wk A.Q k a I m hm
 rw[s.dep,jx s] at N
 exact ⟨j,h',b,N,r',t',g.b,I',s.trans s'⟩
theorem G8 {t:Tp}{b:Int}{i:Nat} (h:(dep t i:Int)<=b):wi t b i=true:=decide_eq_true h
theorem Dj {t:Tp}{b:Int}{i:Nat} (h:b < (dep t i:Int)):wi t b i=false:=decide_eq_false (by omega)
theorem Ea {g:Nat->Bool}{m e j b:Nat} (N:NX g m e j) (hb:g b=true) (mb:m < b) (be:b<=e) (gap:∀ i,m < i->i < b->g i=false):j=b:=by
 have l:=N.lt (by omega)
 rcases Qf j b with z | z | z
 ·have:=N.yes (by omega)
  rw[gap j l z] at this;cases this
 ·exact z
 ·rw[N.gap b mb z] at hb;cases hb
theorem JV {g:Nat->Bool}{m j b:Nat} (N:BX g m j) (hb:g b=true) (bm:b < m) (gap:∀ i,b < i->i < m->g i=false):j=b:=by
 have l:=N.lt (by omega)
 rcases Qf j b with z | z | z
 ·rw[N.gap b z bm] at hb;cases hb
 ·exact z
 ·have:=N.yes (by omega)
  rw[gap j z l] at this;cases this
structure Cal (t:Tp) (e s:Nat) (o:Option Nat):Prop where
 lt:s < e
 row:∃ c,t.p[(itr t.p t.asked s).row]?=some (.call c)
 up:dep t (s+1)=dep t s+1
 non:o=none->∀ j,s < j->j<=e->dep t s < dep t j
 som:∀ b,o=some b->s < b/\b<=e/\dep t b=dep t s/\(itr t.p t.asked b).row=(itr t.p t.asked s).row+1/\∀ j,s < j->j < b->dep t s < dep t j
theorem G9 {t:Tp}{e:Nat} (R:Run t.p t.asked t.most e) {p:Nat×Option Nat} (h:p∈en t e):Cal t e p.1 p.2:=by
 have I:=oO R e (OE _)
 obtain ⟨s,o⟩:=p
 refine ⟨I.lt _ h,(I.start _ h).1,(I.start _ h).2,fun z=>?_,fun b z=>?_⟩
 ·cases z
  obtain ⟨k,hk⟩:=Po (I.non s h)
  have w:=(dY R e (OE _)).ok k s hk
  show ∀ j,s < j->j<=e->dep t s < dep t j
  rw[w.2.1]
  exact w.2.2.2.2
 ·cases z
  exact I.som s b h
noncomputable abbrev s31 (w0:W) (dp:D) (n:Nat) (e:Nat) (w4:W) (rest:Sl):Sl:=some w0 :: some (.p dp) :: some (.o n) :: some (.p (.int (e:Int))) :: some w4 :: rest
theorem JW (A:fQ T G) (k:Nat) (w0 w4:W) (rest:Sl) {n e ev:Nat}{t:Tp}{h:HH} (o:Ok n e ev t h) {s:Nat}{ob:Option Nat} (c:Cal t e s ob) :
 ∃ h',BT.ev (runN T G (k+14)) G GY (s31 w0 (bq t.p) n e w4 (some (.p (.int (s:Int))) :: rest)) h=some (.p (.bl false),h')/\Ok n e ev t h':=by
 have cl:=c.lt
 obtain ⟨fs,ob,ma,h1,b1,o1⟩:=Af A (k+3) o s (by omega)
 obtain ⟨h2,b2,o2⟩:=dU A (k+2) o1 (s+1) (by omega)
 obtain ⟨h3,b3,o3⟩:=dU A (k+2) o2 s (by omega)
 refine ⟨h3,?_,o3⟩
 obtain ⟨rc,hr⟩:=c.row
 have i1:aD (itr t.p t.asked s).enc (.int 0)=some (.int ((itr t.p t.asked s).row:Int)):=rfl
 have i2:aD (bq t.p) (.int ((itr t.p t.asked s).row:Int))=some (Rw.call rc).enc:=by
  show atP _ _=_
  rw[ig,O2,hr];rfl
 have i3:aD (Rw.call rc).enc (.int 0)=some (.str "call"):=rfl
 have e1:(s:Int)+1=((s+1:Nat):Int):=by omega
 have e2:(dep t s:Int)+1=(dep t (s+1):Int):=by rw[c.up];omega
 generalize hz:((s+1:Nat):Int)=z at b2 e1
 generalize (dep t (s+1):Int)=d1 at b2 e2
 simp[-nI,GY,ob,ma,b1,i1,i2,i3,b2,b3,e1,e2]
theorem Nk {a b:Int}{h:HH}{ds:List D} (rg:dH .rng2 [.int a,.int b]=some ds):(rds [.p (.int a),.p (.int b)] h).bind (dH .rng2)=some ds:=rg
theorem JX (A:fQ T G) (k:Nat) (w0 w1 w4:W) (rest:Sl) {n e ev:Nat}{t:Tp}{h:HH} (he:e<=1000) (o:Ok n e ev t h) {s:Nat} (c:Cal t e s none) :
 ∃ h',BT.ev (runN T G (k+14)) G JT (some w0 :: some w1 :: some (.o n) :: some (.p (.int (e:Int))) :: some w4 :: some (.p (.int (s:Int))) :: rest) h=some (.p (.lst []),h')/\Ok n e ev t h':=by
 have cl:=c.lt
 obtain ⟨h',cc,o'⟩:=zZ (dZ (evs (runN T G (k+14)) G (.cons GX .nil)) (BT.ev (runN T G (k+14)) G (.var 0 "_law_at")) [some (.o n),some (.p (.int (s:Int)))]) (fun (i:Nat)=>D.int ((s:Int)+1+(i:Int))) (fun _=>none) (Ok n e ev t) (O8 (e - s)) (fun i hi h o=>by
  have hi:=List.mem_range.mp hi
  obtain ⟨h1,b1,o1⟩:=dU A (k+2) o (s+1+i) (by omega)
  obtain ⟨h2,b2,o2⟩:=dU A (k+2) o1 s (by omega)
  have z:=c.non rfl (s+1+i) (by omega) (by omega)
  have z1:¬ ((dep t (s+1+i):Int)<=(dep t s:Int)):=by omega
  have e1:(s:Int)+1+(i:Int)=((s+1+i:Nat):Int):=by omega
  refine ⟨h2,?_,o2⟩
  generalize ((s+1+i:Nat):Int)=y at b1 e1
  generalize (dep t (s+1+i):Int)=d1 at b1 z1
  simp[dZ,c7,GX,e1,b1,b2,z1]) h o
 refine ⟨h',?_,o'⟩
 rw[qC] at cc
 have rg:dH .rng2 [.int ((s:Int)+1),.int ((e:Int)+1)]=some (upto ((s:Int)+1) (e - s)):=by
  rw[gS]
  have c:((-100000<=((s:Int)+1):Bool)&&(((s:Int)+1)<=100000:Bool)&&((-100000<=((e:Int)+1):Bool))&&((((e:Int)+1)<=100000:Bool)))=true:=by
   simp only[OC,decide_eq_true_eq];omega
  rw[if_pos c,show (((e:Int)+1) - ((s:Int)+1)).toNat=e - s by omega]
 exact kD (ws:=[.p (.int ((s:Int)+1)),.p (.int ((e:Int)+1))]) (h1:=h) (fs:=[some (.o n),some (.p (.int (s:Int)))]) (by simp) (Nk rg) rfl rfl cc (by simp)
theorem JY (A:fQ T G) (k:Nat) (w0 w1 w3 w4:W) (rest:Sl) {n e ev:Nat}{t:Tp}{h:HH} (o:Ok n e ev t h) {s b:Nat} (c:Cal t e s (some b)) :
 ∃ h',BT.ev (runN T G (k+14)) G GZ (some w0 :: some w1 :: some (.o n) :: some w3 :: some w4 :: some (.p (.int (s:Int))) :: some (.p (.int (b:Int))) :: rest) h=some (.p (.bl false),h')/\Ok n e ev t h':=by
 obtain ⟨c1,c2,c3,c4,_⟩:=c.som b rfl
 obtain ⟨fs,ob,ma,h1,b1,o1⟩:=Af A (k+3) o b c2
 obtain ⟨fs2,ob2,ma2,h2,b2,o2⟩:=Af A (k+3) o1 s (by omega)
 obtain ⟨h3,b3,o3⟩:=dU A (k+2) o2 b c2
 obtain ⟨h4,b4,o4⟩:=dU A (k+2) o3 s (by omega)
 refine ⟨h4,?_,o4⟩
 have i1:aD (itr t.p t.asked s).enc (.int 0)=some (.int ((itr t.p t.asked s).row:Int)):=rfl
 have i2:aD (itr t.p t.asked b).enc (.int 0)=some (.int (((itr t.p t.asked s).row:Int)+1)):=by
  have:aD (itr t.p t.asked b).enc (.int 0)=some (.int ((itr t.p t.asked b).row:Int)):=rfl
  rw[this,c4,Int.natCast_add];rfl
 rw[c3] at b3
 generalize (itr t.p t.asked s).enc=d1 at b2 i1
 generalize (itr t.p t.asked b).enc=d2 at b1 i2
 simp[GZ,ob,ma,b1,ob2,ma2,b2,i1,i2,b3,b4]
theorem JZ (A:fQ T G) (k:Nat) (w0 w1 w3 w4:W) (rest:Sl) {n e ev:Nat}{t:Tp}{h:HH} (o:Ok n e ev t h) {s b:Nat} (c:Cal t e s (some b)) :
 ∃ h',BT.ev (runN T G (k+14)) G G0 (some w0 :: some w1 :: some (.o n) :: some w3 :: some w4 :: some (.p (.int (s:Int))) :: some (.p (.int (b:Int))) :: rest) h=some (.p (.bl false),h')/\Ok n e ev t h':=by
 obtain ⟨c1,c2,c3,c4,c5⟩:=c.som b rfl
 obtain ⟨j,h1,b1,N,o1⟩:=uy A k o s (by omega)
 have jb:=Ea N (G8 (by rw[c3];exact Int.le_refl _)) c1 c2 fun i i1 i2=>Dj (by have:=c5 i i1 i2;omega)
 obtain ⟨j2,h2,b2,B,o2⟩:=Ah A k o1 b c2
 have js:=JV B (G8 (by rw[c3];exact Int.le_refl _)) c1 fun i i1 i2=>Dj (by have:=c5 i i1 i2;omega)
 subst jb
 subst js
 refine ⟨h2,?_,o2⟩
 simp[G0,b1,b2]
theorem J0 (A:fQ T G) (k:Nat) (w0 w1 w3 w4:W) (rest:Sl) {n e ev:Nat}{t:Tp}{h:HH} (o:Ok n e ev t h) {s b:Nat} (c:Cal t e s (some b)) :
 ∃ h',BT.ev (runN T G (k+14)) G G1 (some w0 :: some w1 :: some (.o n) :: some w3 :: some w4 :: some (.p (.int (s:Int))) :: some (.p (.int (b:Int))) :: rest) h=some (.p (.bl false),h')/\Ok n e ev t h':=by
 obtain ⟨c1,c2,c3,c4,c5⟩:=c.som b rfl
 have up:=c.up
 have sb:s+1 < b:=by
  rcases OR (s+1) b with z | z
  ·exact z
  ·rw[show b=s+1 by omega] at c3;omega
 obtain ⟨j,h1,b1,N,o1⟩:=Ag A k o (s+1) (by omega)
 have jb:=Ea N (G8 (by omega)) sb c2 fun i i1 i2=>Dj (by have:=c5 i (by omega) i2;omega)
 subst jb
 refine ⟨h1,?_,o1⟩
 have e1:(s:Int)+1=((s+1:Nat):Int):=by omega
 generalize ((s+1:Nat):Int)=z at b1 e1
 simp[G1,e1,b1]
theorem Ai (A:fQ T G) (k:Nat) (w0 w4:W) (rest:Sl) {n e ev:Nat}{t:Tp}{h:HH} (he:e<=1000) (o:Ok n e ev t h) {s:Nat}{ob:Option Nat} (c:Cal t e s ob) :
 ∃ h',evS (runN T G (k+14)) G oU (s31 w0 (bq t.p) n e w4 (some (.p (.int (s:Int))) :: some (.p (bY ob)) :: rest)) h=some (.nx (s31 w0 (bq t.p) n e w4 (some (.p (.int (s:Int))) :: some (.p (bY ob)) :: rest)) h')/\Ok n e ev t h':=by
 obtain ⟨h1,b1,o1⟩:=JW A k w0 w4 (some (.p (bY ob)) :: rest) o c
 cases ob with
 | none =>
  obtain ⟨h2,b2,o2⟩:=JX A k w0 (.p (bq t.p)) w4 (some (.p (bY none)) :: rest) he o1 c
  refine ⟨h2,?_,o2⟩
  rw[zS] at b1 b2
  simp[oU,b1,b2]
 | some b =>
  obtain ⟨h2,b2,o2⟩:=JY A k w0 (.p (bq t.p)) (.p (.int (e:Int))) w4 rest o1 c
  obtain ⟨h3,b3,o3⟩:=JZ A k w0 (.p (bq t.p)) (.p (.int (e:Int))) w4 rest o2 c
  obtain ⟨h4,b4,o4⟩:=J0 A k w0 (.p (bq t.p)) (.p (.int (e:Int))) w4 rest o3 c
  refine ⟨h4,?_,o4⟩
  rw[GS] at b1
  simp[oU,b1,b2,b3,b4]
theorem qE (A:fQ T G) (k:Nat) (w0 w4:W) (rest:Sl) {n e ev:Nat}{t:Tp} (he:e<=1000):∀ (l:List (Nat×Option Nat)) (x5 x6:Option W) (h:HH),(∀ p∈l,Cal t e p.1 p.2)->Ok n e ev t h →
 ∃ y5 y6 h',aQ (evS (runN T G (k+14)) G oU) [(5,"_law_start"),(6,"_law_behind")] (itE l) (s31 w0 (bq t.p) n e w4 (x5 :: x6 :: rest)) h=some (.nx (s31 w0 (bq t.p) n e w4 (y5 :: y6 :: rest)) h')/\Ok n e ev t h'
 | [],x5,x6,h,_,o=>⟨x5,x6,h,rfl,o⟩
 | (s,ob) :: l,x5,x6,h,hl,o=>by
  obtain ⟨h1,b1,o1⟩:=Ai A k w0 w4 rest he o (hl _ ON)
  obtain ⟨y5,y6,h2,b2,o2⟩:=qE A k w0 w4 rest he l (some (.p (.int (s:Int)))) (some (.p (bY ob))) h1 (fun p hp=>hl p (OL _ hp)) o1
  refine ⟨y5,y6,h2,?_,o2⟩
  have st:∀ (l:List D),aQ (evS (runN T G (k+14)) G oU) [(5,"_law_start"),(6,"_law_behind")] (.tup [.int (s:Int),bY ob] :: l) (s31 w0 (bq t.p) n e w4 (x5 :: x6 :: rest)) h=fJ (evS (runN T G (k+14)) G oU (s31 w0 (bq t.p) n e w4 (some (.p (.int (s:Int))) :: some (.p (bY ob)) :: rest)) h) (aQ (evS (runN T G (k+14)) G oU) [(5,"_law_start"),(6,"_law_behind")] l):=fun l=>rfl
  show aQ _ _ (.tup [.int (s:Int),bY ob] :: itE l) _ _=_
  rw[st,b1,bM,b2]
theorem Dk {t:Tp}{e m:Nat} (R:Run t.p t.asked t.most e) (hm:m<=e):(wt t m).Pairwise (· < ·):=by
 rw[List.pairwise_iff_getElem]
 intro i j hi hj hij
 have a:=lK R hm (OF hi)
 have b:=lK R hm (OF hj)
 have a1:=a.at_
 have b1:=b.at_
 rcases Qf (wt t m)[i] (wt t m)[j] with z | z | z
 ·exact z
 ·rw[z] at a1;omega
 ·have:=b.up _ z (PK a.lt)
  omega
theorem Aj {t:Tp} (s m:Nat):∀ d,s∈(en t m).map Rl->s∈(en t (m+d)).map Rl
 | 0,h=>h
 | d+1,h=>by
  have ih:=Aj s m d h
  show s∈(en t (m+d+1)).map Rl
  rw[en]
  split
  ·rw[QL];exact Qa _ ih
  ·split
   ·rw[Qc]
    have:(Rl ∘ fun p:Nat×Option Nat=>if p.1=(wt t (m+d)).getLast?.getD 0 then (p.1,some (m+d+1)) else p)=Rl:=by
     funext p
     show (if p.1=(wt t (m+d)).getLast?.getD 0 then (p.1,some (m+d+1)) else p).1=p.1
     split<;>rfl
    rw[this];exact ih
   ·exact ih
theorem J1 {t:Tp}{e m:Nat} (R:Run t.p t.asked t.most e) (hm:m<=e) {w:Nat} (h:w∈wt t m):w∈(en t e).map Rl:=by
 have:=Aj (t:=t) w m (e - m) (List.mem_map.mpr ⟨(w,none),(oO R m hm).wait w h,rfl⟩)
 rwa [show m+(e - m)=e by omega] at this
theorem J2 (A:fQ T G) (k:Nat) (w0 w1 w3 w4:W) (x5 x6:Option W) {n e ev:Nat}{t:Tp}{h:HH} (R:Run t.p t.asked t.most e) (he:e < 64) (o:Ok n e ev t h) {m:Nat} (hm:m<=e) :
 ∃ h',BT.ev (runN T G (k+14)) G G4 [some w0,some w1,some (.o n),some w3,some w4,x5,x6,some (.p (.int (m:Int))),some (.p (.lst (af (wt t m))))] h=some (.p (.bl false),h')/\Ok n e ev t h':=by
 obtain ⟨h1,b1,o1⟩:=dU A (k+2) o m hm
 refine ⟨h1,?_,o1⟩
 have wl:=(iR t m).2
 have ss:=Dd (Dk R hm) (by omega)
 have d1:dX .ne (.lst (af (wt t m))) (.lst (af (wt t m)))=some false:=ne_self (by rw[lN];exact Ac _)
 have ln:(af (wt t m)).length=dep t m:=by rw[oR,(dY R m hm).len]
 generalize af (wt t m)=L at *
 have lb:biD .len [.lst L]=some (.int (dep t m:Int)):=by rw[gR,ln]
 simp[-nJ,-gR,G4,lb,b1,ss,d1]
 simp
theorem J3 (F:FK->List W->HH->Option (W×HH)) (w0 w1 w2 w3:W) (x5 x6:Option W) (w7:W) (h:HH) {t:Tp}{e m:Nat} (R:Run t.p t.asked t.most e) (he:e < 64) (hm:m<=e) :
 BT.ev F G JU [some w0,some w1,some w2,some w3,some (.p (.lst (itE (en t e)))),x5,x6,some w7,some (.p (.lst (af (wt t m))))] h=some (.p (.lst []),h):=by
 have inner:∀ (x:Option W),BT.ev F G (.comp false .seq (.cons (.var 1 "_law_every") .nil) ["_law_start","_law_behind"] [] .nil (.var 0 "_law_start")) [x,some (.p (.lst (itE (en t e))))] h=some (.p (.lst (af ((en t e).map Rl))),h):=fun x=>by
  have c:=GV (dZ (evs F G .nil) (BT.ev F G (.var 0 "_law_start")) []) 2 (fun p:Nat×Option Nat=>D.tup [.int (p.1:Int),bY p.2]) (fun p=>[.int (p.1:Int),bY p.2]) (fun p=>some (.int (p.1:Int))) h (en t e) (fun p hp=>⟨rfl,by simp[dZ,c7]⟩)
  have cm:(en t e).filterMap (fun p=>some (D.int (p.1:Int)))=af ((en t e).map Rl):=by
   unfold af
   rw[Qc,← List.filterMap_eq_map];rfl
  rw[cm] at c
  have l1:=(iR t e).1
  exact kD (ws:=[.p (.lst (itE (en t e)))]) (h1:=h) (fs:=[]) (by simp) rfl rfl rfl c (by rw[oR,OQ];omega)
 have c:=GU (dZ (evs F G (.cons Df .nil)) (BT.ev F G (.var 0 "_law_at")) [some (.p (.lst (itE (en t e))))]) (fun (i:Nat)=>D.int (i:Int)) (fun _=>none) h (wt t m) (fun w hw=>by
  have mw:=J1 R hm hw
  have c1:dX .nmem (.int (w:Int)) (.lst (af ((en t e).map Rl)))=some false:=by
   rw[aO,if_pos (Ad _ _)]
   have:(af ((en t e).map Rl)).any (fun y=>eqv y (.int (w:Int)))=true:=List.any_eq_true.mpr ⟨.int (w:Int),List.mem_map.mpr ⟨w,mw,rfl⟩,by simp⟩
   rw[this];rfl
  have i1:=inner (some (.p (.int (w:Int))))
  have hq:BT.ev F G Df [some (.p (.int (w:Int))),some (.p (.lst (itE (en t e))))] h=some (.p (.bl false),h):=by
   rw[Df]
   generalize af ((en t e).map Rl)=L at *
   generalize (.comp false .seq (.cons (.var 1 "_law_every") .nil) ["_law_start","_law_behind"] [] .nil (.var 0 "_law_start"):E)=ie at *
   simp[-aO,i1,c1]
  simp[dZ,c7,hq])
 rw[qC] at c
 exact kD (ws:=[.p (.lst (af (wt t m)))]) (h1:=h) (fs:=[some (.p (.lst (itE (en t e))))]) (by simp) rfl rfl rfl c (by simp)
theorem J4 (A:fQ T G) (k:Nat) (w0 w1 w4:W) (x5 x6 x8:Option W) {n e ev:Nat}{t:Tp}{h:HH} (o:Ok n e ev t h) {m:Nat} (hm:m<=e) (hd:dep t m=0) :
 ∃ h',BT.ev (runN T G (k+14)) G G5 [some w0,some w1,some (.o n),some (.p (.int (e:Int))),some w4,x5,x6,some (.p (.int (m:Int))),x8] h=some (.p (.bl true),h'):=by
 obtain ⟨j,h1,b1,N,o1⟩:=Ag A k o m hm
 obtain ⟨j2,h2,b2,B,o2⟩:=uz A k o1 m hm
 refine ⟨h2,?_⟩
 have f:∀ i,wi t ((dep t m:Int) - 1) i=false:=fun i=>Dj (by omega)
 have je:j=e:=by
  rcases OR j e with z | z
  ·have:=N.yes (by omega)
   rw[f] at this;cases this
  ·have:=N.le2;omega
 have j0:j2=0:=by
  rcases Nat.eq_zero_or_pos j2 with z | z
  ·exact z
  ·have:=B.yes (by omega)
   rw[f] at this;cases this
 subst je
 subst j0
 simp[G5,b1,b2]
theorem k31_w (A:fQ T G) (k:Nat) (w0 w1 w3 w4:W) (x5 x6:Option W) {n e ev:Nat}{t:Tp}{h:HH} (R:Run t.p t.asked t.most e) (o:Ok n e ev t h) {m:Nat} (hm:m<=e) (hd:0 < dep t m) :
 ∃ h',BT.ev (runN T G (k+14)) G G6 [some w0,some w1,some (.o n),some w3,some w4,x5,x6,some (.p (.int (m:Int))),some (.p (.lst (af (wt t m))))] h=some (.p (.bl false),h')/\Ok n e ev t h':=by
 obtain ⟨j,h1,b1,B,o1⟩:=uz A k o m hm
 obtain ⟨l,ol,hw⟩:=uv R hm hd
 have jl:=uw ol hd B
 subst jl
 refine ⟨h1,?_,o1⟩
 have ix:aD (.lst (af (wt t m))) (.int (-1))=some (.int (j:Int)):=by
  rw[hw]
  unfold af
  rw[QL]
  show (place (_++[D.int (j:Int)]).length (-1)).bind _=_
  have c:place ((wt t j).map (fun n:Nat=>D.int (n:Int))++[D.int (j:Int)]).length (-1)=some (wt t j).length:=by
   rw[OS,OQ,Pv]
   unfold place
   rw[if_neg (by omega),if_pos (by omega)]
   congr 1;omega
  rw[c,Ql,OU (by rw[OQ];exact OE _),OQ,Nat.sub_self]
  rfl
 generalize af (wt t m)=L at *
 simp[-aW,G6,b1,ix]
theorem J5 (A:fQ T G) (k:Nat) (w0 w1 w4:W) (x5 x6 x8:Option W) {n e ev:Nat}{t:Tp}{h:HH} (o:Ok n e ev t h) {m:Nat} (hm:m<=e) :
 ∃ h',BT.ev (runN T G (k+14)) G Dg [some w0,some w1,some (.o n),some (.p (.int (e:Int))),some w4,x5,x6,some (.p (.int (m:Int))),x8] h=some (.p (.bl false),h')/\Ok n e ev t h':=by
 obtain ⟨j,h1,b1,N,o1⟩:=uy A k o m hm
 refine ⟨h1,?_,o1⟩
 have l1:=N.le
 have l2:=N.lt
 by_cases c:m=e
 ·subst c
  have c1:¬ (j:Int)<=(m:Int) - 1:=by omega
  simp[Dg,b1,c1]
 ·have c1:((m:Int)==(e:Int))=false:=beq_eq_false_iff_ne.mpr (by omega)
  have c2:¬ (j:Int)<=(m:Int):=by omega
  have c3:¬ j<=m:=by omega
  simp[Dg,b1,c,c1,c2,c3]
theorem J6 (A:fQ T G) (k:Nat) (w0 w1 w3 w4:W) (x5 x6:Option W) (w7:W) {n e ev:Nat}{t:Tp}{h:HH} (R:Run t.p t.asked t.most e) (he:e < 64) (o:Ok n e ev t h) {m:Nat} (hm:m<=e) :
 ∃ h',BT.ev (runN T G (k+14)) G G7 [some w0,some w1,some (.o n),some w3,some w4,x5,x6,some w7,some (.p (.lst (af (wt t m))))] h=some (.p (.bl true),h'):=by
 have wl:=(iR t m).2
 obtain ⟨h',cc,_⟩:=zZ (dZ (evs (runN T G (k+14)) G .nil) (BT.ev (runN T G (k+14)) G (.call "depth" (.cons (.var 1 "_law_tape") (.cons (.var 0 "_law_at") .nil)))) [some (.o n)]) (fun (i:Nat)=>D.int (i:Int)) (fun i=>some (.int (dep t i:Int))) (Ok n e ev t) (wt t m) (fun w hw h o=>by
  obtain ⟨i,hi⟩:=Po hw
  have wm:=(lK R hm hi).lt
  obtain ⟨h1,b1,o1⟩:=dU A (k+2) o w (by omega)
  exact ⟨h1,by simp[dZ,c7,b1],o1⟩) h o
 refine ⟨h',?_⟩
 have cm:(wt t m).filterMap (fun i=>some (D.int (dep t i:Int)))=upto 0 (wt t m).length:=by
  rw[oQ]
  unfold af
  refine Tg fun i=>?_
  rw[List.filterMap_eq_map',O2,O2]
  rcases OR i (wt t m).length with z | z
  ·have hi:=OF z
   rw[hi,QB z]
   show some (D.int (dep t (wt t m)[i]:Int))=some (D.int (i:Int))
   rw[(lK R hm hi).at_]
  ·rw[OJ z,OJ (by rw[R6];exact z)];rfl
 rw[cm] at cc
 have ul:(upto 0 (wt t m).length).length=(wt t m).length:=by rw[oQ,oR,R6]
 have e1:BT.ev (runN T G (k+14)) G (.comp false .seq (.cons (.var 8 "_law_open_ones") .nil) ["_law_at"] [(2,"_law_tape")] .nil (.call "depth" (.cons (.var 1 "_law_tape") (.cons (.var 0 "_law_at") .nil)))) [some w0,some w1,some (.o n),some w3,some w4,x5,x6,some w7,some (.p (.lst (af (wt t m))))] h=some (.p (.lst (upto 0 (wt t m).length)),h'):=kD (ws:=[.p (.lst (af (wt t m)))]) (h1:=h) (fs:=[some (.o n)]) (by simp) rfl rfl rfl cc (by rw[ul];omega)
 have d1:dX .eq (.lst (upto 0 (wt t m).length)) (.lst (upto 0 (wt t m).length))=some true:=by rw[ko,if_pos (gi (by rw[oQ,lN];exact Ac _)),jt]
 have rg:dH .rng1 [.int ((wt t m).length:Int)]=some (upto 0 (wt t m).length):=by
  rw[bI]
  have c:((-100000<=((wt t m).length:Int):Bool)&&(((wt t m).length:Int)<=100000:Bool))=true:=by
   simp only[OC,decide_eq_true_eq];omega
  rw[if_pos c];rfl
 have lb:biD .len [.lst (af (wt t m))]=some (.int ((wt t m).length:Int)):=by rw[gR,oR]
 rw[G7]
 generalize (.comp false .seq (.cons (.var 8 "_law_open_ones") .nil) ["_law_at"] [(2,"_law_tape")] .nil (.call "depth" (.cons (.var 1 "_law_tape") (.cons (.var 0 "_law_at") .nil))):E)=ie at *
 have u2:(upto 0 (wt t m).length).length<=100000:=by omega
 generalize upto 0 (wt t m).length=U at *
 generalize af (wt t m)=L at *
 simp[-ko,-bI,-gR,e1,lb,rg,u2,d1]
theorem J7 (A:fQ T G) (k:Nat) (w0 w1:W) (x5 x6:Option W) {n e ev:Nat}{t:Tp}{h:HH} (R:Run t.p t.asked t.most e) (he:e < 64) (o:Ok n e ev t h) {m:Nat} (hm:m<=e) :
 ∃ h',evS (runN T G (k+14)) G Ae [some w0,some w1,some (.o n),some (.p (.int (e:Int))),some (.p (.lst (itE (en t e)))),x5,x6,some (.p (.int (m:Int))),some (.p (.lst (af (wt t m))))] h=some (.rt (.p (.bl true)) h'):=by
 obtain ⟨h1,b1,o1⟩:=J2 A k w0 w1 (.p (.int (e:Int))) (.p (.lst (itE (en t e)))) x5 x6 R he o hm
 have b2:=J3 (G:=G) (runN T G (k+14)) w0 w1 (.o n) (.p (.int (e:Int))) x5 x6 (.p (.int (m:Int))) h1 R he hm
 have len:=(dY R m hm).len
 by_cases c:dep t m=0
 ·obtain ⟨h2,b3⟩:=J4 A k w0 w1 (.p (.lst (itE (en t e)))) x5 x6 (some (.p (.lst (af (wt t m))))) o1 hm c
  refine ⟨h2,?_⟩
  have w:af (wt t m)=[]:=by rw[show wt t m=[] from List.length_eq_zero_iff.mp (by omega)];rfl
  rw[w] at b1 b2 b3 ⊢
  simp[-ja,tnx,Ae,b1,b2,b3]
 ·obtain ⟨h2,b3,o2⟩:=k31_w A k w0 w1 (.p (.int (e:Int))) (.p (.lst (itE (en t e)))) x5 x6 R o1 hm (by omega)
  obtain ⟨h3,b4,o3⟩:=J5 A k w0 w1 (.p (.lst (itE (en t e)))) x5 x6 (some (.p (.lst (af (wt t m))))) o2 hm
  obtain ⟨h4,b5⟩:=J6 A k w0 w1 (.p (.int (e:Int))) (.p (.lst (itE (en t e)))) x5 x6 (.p (.int (m:Int))) R he o3 hm
  refine ⟨h4,?_⟩
  have d1:dX .eq (.lst (af (wt t m))) (.lst [])=some false:=by
   cases q:wt t m with
   | nil=>rw[q] at len;simp at len;omega
   | cons x l =>
    show dX .eq (.lst (D.int (x:Int) :: af l)) (.lst [])=_
    simp
  generalize af (wt t m)=L at *
  simp[-ko,-ja,tnx,Ae,b1,b2,d1,b3,b4,b5]
theorem Hf (F:FK->List W->HH->Option (W×HH)) (w0 w1 w2 w4:W) (x5 x6:Option W) (e m:Int) (ds:List D) (h h1 h2:HH)
 (rm:F (.f "_law_drawn") [w0,.p (.int 443),.p (.int (e+1))] h=some (.p (.int m),h)) (b1:F (.f "open_calls") [w2,.p (.int m)] h=some (.p (.lst ds),h1))
 (b2:evS F G Ae [some w0,some w1,some w2,some (.p (.int e)),some w4,x5,x6,some (.p (.int m)),some (.p (.lst ds))] h1=some (.rt (.p (.bl true)) h2)) :
 evS F G Dh [some w0,some w1,some w2,some (.p (.int e)),some w4,x5,x6,none,none] h=some (.rt (.p (.bl true)) h2):=by
 simp[-ja,tnx,Dh,rm,b1,b2]
theorem Dl (k:Nat) (w0:W) (v1 mo z1 e:Int) (dpg das:D) (ev:List D) (H0 h1 h2 h3:HH) (y5 y6:Option W) (hL:T "law"=some fO)
 (rp:∀ h,runN T G (k+14) "_law_calling" [w0,.p (.int 600)] h=some (.p dpg,h)) (ra:∀ h,runN T G (k+14) "_law_asked" [w0,.p (.int 450)] h=some (.p das,h))
 (r1:∀ h,runN T G (k+14) "_law_drawn" [w0,.p (.int 440),.p (.int 15)] h=some (.p (.int mo),h)) (r2:∀ h,runN T G (k+14) "_law_drawn" [w0,.p (.int 441),.p (.int 5)] h=some (.p (.int v1),h)) (c1:1+v1=z1)
 (in1:runN T G (k+14) (.m "Tape" "__init__") [.o 0,.p dpg,.p das,.p (.int z1),.p (.int mo)] [.o "Tape" []]=some (.p .non,H0))
 (fs0:List (Str×W)) (ob:oat H0 0=some (OT "Tape",fs0)) (me:aX "end" fs0=none)
 (b1:runN T G (k+14) (.m "Tape" "end") [.o 0] H0=some (.p (.int e),h1))
 (b2:runN T G (k+14) "calls" [.o 0] h1=some (.p (.lst ev),h1))
 (b3:aQ (evS (runN T G (k+14)) G oU) [(5,"_law_start"),(6,"_law_behind")] ev [some w0,some (.p dpg),some (.o 0),some (.p (.int e)),some (.p (.lst ev)),none,none,none,none] h1=some (.nx [some w0,some (.p dpg),some (.o 0),some (.p (.int e)),some (.p (.lst ev)),y5,y6,none,none] h2))
 (tm:evS (runN T G (k+14)) G Dh [some w0,some (.p dpg),some (.o 0),some (.p (.int e)),some (.p (.lst ev)),y5,y6,none,none] h2=some (.rt (.p (.bl true)) h3))
 (f0:fin [] (.p (.bl true)) h3=some (.p (.bl true),[])):runN T G (k+15) "law" [w0] []=some (.p (.bl true),[]):=by
 have t0:evS (runN T G (k+14)) G Di [some w0,none,none,none,none,none,none,none,none] []=some (.rt (.p (.bl true)) h3):=by
  simp[-ja,tnx,-aQ,Di,rp,ra,r1,r2,c1,in1,ob,me,b1,b2,f6,b3,tm]
 rw[run_eq hL rfl]
 show j6 (evS (runN T G (k+14)) G Di [some w0,none,none,none,none,none,none,none,none] []) (fin [])=_
 rw[t0]
 exact f0
theorem wk (A:fQ T G) (Lx:Nj T) (ns:List Int) (hl:ns.length<=1000) (k:Nat):∃ h',runN T G (k+16) "law" [.p (.lst (aa ns))] []=some (.p (.bl true),h'):=by
 obtain ⟨pg,okp,rp⟩:=qD (G:=G) Lx.lw Lx.program Lx.calling ns hl 600
 obtain ⟨asked,ha,hal,ra⟩:=v7 (G:=G) Lx.lw ns hl 450
 obtain ⟨mo,hmo,rmo⟩:=dB (G:=G) Lx.lw ns hl 440 15 (by decide)
 obtain ⟨v1,hv1,rv1⟩:=dB (G:=G) Lx.lw ns hl 441 5 (by decide)
 obtain ⟨e,R,es⟩:=CP pg asked mo
 have le:=R.le
 have in1:runN T G (k+15) (.m "Tape" "__init__") [.o 0,.p (bq pg),.p (.lst (aa asked)),.p (.int ((v1+1:Nat):Int)),.p (.int (mo:Int))] [.o "Tape" []]=some (.p .non,[.o "Tape" ((Tp.new pg asked (v1+1) mo).fs 1),.l [St.zero.enc]]):=zR A.P (k+13) pg asked (v1+1) mo (by omega) []
 have A0:TAt [.o "Tape" ((Tp.new pg asked (v1+1) mo).fs 1),.l [St.zero.enc]] 0 1 (Tp.new pg asked (v1+1) mo):=GR [] pg asked (v1+1) mo
 have I0:TI (Tp.new pg asked (v1+1) mo) e (v1+1):=GQ okp ha R (by omega) (by omega) (by omega)
 obtain ⟨h1,r1,t1,b1,g1,I1,s1,f1⟩:=qy A.P A.M (k+6) A0 I0
 have b2:=wg A.P A.R A.Wk A.C (k+3) g1.b I1
 have o1:Ok 0 e (v1+1) t1 h1:=⟨r1,t1,g1.b,I1,.refl t1⟩
 obtain ⟨y5,y6,h2,b3,o2⟩:=qE A (k+1) (.p (.lst (aa ns))) (.p (.lst (itE (en t1 e)))) [none,none] (by omega) (en t1 e) none none h1 (fun p hp=>G9 I1.run hp) o1
 obtain ⟨m,hm,rm⟩:=dB (G:=G) Lx.lw ns hl 443 ((e:Int)+1) (by omega)
 have hm:m<=e:=by omega
 obtain ⟨r2,t2,a2,I2,s2⟩:=o2
 obtain ⟨h3,r3,t3,b4,a3,I3,s3⟩:=lM A.P A.L A.Wk A.Q A.C k a2 I2 m hm
 rw[(z9 s2 m).1] at b4
 obtain ⟨h4,b5⟩:=J7 A (k+1) (.p (.lst (aa ns))) (.p (bq t1.p)) y5 y6 I1.run (by omega) ⟨r3,t3,a3,I3,s2.trans s3⟩ hm
 have tp1:t1.p=pg:=s1.p
 rw[tp1] at b3 b5
 have tm:=Hf (G:=G) (runN T G (k+15)) (.p (.lst (aa ns))) (.p (bq pg)) (.o 0) (.p (.lst (itE (en t1 e)))) y5 y6 (e:Int) (m:Int) (af (wt t1 m)) h2 h3 h4 (rm (k+13) h2) b4 b5
 exact ⟨[],Dl (k+1) (.p (.lst (aa ns))) (v1:Int) (mo:Int) ((v1+1:Nat):Int) (e:Int) (bq pg) (.lst (aa asked)) (itE (en t1 e)) _ h1 h2 h4 y5 y6 Lx.law (rp (k+7)) (ra (k+12)) (rmo (k+13)) (rv1 (k+13)) (by omega) in1 _ A0.ob (D9 _ _) b1 b2 b3 tm (by simpa using gF [] h4 (.bl true))⟩
end
end BT
end
section
namespace BF
open PySem PySem.Spec PyProof.Rows L2 BS
noncomputable def qF (P:OO) (w:O6) (K:Ow) (mg:Str->Option Oz) (x:Str) (z:BT.W):Prop:=∃ u v,mg x=some u/\RelV v u/\∀ m H,RW P w K m H v z
theorem Ak {P:OO}{w:O6}{K:Ow}{h:Heap}{mg:Str->Option Oz} (X:K.In h) (G:h.Ns OV mg) {x:Str}{n:Int}{t:Tok} (a:Pj K OV x=some (some (.int n t))):qF P w K mg x (.p (.int n)) :=
 ⟨_,.int n,Qx X G a,⟨t,rfl⟩,fun _ _=>.p (.int n)⟩
inductive cR:List Str->List Oz->Prop where
 | nil:cR [] []
 | cons {x:Str}{xs:List Str}{t:Tok}{vs:List Oz} (h:PyData.strOk x=true) (r:cR xs vs):cR (x :: xs) (.str x t :: vs)
theorem cR.vals:∀ {xs:List Str}{vs:List Oz},cR xs vs->aq (xs.map V.str) vs
 | _,_,.nil=>.nil
 | _,_,.cons _ r=>.cons ⟨_,rfl⟩ r.vals
theorem cR.rds {K:Ow}{m:List Addr}{H:Hp}:∀ {xs:List Str}{vs:List Oz},cR xs vs->RDs K m H (xs.map V.str) (xs.map BT.D.str)
 | _,_,.nil=>.nil
 | _,_,.cons h r=>.cons (.str _ h) r.rds
theorem cR.len:∀ {xs:List Str}{vs:List Oz},cR xs vs->vs.length=xs.length
 | _,_,.nil=>rfl
 | _,_,.cons _ r=>by simp[r.len]
theorem Al {P:OO}{w:O6}{K:Ow}{h:Heap}{mg:Str->Option Oz} (X:K.In h) (G:h.Ns OV mg) {x:Str}{f:Addr}{its:Array Oz}{n:Nat}{sl:Array (Option Oz)}{xs:List Str} (a:Pj K OV x=some (some (.ref f)))
 (l:K.lookup f=some ⟨.type "tuple",none,.seq its n,sl⟩) (hl:xs.length<=1000) (r:cR xs its.toList):qF P w K mg x (.p (.tup (xs.map BT.D.str))):=by
 refine ⟨_,.ref f,Qx X G a,rfl,fun m H=>.p (.tup (.inr ⟨_,its,n,⟨l,rfl,rfl,?_,r.vals⟩,rfl⟩) r.rds)⟩
 have:=r.len
 have e:its.size=xs.length:=by rw[← this];simp
 rw[e]
 exact PK (vf hl)
inductive fz (w:O6):List (Str×Int)->List TU->Prop where
 | nil:fz w [] []
 | cons {x:Str}{n:Int}{kvs:List (Str×Int)}{t u:Tok}{es:List TU} (r:fz w kvs es):fz w ((x,n) :: kvs) (⟨PyData.keyHash w.params x,.str x t,.int n u⟩ :: es)
theorem fz.ex {P:OO}{w:O6}:∀ {kvs:List (Str×Int)}{es:List TU},fz w kvs es->∃ vs:List (Key×Oz),KV ((kvs.map fun q=>(q.1,V.int q.2)).map fun q=>((Sum.inr q.1:Key),q.2)) vs/\Pairs (aM P w) es vs/\vs.map (·.1)=kvs.map (fun q=>(Sum.inr q.1:Key))/\(∀ e∈es,∃ k,(aM P w).is k e.key=true/\e.hash=(aM P w).hash k)
 | _,_,.nil=>⟨[],.nil,.nil,rfl,fun e he=>nomatch he⟩
 | _,_,@fz.cons _ x n kvs t u es r=>by
  obtain ⟨vs,h1,h2,h3,h4⟩:=r.ex (P:=P)
  have is:(aM P w).is (Sum.inr x) (.str x t)=true:=by show SV x (.str x t)=true;simp[SV]
  refine ⟨(Sum.inr x,.int n u) :: vs,.cons ⟨rfl,u,rfl⟩ h1,.cons is rfl h2,by simp[h3],fun e he=>?_⟩
  rcases List.mem_cons.mp he with rfl | he
  ·exact ⟨Sum.inr x,is,rfl⟩
  ·exact h4 e he
theorem wo {P:OO}{w:O6}{K:Ow}{h:Heap}{mg:Str->Option Oz} (X:K.In h) (G:h.Ns OV mg) {x:Str}{f:Addr}{es:Array TU}{n:Nat}{kvs:List (Str×Int)} (a:Pj K OV x=some (some (.ref f)))
 (l:K.lookup f=some { cls:=.type "dict",data:=.dict es n }) (hf:(f==Re)=false) (r:fz w kvs es.toList) (nd:(kvs.map (·.1)).Nodup):qF P w K mg x (.k (kvs.map fun q=>(q.1,BT.D.int q.2))):=by
 obtain ⟨vs,h1,h2,h3,h4⟩:=r.ex (P:=P)
 refine ⟨_,.ref f,Qx X G a,rfl,fun m H=>.k (es:=kvs.map fun q=>(q.1,V.int q.2)) ⟨hf,vs,h1,fun hh Kh=>⟨_,es,n,Kh _ _ l,⟨rfl,rfl,rfl⟩,rfl,fun e he=>h4 e (by simpa using he),h2,?_⟩⟩ ?_⟩
 ·rw[h3]
  have e:(kvs.map fun q=>(Sum.inr q.1:Key))=(kvs.map (·.1)).map Sum.inr:=by simp
  rw[e]
  exact List.pairwise_map.mpr (nd.imp fun h z=>h (Sum.inr.inj z))
 ·clear r nd h1 h2 h3 h4 l
  induction kvs with
  | nil=>exact .nil
  | cons q kvs ih=>exact .cons (fun _ _=>.int _) ih
noncomputable def look {κ α:Type} [DecidableEq κ] (l:List (κ×α)) (x:κ):Option α:=match l with
 | []=>none
 | (y,a) :: r=>if y=x then some a else look r x
theorem gO {κ α:Type} [DecidableEq κ] {Q:κ->α->Prop}:∀ {l:List (κ×α)} (_:∀ p∈l,Q p.1 p.2) {x:κ}{a:α},look l x=some a->Q x a
 | [],_,_,_,e=>by cases e
 | (y,b) :: r,h,x,a,e=>by
  rw[look] at e
  split at e
  ·rename_i z
   cases e
   subst z
   exact h (y,b) ON
  ·exact gO (fun p hp=>h p (OL _ hp)) e
theorem gC {K:Ow}{m:List Addr}{H:Hp}:∀ ns:List Int,RDs K m H (ns.map V.int) (BT.aa ns)
 | []=>.nil
 | n :: r=>.cons (.int n) (gC r)
theorem Am {P:OO}{w:O6}{K:Ow}{g:List BT.W->BT.HH->Option (BT.W×BT.HH)}{H:Hp}{a:Addr}{ns:List Int} (tb:TB K H) (hS:LL K H a (ns.map V.int)) (e:∃ h',g [.p (.lst (BT.aa ns))] []=some (.p (.bl true),h')):spF P w K g [.ref a] H (fun v _=>v=.bl true) fun _ _ _=>False:=by
 obtain ⟨h',e⟩:=e
 refine ⟨[],_,[],_,h',⟨SG,rfl,fun i a xs z=>by simp at z,tb⟩,.cons (.p (.lst (hS.elim (fun q=>.inl ⟨q,by simp⟩) .inr) (gC ns))) .nil,e,fun v H' m' _ _ r=>jL r⟩
end BF
end
section
namespace BG
open PySem PySem.Spec PySem.Calls PyProof.Rows L2 BS BF
theorem Dm {h:Heap}{K:Ow} (H:∀ p∈K,h.get? p.1=some p.2):K.In h:=by
 intro a o e
 obtain ⟨p,hp,he⟩:∃ p∈K,p.1=a/\p.2=o:=by
  clear H
  induction K with
  | nil=>cases e
  | cons q r ih =>
   rw[PR] at e
   split at e
   ·rename_i c
    cases e
    exact ⟨q,ON,(eq_of_beq c).symm,rfl⟩
   ·obtain ⟨p,hp,he⟩:=ih e
    exact ⟨p,OL _ hp,he⟩
 rw[← he.1,← he.2]
 exact H p hp
theorem An {K:Ow}{f:Addr}{x qual:Str}{st:Uh} (e:AD K f=some (rY x qual st)):∃ fd,Fun K x qual st f fd/\∃ kV doc pm an cdv ct,fd=Qk x qual (cH st) (aL st) (ao st) .none kV doc pm an cdv ct:=by
 unfold AD at e
 split at e
 ·rename_i oc od fd sl l
  have e':=OP e
  unfold rY at e'
  obtain ⟨nm,ql,pa,bo,sc,gl,cl,de,kw,dc,pm,an,co,ct,bu⟩:=fd
  simp only[FS.mk.injEq] at e'
  obtain ⟨rfl,rfl,rfl,rfl,rfl,rfl,rfl,rfl,rfl,hc⟩:=e'
  have F:=EU (K:=K) (x:=nm) (qual:=ql) (st:=st) (f:=f) (kV:=kw) (doc:=dc) (pm:=pm) (an:=an) (cdv:=co) (ct:=ct) l hc (by simp only[PZ,l])
  exact ⟨_,F,kw,dc,pm,an,co,ct,rfl⟩
 ·cases e
theorem nth {α:Type}{l:List α}{a:α} (i:Nat) (h:l[i]?=some a):a∈l:=OM h
noncomputable def qG (ns:List Str):Bool:=ns.all fun n=>!(n.cps[0]?==some 60)
theorem J8 (y:Str):(BT.cj y).cps[0]?=some 60:=by
 show (((#[60]:Array Nat)++y.cps)++#[62])[0]?=some 60
 rw[← UJ]
 simp
theorem Dn {y z:Str} (h:BT.cj y=BT.cj z):y=z:=by
 have e:((#[60]:Array Nat)++y.cps)++#[62]=((#[60]:Array Nat)++z.cps)++#[62]:=congrArg Str.cps h
 have e2:y.cps.toList=z.cps.toList:=by
  have:=congrArg UI e
  simpa using this
 cases y;cases z;exact congrArg Str.mk (Array.toList_inj.mp e2)
theorem lO {ns:List Str} (h:qG ns=true) (y:Str):ns.contains (BT.cj y)=false:=by
 cases e:ns.contains (BT.cj y) with
 | false=>rfl
 | true =>
  have:=List.all_eq_true.mp h _ (List.contains_iff_mem.mp e)
  rw[J8] at this
  cases this
theorem aA {K:Ow}{q:Str}{fd:Qq}{fn:BT.Fn} (h:qG fn.ns=true):j4 K q fd fn:=fun y hy=>by rw[lO h y] at hy;cases hy
section
variable {P:OO}{w:O6}{K:Ow}{h:Heap}{mg:Str->Option Oz}
theorem oV {o:Option (Option Oz)}{f:Addr} (e:refOf o=some f):o=some (some (.ref f)):=by
 unfold refOf at e
 split at e
 ·cases e;rfl
 ·cases e
theorem ay (X:K.In h) (G:h.Ns OV mg) {x:Str}{f:Addr}{st:Uh}{fn:BT.Fn} (e:bS K (.fn x f st)=bT w (.fn x f st))
 (sc:cI fn.ns fn.ps (ao st)) (hb:∀ (kV doc pm:Oz) (an:Option Addr) (cdv ct:Oz) (us:List Oz),us.length=fn.ps.length->Us (Qk x x (cH st) (aL st) (ao st) .none kV doc pm an cdv ct) ⟨us,[]⟩=pure (fn.ps.zip us))
 (ck:CSs (ao st) fn.ns fn.body (aL st)) (tg:∀ fd,Pj K OV x=some (some (.ref f))->(∃ oc od sl,K.lookup f=some ⟨oc,od,.func fd,sl⟩)->j4 K x fd fn):Def K mg x fn:=by
 simp only[bS,bT,Ov.fn.injEq] at e
 obtain ⟨fd,F,kV,doc,pm,an,cdv,ct,rfl⟩:=An e.2
 refine ⟨f,_,st,Qx X G (oV e.1),F,sc,F.binds hb,ck,tg _ (oV e.1) ?_⟩
 obtain ⟨oc,od,kV,doc,pm,an,cdv,ct,osl,e1,lk,_⟩:=F.ex
 exact ⟨oc,od,osl,lk⟩
theorem Ao {c:Str}{C:Addr} (e:bS K (.cls c C)=bT w (.cls c C)):kU K c C:=by
 simp only[bS,bT,Ov.b.injEq,HK,OC,decide_eq_true_eq] at e
 obtain ⟨⟨⟨⟨⟨h1,h2⟩,h3⟩,h4⟩,h5⟩,h6⟩:=e
 refine ⟨h1,⟨h2,h3,h4,h5⟩,fun f hf=>?_⟩
 have hm:f∈attrs:=List.contains_iff_mem.mp hf
 exact of_decide_eq_true (p:=Px K (.ref C) f=some none) (List.all_eq_true.mp h6 f hm)
theorem bQ (X:K.In h) (G:h.Ns OV mg) {c:Str}{C:Addr}{m x qual:Str}{f:Addr}{st:Uh}{fn:BT.Fn} (ec:bS K (.cls c C)=bT w (.cls c C)) (em:bS K (.mk C)=bT w (.mk C)) (e:bS K (.me C m x qual f st)=bT w (.me C m x qual f st))
 (sc:cI fn.ns fn.ps (ao st)) (hb:∀ (kV doc pm:Oz) (an:Option Addr) (cdv ct:Oz) (us:List Oz),us.length=fn.ps.length->Us (Qk x qual (cH st) (aL st) (ao st) .none kV doc pm an cdv ct) ⟨us,[]⟩=pure (fn.ps.zip us))
 (ck:CSs (ao st) fn.ns fn.body (aL st)) (tg:qG fn.ns=true):zl K mg c m fn:=by
 have hC:=Ao ec
 simp only[bS,bT,Ov.fn.injEq] at e
 obtain ⟨e1,e2⟩:=e
 obtain ⟨fd,F,kV,doc,pm,an,cdv,ct,rfl⟩:=An e2
 have e1':meB K C m f=true:=by
  cases q:meB K C m f with
  | true=>rfl
  | false=>rw[q] at e1;cases e1
 simp only[meB,OC,decide_eq_true_eq] at e1'
 simp only[bS,bT,Ov.b.injEq,mkB,OC] at em
 refine ⟨C,f,_,x,qual,st,hC,Qx X G hC.cn,⟨e1'.1,e1'.2,F.kp⟩,fun z=>?_,F,sc,F.binds hb,ck,aA tg⟩
 subst z
 exact ⟨em.1,e1'.1,e1'.2,em.2⟩
theorem none_of (X:K.In h) (G:h.Ns OV mg) {x:Str} (e:bS K (.no x)=bT w (.no x)):mg x=none:=by
 simp only[bS,bT,Ov.b.injEq,decide_eq_true_eq] at e
 exact PySem.W.mg_none_of X G e
theorem Aq {v:Oz}{x:Int} (h:intOf v=some x):∃ t,v=.int x t:=by
 cases v<;>simp[intOf] at h
 exact ⟨_,by rw[h]⟩
theorem Ar {v:Oz}{x:Str} (h:strOf v=some x):∃ t,v=.str x t:=by
 cases v<;>simp[strOf] at h
 exact ⟨_,by rw[h]⟩
theorem b7 (X:K.In h) (G:h.Ns OV mg) {x:Str}{n:Int} (e:bS K (.int x n)=bT w (.int x n)):qF P w K mg x (.p (.int n)):=by
 simp only[bS,bT,Ov.int.injEq] at e
 split at e
 ·rename_i v hv
  obtain ⟨t,rfl⟩:=Aq e
  exact Ak X G hv
 ·cases e
theorem Do (X:K.In h) (G:h.Ns OV mg) {x:Str}{f:Addr} (e:bS K (.fv x f)=bT w (.fv x f)):qF P w K mg x (.c (.f x) []):=by
 simp only[bS,bT,Ov.b.injEq,OC,decide_eq_true_eq] at e
 exact ⟨_,.ref f,Qx X G e.1,rfl,fun m H=>.g e.1 e.2⟩
theorem uA:∀ {xs:List Str}{vs:List Oz},xs.all PyData.strOk=true->vs.map strOf=xs.map some->cR xs vs
 | [],[],_,_=>.nil
 | [],_ :: _,_,h=>by simp at h
 | _ :: _,[],_,h=>by simp at h
 | x :: xs,v :: vs,k,h=>by
  simp only[O0,Ro] at h
  simp only[Uu,OC] at k
  obtain ⟨t,rfl⟩:=Ar h.1
  exact .cons k.1 (uA k.2 h.2)
theorem uB:∀ {kvs:List (Str×Int)}{es:List TU},es.map (fun e=>(e.hash,strOf e.key,intOf e.val))=kvs.map (fun q=>(PyData.keyHash w.params q.1,some q.1,some q.2))->fz w kvs es
 | [],[],_=>.nil
 | [],_ :: _,h=>by simp at h
 | _ :: _,[],h=>by simp at h
 | (x,n) :: kvs,⟨ha,k,v⟩ :: es,h=>by
  simp only[O0,Ro,Ud] at h
  obtain ⟨⟨rfl,h2,h3⟩,hr⟩:=h
  obtain ⟨t,rfl⟩:=Ar h2
  obtain ⟨u,rfl⟩:=Aq h3
  exact .cons (uB hr)
theorem As (X:K.In h) (G:h.Ns OV mg) {x:Str}{f:Addr}{xs:List Str} (e:bS K (.tup x f xs)=bT w (.tup x f xs)) (hl:xs.length<=1000) (hs:xs.all PyData.strOk=true):qF P w K mg x (.p (.tup (xs.map BT.D.str))):=by
 simp only[bS,bT,Ov.seq.injEq] at e
 obtain ⟨e1,e2,e3⟩:=e
 obtain ⟨o,l,e4⟩:=Option.map_eq_some_iff.mp e2
 rw[l] at e3
 obtain ⟨cl,di,da,sl⟩:=o
 simp only[shp,Ud] at e4
 obtain ⟨rfl,rfl,e5⟩:=e4
 have:sl=#[]:=Ti e5
 subst this
 simp only[Ql,DB] at e3
 cases da<;>simp only[RG,reduceCtorEq] at e3
 exact Al X G (oV e1) l hl (uA hs e3)
theorem Au (X:K.In h) (G:h.Ns OV mg) {x:Str}{f:Addr}{kvs:List (Str×Int)} (e:bS K (.dct x f kvs)=bT w (.dct x f kvs)) (hf:(f==Re)=false) (nd:(kvs.map (·.1)).Nodup):qF P w K mg x (.k (kvs.map fun q=>(q.1,BT.D.int q.2))):=by
 simp only[bS,bT,Ov.dct.injEq] at e
 obtain ⟨e1,e2,e3⟩:=e
 obtain ⟨o,l,e4⟩:=Option.map_eq_some_iff.mp e2
 rw[l] at e3
 obtain ⟨cl,di,da,sl⟩:=o
 simp only[shp,Ud] at e4
 obtain ⟨rfl,rfl,e5⟩:=e4
 have:sl=#[]:=Ti e5
 subst this
 simp only[Ql,DC] at e3
 cases da<;>simp only[RG,reduceCtorEq] at e3
 exact wo X G (oV e1) l hf (uB e3) nd
end
theorem Av {α:Type}{us:List α}{n:Nat} (h:us.length=n+1):∃ a r,us=a :: r/\r.length=n:=by
 cases us with
 | nil=>simp at h
 | cons a r=>exact ⟨a,r,rfl,by simpa using h⟩
theorem len0 {α:Type}{us:List α} (h:us.length=0):us=[]:=Tz h
theorem mH {α:Type}{us:List α} (h:us.length=1):∃ a0,us=[a0]:=by
 obtain ⟨a0,r,rfl,g⟩:=Av h
 exact ⟨a0,by rw[len0 g]⟩
theorem dW {α:Type}{us:List α} (h:us.length=2):∃ a0 a1,us=[a0,a1]:=by
 obtain ⟨a0,r,rfl,g⟩:=Av h
 obtain ⟨a1,rfl⟩:=mH g
 exact ⟨a0,a1,rfl⟩
theorem iy {α:Type}{us:List α} (h:us.length=3):∃ a0 a1 a2,us=[a0,a1,a2]:=by
 obtain ⟨a0,r,rfl,g⟩:=Av h
 obtain ⟨a1,a2,rfl⟩:=dW g
 exact ⟨a0,a1,a2,rfl⟩
theorem Hg {α:Type}{us:List α} (h:us.length=4):∃ a0 a1 a2 a3,us=[a0,a1,a2,a3]:=by
 obtain ⟨a0,r,rfl,g⟩:=Av h
 obtain ⟨a1,a2,a3,rfl⟩:=iy g
 exact ⟨a0,a1,a2,a3,rfl⟩
theorem Nl {α:Type}{us:List α} (h:us.length=5):∃ a0 a1 a2 a3 a4,us=[a0,a1,a2,a3,a4]:=by
 obtain ⟨a0,r,rfl,g⟩:=Av h
 obtain ⟨a1,a2,a3,a4,rfl⟩:=Hg g
 exact ⟨a0,a1,a2,a3,a4,rfl⟩
noncomputable abbrev BdT (x qual:Str) (st:Uh) (fn:BT.Fn):Prop:=∀ (kV doc pm:Oz) (an:Option Addr) (cdv ct:Oz) (us:List Oz),us.length=fn.ps.length->Us (Qk x qual (cH st) (aL st) (ao st) .none kV doc pm an cdv ct) ⟨us,[]⟩=pure (fn.ps.zip us)
noncomputable def uC (K:Ow) (mg:Str->Option Oz) (p:BT.FK×BT.Fn):Prop:=(∀ x,p.1=.f x->Def K mg x p.2)/\(∀ c m,p.1=.m c m->zl K mg c m p.2)/\∀ L,p.1=.l L->BT.nQ L=some p.2/\∃ ns bt,p.2=⟨ns,ns,.ret bt⟩/\∀ y,ns.contains (BT.cj y)=false
theorem dd {K:Ow}{mg:Str->Option Oz}{x:Str}{fn:BT.Fn} (d:Def K mg x fn):uC K mg (.f x,fn):=⟨fun y e=>by cases e;exact d,fun c m e=>(by cases e),fun L e=>by cases e⟩
theorem dm {K:Ow}{mg:Str->Option Oz}{c m:Str}{fn:BT.Fn} (d:zl K mg c m fn):uC K mg (.m c m,fn):=⟨fun y e=>(by cases e),fun c m e=>by cases e;exact d,fun L e=>by cases e⟩
theorem dl {K:Ow}{mg:Str->Option Oz}{L:Nat}{ns:List Str}{bt:BT.E} (h:BT.nQ L=some ⟨ns,ns,.ret bt⟩) (n:qG ns=true):uC K mg (.l L,⟨ns,ns,.ret bt⟩):=⟨fun y e=>(by cases e),fun c m e=>(by cases e),fun M e=>by cases e;exact ⟨h,ns,bt,rfl,lO n⟩⟩
structure Dp (K:Ow) (tl:List (Str×Addr×Addr)):Prop where
 all:∀ z∈BT.dD,(∃ c P,(z,c,P)∈tl/\Pw K z=some (c,P))\/Pw K z=none
 hd:∀ q∈tl,RZ K q.2.1 q.2.2=true
theorem jC {K:Ow}{w:O6}{x:Str}{c P:Addr} (e:bS K (.tab x c P)=bT w (.tab x c P)):Pw K x=some (c,P)/\RZ K c P=true:=by
 simp only[bS,bT,Ov.b.injEq,OC,decide_eq_true_eq] at e
 exact e
theorem bx {K:Ow}{w:O6}{x:Str} (e:bS K (.no x)=bT w (.no x)):Pw K x=none:=by
 simp only[bS,bT,Ov.b.injEq,decide_eq_true_eq] at e
 unfold Pw
 rw[e]
theorem Aw {K:Ow}{x:Str}{f c P:Addr}{oc:Oz}{od:Option Addr}{fd:Qq}{sl:Array (Option Oz)} (h1:Pj K OV x=some (some (.ref f))) (h2:K.lookup f=some ⟨oc,od,.func fd,sl⟩) (h:Pw K x=some (c,P)):fd.code=.ref c:=by
 unfold Pw at h
 rw[h1] at h
 simp only[h2] at h
 split at h
 ·rename_i c' hc
  split at h
  ·split at h
   ·cases h;exact hc
   ·cases h
  ·cases h
 ·cases h
theorem Hh {K:Ow}{w:O6}{b:Addr} (e:bS K (.bm b)=bT w (.bm b)):∃ bm ob,Pj K OV "__builtins__"=some (some (.ref bm))/\bm≠QJ/\K.lookup bm=some ob/\ob.cls=.type "module"/\ob.dict=some QJ/\ob.data=.plain:=by
 simp only[bS,bT,Ov.b.injEq,bmB,OC,decide_eq_true_eq] at e
 obtain ⟨⟨e1,e2⟩,e3⟩:=e
 split at e3
 ·rename_i d sl l
  exact ⟨b,_,e1,e2,l,rfl,congrArg some (eq_of_beq e3),rfl⟩
 ·cases e3
noncomputable def tabsOk (tl:List (Str×Addr×Addr)):Bool:=tl.all fun p=>tl.all fun q=>!(p.2.2==q.2.2)||p.1==q.1
theorem uD {K:Ow}{w:O6}{x:Str}{fn:BT.Fn}{ns:List Str}{tl:List (Str×Addr×Addr)}{f c P b:Addr} (hns:fn.ns=ns++[BT.cj x]) (h0:qG ns=true) (mem:x∈BT.dD) (hT:Dp K tl) (hk:tabsOk tl=true) (hm:(x,c,P)∈tl) (et:bS K (.tab x c P)=bT w (.tab x c P)) (eb:bS K (.bm b)=bT w (.bm b)) :
 ∀ fd,Pj K OV x=some (some (.ref f))->(∃ oc od sl,K.lookup f=some ⟨oc,od,.func fd,sl⟩)->j4 K x fd fn:=fun fd h1 ⟨oc,od,sl,h2⟩ y hy=>by
 obtain ⟨t1,t2⟩:=jC et
 have e:y=x:=by
  have m:=List.contains_iff_mem.mp hy
  rw[hns] at m
  rcases List.mem_append.mp m with m | m
  ·have:=lO h0 y
   rw[List.contains_iff_mem.mpr m] at this;cases this
  ·exact Dn (by simpa using m)
 subst e
 refine ⟨rfl,mem,⟨c,P,t1,Aw h1 h2 t1,t2,fun z hz c2 e2=>?_⟩,Hh eb⟩
 rcases hT.all z hz with ⟨c3,P3,m3,e3⟩ | e3
 ·rw[e2] at e3
  cases e3
  have:=List.all_eq_true.mp (List.all_eq_true.mp hk _ m3) _ hm
  simp only[beq_self_eq_true,Uv,Bool.false_or] at this
  exact eq_of_beq this
 ·rw[e2] at e3;cases e3
theorem rX {K:Ow}{b:Addr}{o:Obj} (e:K.lookup b=some o):b∈K.map (·.1):=List.mem_map.mpr ⟨(b,o),PySem.W.mem_of_lookupK e,rfl⟩
theorem wu {P:OO}{w:O6}{K:Ow}{mg mb:Str->Option Oz}{k:Nat}{fa a:Addr}{fd:Qq}{x:Str}{sp:Sp}{s₁:OB}{vs:List Oz}{ns:List Int}{tl:List (Str×Addr×Addr)}
 (KX:K.In s₁.heap) (hns:s₁.heap.Ns OV mg) (hb:s₁.heap.Ns QJ mb) (hbb:∀ x:Str,x≠"__name__"->mb x=Sb x) (hlim:s₁.heap.NoLimit) (hg:s₁.gens=#[])
 (ha:s₁.heap.get? a=some { cls:=.type "list",data:=.seq vs.toArray }) (hi:RX vs ns) (hl:ns.length<=sizeLine) (hr:bU k Ve)
 (hT:Dp K tl) (hTs:∀ p∈tl,s₁.heap.get? p.2.2=some (QU #[])) (hTk:∀ p∈tl,K.lookup p.2.2=none)
 (F:∀ base:Heap,fT P w K mg base CX0 k fa fd [x] sp) (hbind:∀ (s:OB) (u:Oz),K.In s.heap->BindsTo s fd ⟨[u],[]⟩ [(x,u)])
 (hsp:∀ H:Hp,TB K H->LL K H a (ns.map V.int)->sp [.ref a] H (fun v _=>v=.bl true) fun _ _ _=>False) :
 codeAny (OY P w) Ve (.call (.ref fa) ⟨[.ref a],[]⟩) (fun r s'=>r=.ok (.ret (.bool true))/\OldK s₁.heap s'.heap/\s'.os=s₁.os/\Ug s'.gens) s₁:=by
 have rv:=jG hi
 have lenV:=hi.length
 have tne:∀ p∈tl,p.2.2≠a:=fun p hp z=>by
  have:=hTs p hp
  rw[z,ha] at this;cases this
 let so:HO:=.frz { cls:=.type "list",data:=.seq vs.toArray } (.lst (ns.map V.int))
 let H:Hp:=fun b=>if ∃ p∈tl,p.2.2=b then some (.tbl #[]) else if b=a/\K.lookup a=none then some so else none
 have Ht:∀ p∈tl,H p.2.2=some (.tbl #[]):=fun p hp=>if_pos ⟨p,hp,rfl⟩
 have Hcase:∀ b u,H b=some u->(∃ p∈tl,p.2.2=b/\u=.tbl #[])\/(b=a/\K.lookup a=none/\u=so):=fun b u e=>by
  by_cases c1:∃ p∈tl,p.2.2=b
  ·have e':some (HO.tbl #[])=some u:=(if_pos c1).symm.trans e
   obtain ⟨p,hp,h2⟩:=c1
   exact .inl ⟨p,hp,h2,(OP e').symm⟩
  ·have e':(if b=a/\K.lookup a=none then some so else none)=some u:=(if_neg c1).symm.trans e
   by_cases c2:b=a/\K.lookup a=none
   ·rw[if_pos c2] at e'
    exact .inr ⟨c2.1,c2.2,(OP e').symm⟩
   ·rw[if_neg c2] at e';cases e'
 have noA:∀ {b:Addr}{o:Obj}{es:Array TU}{ep:Nat},s₁.heap.get? b=some o->o.data=.dict es ep->H b=none:=fun {b o es ep} e d=>by
  cases q:H b with
  | none=>rfl
  | some u =>
   rcases Hcase b u q with ⟨p,hp,h2,_⟩ | ⟨h2,_⟩
   ·have z:=hTs p hp
    rw[h2,e] at z;cases z;cases d
   ·rw[h2,ha] at e;cases e
    have d':Data.seq vs.toArray _=Data.dict es ep:=d
    cases d'
 have nsK:∀ {b:Addr}{m:Str->Option Oz},s₁.heap.Ns b m->(oY s₁.heap H).Ns b m:=fun {b m} ⟨o,es,ep,e,d,r⟩=>⟨o,es,ep,oZ e (noA e d),d,r⟩
 have hKb:K.In (oY s₁.heap H):=fun b o e=>oZ (KX b o e) (by
  cases q:H b with
  | none=>rfl
  | some u =>
   rcases Hcase b u q with ⟨p,hp,h2,_⟩ | ⟨h2,h3,_⟩
   ·rw[← h2,hTk p hp] at e;cases e
   ·rw[h2,h3] at e;cases e)
 have hM:Mod K mg (oY s₁.heap H):=⟨hKb,nsK hns,⟨mb,nsK hb,hbb⟩,let ⟨mc,h1,h2⟩:=hlim;⟨mc,nsK h1,h2⟩⟩
 have hok:HOk P w H s₁.heap:=fun b u e=>by
  rcases Hcase b u e with ⟨p,hp,h2,rfl⟩ | ⟨h2,_,rfl⟩
  ·subst h2;exact hTs p hp
  ·subst h2;exact ⟨ha,by rw[OQ];exact hl,vs,_,rv,ha⟩
 have e0:lT P w K mg (oY s₁.heap H) Ve [] s₁ H:=⟨rfl,hM,fun b o e=>AE e,Nat.le_of_eq (uQ _ _),trivial,fun b hb=>absurd (show b∈([]:List Addr) from hb) (by simp),hok,.of_eq hg⟩
 have tb:TB K H:=fun z hz c Pt e=>by
  rcases hT.all z hz with ⟨c3,P3,m3,e3⟩ | e3
  ·rw[e] at e3;cases e3
   exact ⟨#[],Ht _ m3,trivial,fun pos v q=>by cases q⟩
  ·rw[e] at e3;cases e3
 have hS:LL K H a (ns.map V.int):=by
  cases hk:K.lookup a with
  | some o =>
   have e:=KX a o hk
   rw[ha] at e
   cases e
   exact .inr ⟨vs,_,hk,by rw[lenV];exact hl,rv⟩
  | none =>
   refine .inl (.inr ⟨{ cls:=.type "list",data:=.seq vs.toArray },?_⟩)
   have e1:H a=(if a=a/\K.lookup a=none then some so else none):=if_neg fun ⟨p,hp,z⟩=>tne p hp z
   rw[e1,if_pos ⟨rfl,hk⟩]
 refine codeAny_mono ((F _).run Ve [] s₁ H ⟨[.ref a],[]⟩ [.ref a] [.ref a] _ _ hr e0 (hbind s₁ (.ref a) KX) (.cons rfl .nil) (hsp H tb hS)) fun r s' h=>?_
 cases r with
 | error e=>exact Pn h
 | ok fl =>
  cases fl with
  | next=>exact Pn h
  | brk=>exact Pn h
  | cont=>exact Pn h
  | ret u =>
   obtain ⟨v,H',os,bare,un,hok',r',q⟩:=h
   have q':v=.bl true:=q
   subst q'
   obtain rfl:u=Vg true:=r'
   have kp:∀ b o,s₁.heap.get? b=some o->(s'.heap.get? b=some o)\/∃ p∈tl,p.2.2=b/\∃ more,s'.heap.get? b=some (QU (#[]++more)):=fun b o e=>by
    cases q:H b with
    | none=>exact .inl (un.keep b o e q (by intro z;exact absurd (show b∈([]:List Addr) from z) (by simp)) (by simp))
    | some u =>
     rcases Hcase b u q with ⟨p,hp,h2,rfl⟩ | ⟨h2,h3,rfl⟩
     ·obtain ⟨more,z⟩:=un.tbls b _ q
      exact .inr ⟨p,hp,h2,more,hok' b _ z⟩
     ·have z2:=un.frzs b _ _ q
      obtain ⟨e1,_⟩:=hok b _ q
      obtain ⟨e2,_⟩:=hok' b _ z2
      rw[e] at e1;cases e1
      exact .inl e2
   refine ⟨rfl,⟨fun b o e=>?_,fun b o e=>?_⟩,os,bare⟩
   ·rcases kp b o e with z | ⟨p,hp,rfl,more,z⟩
    ·exact .inl z
    ·have e2:=hTs p hp
     rw[e] at e2
     cases e2
     have tA:=(UF KX (hT.hd p hp)).tab e
     exact .inr (.inl ⟨tA.isCodeTable,rfl,#[],more,rfl,z⟩)
   ·rcases kp b o e with z | ⟨p,hp,rfl,more,z⟩
    ·exact ⟨o,z⟩
    ·exact ⟨_,z⟩
theorem Ax {l:PySem.W.OpenLaw}{n k:Nat}{q:OO}{loose:List Str}{XP:(Str->Option Oz)->Heap->Prop}{d:DefRec}{as:List Addr}{qs:List Qy}{ts:List Addr}{tl:List (Str×Addr×Addr)}{T:BT.FK->Option BT.Fn}{G:Str->Option BT.W}{fn:BT.Fn}{x:Str}
 (hn:l.most=some n) (hn2:n<=sizeLine) (hdf:d.params.defaults=[]) (hr:bU (2*k) Ve) (hps:fn.ps=[x]) (hT:T (.f d.name)=some fn) (hts:ts=tl.map (·.2.2)) (hto:tl.all (fun p=>!as.contains p.2.2)=true)
 (FT:∀ (w:O6) (K:Ow),(∀ q∈qs,bS K q=bT w q)->Dp K tl)
 (F:∀ (P:OO) (w:O6) (mg:Str->Option Oz) (K:Ow) (h:Heap),K.In h->h.Ns OV mg->(∀ q∈qs,bS K q=bT w q)->Txt P w K mg T G)
 (hrun:∀ ns:List Int,ns.length<=n->∃ h',BT.runN T G k (.f d.name) [.p (.lst (BT.aa ns))] []=some (.p (.bl true),h')) :
 PySem.W.WalkO q loose XP (sees as qs ts).says l.row.toRowW d [] (fun f vs=>Vh f vs):=by
 refine Att.pF hn hdf fun w s₀ s₁ mg mb fa o pm cd doc a vs ns Gr Y ho hd hcd hmg hobj hints hlen hg=>?_
 obtain ⟨K,k0,k1,k2,k3⟩:=Y
 have KX:=Dm k1
 have X:=F l.prog w mg K s₁.heap KX Gr.T.g k2
 obtain ⟨f,fd,st,h1,h2,h3,h4,h5,h6⟩:=(X.defs _ fn hT).ex
 rw[hmg] at h1
 cases h1
 refine wu (sp:=spF l.prog w K (BT.runN T G k (.f d.name))) (x:=x) (k:=2*k) (fd:=fd) (tl:=tl) KX Gr.T.g Gr.T.b Gr.T.builtins Gr.T.nolimit hg hobj hints (Ph hlen hn2) hr (FT w K k2) (fun p hp=>k3 _ (by rw[hts];exact U5 hp)) (fun p hp=>?_) (fun base=>?_) (fun s u hK=>?_) (fun H tb hS=>Am tb hS (hrun ns hlen))
 ·cases e:K.lookup p.2.2 with
  | none=>rfl
  | some o =>
   have m:=rX e
   rw[k0] at m
   have:=List.all_eq_true.mp hto p hp
   rw[List.contains_iff_mem.mpr m] at this;cases this
 ·have:=GA (base:=base) X k (.f d.name) fn hT _ fd d.name d.name st h2 h3 h5 h6
  rw[hps] at this
  exact this
 ·have:=h4 s [u] hK (by rw[hps];rfl)
  rw[hps] at this
  exact this
end BG
end
section
namespace BL
open PySem PySem.Spec PyProof.Rows L2 BS BF BG
noncomputable abbrev CkT (s:PB) (f:BT.Fn):Prop:=CSs (ao s) f.ns f.body (aL s)/\cI f.ns f.ps (ao s)
theorem J9:CkT (top 10) BT.dP:=⟨by repeat' (first | rfl | constructor | decide +kernel),by constructor<;>first | rfl | decide +kernel⟩
theorem Nn:BdT "is_whole" "is_whole" (top 10) BT.dP:=fun _ _ _ _ _ _ us hl=>by obtain ⟨a0,rfl⟩:=mH hl;rfl
theorem Ka:CkT (top 11) BT.eS:=⟨by repeat' (first | rfl | constructor | decide +kernel),by constructor<;>first | rfl | decide +kernel⟩
theorem Np:BdT "is_name" "is_name" (top 11) BT.eS:=fun _ _ _ _ _ _ us hl=>by obtain ⟨a0,rfl⟩:=mH hl;rfl
theorem Kc:CkT (top 13) BT.bJ:=⟨by repeat' (first | rfl | constructor | decide +kernel),by constructor<;>first | rfl | decide +kernel⟩
theorem Nq:BdT "inner_sums" "inner_sums" (top 13) BT.bJ:=fun _ _ _ _ _ _ us hl=>by obtain ⟨a0,rfl⟩:=mH hl;rfl
theorem Kd:CkT (top 22) BT.gE:=⟨by repeat' (first | rfl | constructor | decide +kernel),by constructor<;>first | rfl | decide +kernel⟩
theorem Nr:BdT "begun" "begun" (top 22) BT.gE:=fun _ _ _ _ _ _ us hl=>by obtain rfl:=len0 hl;rfl
theorem Ke:CkT (top 24) BT.dN:=⟨by repeat' (first | rfl | constructor | decide +kernel),by constructor<;>first | rfl | decide +kernel⟩
theorem Nt:BdT "worth_in" "worth_in" (top 24) BT.dN:=fun _ _ _ _ _ _ us hl=>by obtain ⟨a0,a1,rfl⟩:=dW hl;rfl
theorem Kf:CkT (top 25) BT.dM:=⟨by repeat' (first | rfl | constructor | decide +kernel),by constructor<;>first | rfl | decide +kernel⟩
theorem Nu:BdT "laid_out" "laid_out" (top 25) BT.dM:=fun _ _ _ _ _ _ us hl=>by obtain ⟨a0,rfl⟩:=mH hl;rfl
theorem Kg:CkT (top 26) BT.fM:=⟨by repeat' (first | rfl | constructor | decide +kernel),by constructor<;>first | rfl | decide +kernel⟩
theorem Nv:BdT "of_two" "of_two" (top 26) BT.fM:=fun _ _ _ _ _ _ us hl=>by obtain ⟨a0,a1,a2,rfl⟩:=iy hl;rfl
theorem Kl:CkT (top 27) BT.bC:=⟨by repeat' (first | rfl | constructor | decide +kernel),by constructor<;>first | rfl | decide +kernel⟩
theorem Nx:BdT "worth_of" "worth_of" (top 27) BT.bC:=fun _ _ _ _ _ _ us hl=>by obtain ⟨a0,a1,a2,rfl⟩:=iy hl;rfl
theorem Km:CkT (top 28) BT.dO:=⟨by repeat' (first | rfl | constructor | decide +kernel),by constructor<;>first | rfl | decide +kernel⟩
theorem Ny:BdT "reckoned" "reckoned" (top 28) BT.dO:=fun _ _ _ _ _ _ us hl=>by obtain ⟨a0,a1,rfl⟩:=dW hl;rfl
theorem Kn:CkT (top 29) BT.eU:=⟨by repeat' (first | rfl | constructor | decide +kernel),by constructor<;>first | rfl | decide +kernel⟩
theorem Nz:BdT "cell_by" "cell_by" (top 29) BT.eU:=fun _ _ _ _ _ _ us hl=>by obtain ⟨a0,a1,rfl⟩:=dW hl;rfl
theorem Ko:CkT (top 30) BT.dg:=⟨by repeat' (first | rfl | constructor | decide +kernel),by constructor<;>first | rfl | decide +kernel⟩
theorem NB:BdT "is_over" "is_over" (top 30) BT.dg:=fun _ _ _ _ _ _ us hl=>by obtain ⟨a0,a1,rfl⟩:=dW hl;rfl
theorem Kp:CkT (top 31) BT.bG:=⟨by repeat' (first | rfl | constructor | decide +kernel),by constructor<;>first | rfl | decide +kernel⟩
theorem NC:BdT "place_behind" "place_behind" (top 31) BT.bG:=fun _ _ _ _ _ _ us hl=>by obtain ⟨a0,a1,rfl⟩:=dW hl;rfl
theorem Kq:CkT (top 32) BT.bV:=⟨by repeat' (first | rfl | constructor | decide +kernel),by constructor<;>first | rfl | decide +kernel⟩
theorem ND:BdT "with_worth" "with_worth" (top 32) BT.bV:=fun _ _ _ _ _ _ us hl=>by obtain ⟨a0,a1,a2,rfl⟩:=iy hl;rfl
theorem Kr:CkT (top 33) BT.cK:=⟨by repeat' (first | rfl | constructor | decide +kernel),by constructor<;>first | rfl | decide +kernel⟩
theorem NF:BdT "with_name" "with_name" (top 33) BT.cK:=fun _ _ _ _ _ _ us hl=>by obtain ⟨a0,a1,a2,rfl⟩:=iy hl;rfl
theorem Ks:CkT (top 34) BT.dh:=⟨by repeat' (first | rfl | constructor | decide +kernel),by constructor<;>first | rfl | decide +kernel⟩
theorem NG:BdT "brought" "brought" (top 34) BT.dh:=fun _ _ _ _ _ _ us hl=>by obtain ⟨a0,a1,rfl⟩:=dW hl;rfl
theorem Ku:CkT (top 35) BT.eV:=⟨by repeat' (first | rfl | constructor | decide +kernel),by constructor<;>first | rfl | decide +kernel⟩
theorem NH:BdT "stepped" "stepped" (top 35) BT.eV:=fun _ _ _ _ _ _ us hl=>by obtain ⟨a0,a1,a2,rfl⟩:=iy hl;rfl
theorem Kv:CkT (top 37) BT.eZ:=⟨by repeat' (first | rfl | constructor | decide +kernel),by constructor<;>first | rfl | decide +kernel⟩
theorem NI:BdT "open_in" "open_in" (top 37) BT.eZ:=fun _ _ _ _ _ _ us hl=>by obtain ⟨a0,rfl⟩:=mH hl;rfl
theorem Kw:CkT (top 38) BT.gK:=⟨by repeat' (first | rfl | constructor | decide +kernel),by constructor<;>first | rfl | decide +kernel⟩
theorem NJ:BdT "depth" "depth" (top 38) BT.gK:=fun _ _ _ _ _ _ us hl=>by obtain ⟨a0,a1,rfl⟩:=dW hl;rfl
theorem Kx:CkT (top 39) BT.aJ:=⟨by repeat' (first | rfl | constructor | decide +kernel),by constructor<;>first | rfl | decide +kernel⟩
theorem NK:BdT "next_within" "next_within" (top 39) BT.aJ:=fun _ _ _ _ _ _ us hl=>by obtain ⟨a0,a1,a2,rfl⟩:=iy hl;rfl
theorem Kz:CkT (top 40) BT.aK:=⟨by repeat' (first | rfl | constructor | decide +kernel),by constructor<;>first | rfl | decide +kernel⟩
theorem NL:BdT "last_within" "last_within" (top 40) BT.aK:=fun _ _ _ _ _ _ us hl=>by obtain ⟨a0,a1,a2,rfl⟩:=iy hl;rfl
theorem KA:CkT (top 41) BT.jw:=⟨by repeat' (first | rfl | constructor | decide +kernel),by constructor<;>first | rfl | decide +kernel⟩
theorem NN:BdT "over" "over" (top 41) BT.jw:=fun _ _ _ _ _ _ us hl=>by obtain ⟨a0,a1,rfl⟩:=dW hl;rfl
theorem KB:CkT (top 42) BT.lJ:=⟨by repeat' (first | rfl | constructor | decide +kernel),by constructor<;>first | rfl | decide +kernel⟩
theorem NO:BdT "out" "out" (top 42) BT.lJ:=fun _ _ _ _ _ _ us hl=>by obtain ⟨a0,a1,rfl⟩:=dW hl;rfl
theorem KC:CkT (top 43) BT.cQ:=⟨by repeat' (first | rfl | constructor | decide +kernel),by constructor<;>first | rfl | decide +kernel⟩
theorem NP:BdT "back_over" "back_over" (top 43) BT.cQ:=fun _ _ _ _ _ _ us hl=>by obtain ⟨a0,a1,rfl⟩:=dW hl;rfl
theorem KG:CkT (top 44) BT.dS:=⟨by repeat' (first | rfl | constructor | decide +kernel),by constructor<;>first | rfl | decide +kernel⟩
theorem NQ:BdT "back_out" "back_out" (top 44) BT.dS:=fun _ _ _ _ _ _ us hl=>by obtain ⟨a0,a1,rfl⟩:=dW hl;rfl
theorem KH:CkT (top 45) BT.gM:=⟨by repeat' (first | rfl | constructor | decide +kernel),by constructor<;>first | rfl | decide +kernel⟩
theorem NR:BdT "calls" "calls" (top 45) BT.gM:=fun _ _ _ _ _ _ us hl=>by obtain ⟨a0,rfl⟩:=mH hl;rfl
theorem KI:CkT (top 46) BT.bZ:=⟨by repeat' (first | rfl | constructor | decide +kernel),by constructor<;>first | rfl | decide +kernel⟩
theorem NS:BdT "open_calls" "open_calls" (top 46) BT.bZ:=fun _ _ _ _ _ _ us hl=>by obtain ⟨a0,a1,rfl⟩:=dW hl;rfl
theorem KJ:CkT (top 51) BT.cE:=⟨by repeat' (first | rfl | constructor | decide +kernel),by constructor<;>first | rfl | decide +kernel⟩
theorem NT:BdT "_law_cell" "_law_cell" (top 51) BT.cE:=fun _ _ _ _ _ _ us hl=>by obtain ⟨a0,a1,rfl⟩:=dW hl;rfl
theorem KM:CkT (top 52) BT.cM:=⟨by repeat' (first | rfl | constructor | decide +kernel),by constructor<;>first | rfl | decide +kernel⟩
theorem NU:BdT "_law_drawn" "_law_drawn" (top 52) BT.cM:=fun _ _ _ _ _ _ us hl=>by obtain ⟨a0,a1,a2,rfl⟩:=iy hl;rfl
theorem KN:CkT (top 53) BT.bN:=⟨by repeat' (first | rfl | constructor | decide +kernel),by constructor<;>first | rfl | decide +kernel⟩
theorem NV:BdT "_law_sum" "_law_sum" (top 53) BT.bN:=fun _ _ _ _ _ _ us hl=>by obtain ⟨a0,a1,a2,rfl⟩:=iy hl;rfl
theorem KO:CkT (top 54) BT.eW:=⟨by repeat' (first | rfl | constructor | decide +kernel),by constructor<;>first | rfl | decide +kernel⟩
theorem NW:BdT "_law_row" "_law_row" (top 54) BT.eW:=fun _ _ _ _ _ _ us hl=>by obtain ⟨a0,a1,a2,rfl⟩:=iy hl;rfl
theorem KP:CkT (top 55) BT.aR:=⟨by repeat' (first | rfl | constructor | decide +kernel),by constructor<;>first | rfl | decide +kernel⟩
theorem NY:BdT "_law_program" "_law_program" (top 55) BT.aR:=fun _ _ _ _ _ _ us hl=>by obtain ⟨a0,a1,rfl⟩:=dW hl;rfl
theorem KQ:CkT (top 56) BT.cN:=⟨by repeat' (first | rfl | constructor | decide +kernel),by constructor<;>first | rfl | decide +kernel⟩
theorem NZ:BdT "_law_asked" "_law_asked" (top 56) BT.cN:=fun _ _ _ _ _ _ us hl=>by obtain ⟨a0,a1,rfl⟩:=dW hl;rfl
theorem KR:CkT (top 57) BT.bw:=⟨by repeat' (first | rfl | constructor | decide +kernel),by constructor<;>first | rfl | decide +kernel⟩
theorem N1:BdT "_law_calling" "_law_calling" (top 57) BT.bw:=fun _ _ _ _ _ _ us hl=>by obtain ⟨a0,a1,rfl⟩:=dW hl;rfl
theorem KS:CkT (top 58) BT.fO:=⟨by repeat' (first | rfl | constructor | decide +kernel),by constructor<;>first | rfl | decide +kernel⟩
theorem N2:BdT "law" "law" (top 58) BT.fO:=fun _ _ _ _ _ _ us hl=>by obtain ⟨a0,rfl⟩:=mH hl;rfl
theorem Ay:CkT (bD 49 0) BT.cO:=⟨by repeat' (first | rfl | constructor | decide +kernel),by constructor<;>first | rfl | decide +kernel⟩
theorem Hi:BdT "__init__" "Tape.__init__" (bD 49 0) BT.cO:=fun _ _ _ _ _ _ us hl=>by obtain ⟨a0,a1,a2,a3,a4,rfl⟩:=Nl hl;rfl
theorem Az:CkT (bD 49 1) BT.eX:=⟨by repeat' (first | rfl | constructor | decide +kernel),by constructor<;>first | rfl | decide +kernel⟩
theorem Hj:BdT "at" "Tape.at" (bD 49 1) BT.eX:=fun _ _ _ _ _ _ us hl=>by obtain ⟨a0,a1,rfl⟩:=dW hl;rfl
theorem AA:CkT (bD 49 2) BT.dQ:=⟨by repeat' (first | rfl | constructor | decide +kernel),by constructor<;>first | rfl | decide +kernel⟩
theorem Hl:BdT "end" "Tape.end" (bD 49 2) BT.dQ:=fun _ _ _ _ _ _ us hl=>by obtain ⟨a0,rfl⟩:=mH hl;rfl
theorem uE:CkT (bD 49 10) BT.bO:=⟨by repeat' (first | rfl | constructor | decide +kernel),by constructor<;>first | rfl | decide +kernel⟩
theorem Dq:BdT "behind" "Tape.behind" (bD 49 10) BT.bO:=fun _ _ _ _ _ _ us hl=>by obtain ⟨a0,a1,rfl⟩:=dW hl;rfl
theorem uF:CkT (bD 49 11) BT.aU:=⟨by repeat' (first | rfl | constructor | decide +kernel),by constructor<;>first | rfl | decide +kernel⟩
theorem Dr:BdT "is_last" "Tape.is_last" (bD 49 11) BT.aU:=fun _ _ _ _ _ _ us hl=>by obtain ⟨a0,a1,a2,rfl⟩:=iy hl;rfl
theorem uG:CkT (bD 49 12) BT.bP:=⟨by repeat' (first | rfl | constructor | decide +kernel),by constructor<;>first | rfl | decide +kernel⟩
theorem Ds:BdT "keep" "Tape.keep" (bD 49 12) BT.bP:=fun _ _ _ _ _ _ us hl=>by obtain ⟨a0,a1,rfl⟩:=dW hl;rfl
theorem uH:CkT (bD 49 13) BT.bW:=⟨by repeat' (first | rfl | constructor | decide +kernel),by constructor<;>first | rfl | decide +kernel⟩
theorem Dt:BdT "reach" "Tape.reach" (bD 49 13) BT.bW:=fun _ _ _ _ _ _ us hl=>by obtain ⟨a0,a1,rfl⟩:=dW hl;rfl
theorem uI:CkT (bD 49 14) BT.cG:=⟨by repeat' (first | rfl | constructor | decide +kernel),by constructor<;>first | rfl | decide +kernel⟩
theorem Du:BdT "has" "Tape.has" (bD 49 14) BT.cG:=fun _ _ _ _ _ _ us hl=>by obtain ⟨a0,a1,rfl⟩:=dW hl;rfl
theorem uJ:CkT (bD 49 15) BT.bX:=⟨by repeat' (first | rfl | constructor | decide +kernel),by constructor<;>first | rfl | decide +kernel⟩
theorem Dv:BdT "check" "Tape.check" (bD 49 15) BT.bX:=fun _ _ _ _ _ _ us hl=>by obtain ⟨a0,a1,rfl⟩:=dW hl;rfl
theorem uK:CkT (bD 49 16) BT.br:=⟨by repeat' (first | rfl | constructor | decide +kernel),by constructor<;>first | rfl | decide +kernel⟩
theorem Dw:BdT "readings" "Tape.readings" (bD 49 16) BT.br:=fun _ _ _ _ _ _ us hl=>by obtain ⟨a0,a1,rfl⟩:=dW hl;rfl
theorem uL:CkT (bD 49 18) BT.aS:=⟨by repeat' (first | rfl | constructor | decide +kernel),by constructor<;>first | rfl | decide +kernel⟩
theorem Dy:BdT "first_from" "Tape.first_from" (bD 49 18) BT.aS:=fun _ _ _ _ _ _ us hl=>by obtain ⟨a0,a1,a2,rfl⟩:=iy hl;rfl
theorem uM:CkT (bD 49 19) BT.bH:=⟨by repeat' (first | rfl | constructor | decide +kernel),by constructor<;>first | rfl | decide +kernel⟩
theorem Dz:BdT "last_to" "Tape.last_to" (bD 49 19) BT.bH:=fun _ _ _ _ _ _ us hl=>by obtain ⟨a0,a1,a2,rfl⟩:=iy hl;rfl
theorem uN:CkT (bD 49 20) BT.aI:=⟨by repeat' (first | rfl | constructor | decide +kernel),by constructor<;>first | rfl | decide +kernel⟩
theorem DA:BdT "last_between" "Tape.last_between" (bD 49 20) BT.aI:=fun _ _ _ _ _ _ us hl=>by obtain ⟨a0,a1,a2,a3,rfl⟩:=Hg hl;rfl
noncomputable def tab:List (BT.FK×BT.Fn):=[(.f "is_whole",BT.dP),(.f "is_name",BT.eS),(.f "inner_sums",BT.bJ),(.f "begun",BT.gE),(.f "worth_in",BT.dN),(.f "laid_out",BT.dM),(.f "of_two",BT.fM),(.f "worth_of",BT.bC),(.f "reckoned",BT.dO),(.f "cell_by",BT.eU),(.f "is_over",BT.dg),(.f "place_behind",BT.bG),(.f "with_worth",BT.bV),(.f "with_name",BT.cK),(.f "brought",BT.dh),(.f "stepped",BT.eV),(.f "open_in",BT.eZ),(.f "depth",BT.gK),(.f "next_within",BT.aJ),(.f "last_within",BT.aK),(.f "over",BT.jw),(.f "out",BT.lJ),(.f "back_over",BT.cQ),(.f "back_out",BT.dS),(.f "calls",BT.gM),(.f "open_calls",BT.bZ),(.f "_law_cell",BT.cE),(.f "_law_drawn",BT.cM),(.f "_law_sum",BT.bN),(.f "_law_row",BT.eW),(.f "_law_program",BT.aR),(.f "_law_asked",BT.cN),(.f "_law_calling",BT.bw),(.f "law",BT.fO),(.m "Tape" "__init__",BT.cO),(.m "Tape" "at",BT.eX),(.m "Tape" "end",BT.dQ),(.m "Tape" "behind",BT.bO),(.m "Tape" "is_last",BT.aU),(.m "Tape" "keep",BT.bP),(.m "Tape" "reach",BT.bW),(.m "Tape" "has",BT.cG),(.m "Tape" "check",BT.bX),(.m "Tape" "readings",BT.br),(.m "Tape" "first_from",BT.aS),(.m "Tape" "last_to",BT.bH),(.m "Tape" "last_between",BT.aI),(.l 9,BT.Bw),(.l 10,BT.sL)]
noncomputable def glo:List (Str×BT.W):=[("CELL_COUNT",.p (.int 4)),("WORTH_COUNT",.p (.int 10007)),("ROW",.p (.int 0)),("NAMES",.p (.int 1)),("CELLS",.p (.int 2)),("CALLS",.p (.int 3)),("ASKED",.p (.int 4)),("SAID",.p (.int 5)),("MOST_CALLS",.p (.int 6)),("MOST_MARKS",.p (.int 8)),("LETTERS",.p (.tup ((["a","b","c","d","e","f"]:List Str).map BT.D.str))),("open_in",.c (.f "open_in") []),("INNER_COUNTS",.k (([("num",0),("name",0),("cell",1),("add",2),("sub",2),("mul",2),("less",2)]:List (Str×Int)).map fun q=>(q.1,BT.D.int q.2)))]
noncomputable abbrev T:BT.FK->Option BT.Fn:=look tab
noncomputable abbrev G:Str->Option BT.W:=look glo
theorem prg:BT.Prg T G:=⟨rfl,rfl,rfl,rfl,rfl,rfl,rfl,rfl,rfl,rfl,rfl,rfl,rfl,rfl,rfl,rfl,rfl,rfl,rfl,rfl,rfl,rfl,rfl,rfl,rfl,rfl⟩
theorem tpp:BT.TpP T G:=⟨prg,rfl,rfl,rfl,rfl,rfl,rfl,rfl,rfl,rfl,rfl⟩
theorem run (ns:List Int) (h:ns.length<=1000):∃ h',BT.runN T G 40 "law" [.p (.lst (BT.aa ns))] []=some (.p (.bl true),h'):=BT.wk ⟨tpp,⟨rfl⟩,⟨⟨rfl⟩,⟨rfl,rfl⟩⟩,⟨rfl⟩,⟨rfl,rfl,rfl,rfl,rfl,rfl⟩,⟨rfl,rfl,rfl,rfl⟩,⟨rfl,rfl,rfl⟩⟩ ⟨⟨rfl,rfl,rfl,rfl,rfl⟩,rfl,rfl,rfl⟩ ns h 24
theorem KU (w:O6) (K:Ow) (hq:∀ q∈qys,bS K q=bT w q):Dp K tl:=by
 refine ⟨fun z hz=>?_,fun p hp=>?_⟩
 ·simp only[BT.dD,QS,Qo,or_false] at hz
  rcases hz with rfl | rfl | rfl | rfl | rfl | rfl | rfl | rfl | rfl | rfl | rfl | rfl | rfl | rfl | rfl
  ·exact .inr (bx (w:=w) (hq _ (nth 65 rfl)))
  ·exact .inr (bx (w:=w) (hq _ (nth 66 rfl)))
  ·exact .inr (bx (w:=w) (hq _ (nth 67 rfl)))
  ·exact .inr (bx (w:=w) (hq _ (nth 68 rfl)))
  ·exact .inr (bx (w:=w) (hq _ (nth 69 rfl)))
  ·exact .inr (bx (w:=w) (hq _ (nth 70 rfl)))
  ·exact .inr (bx (w:=w) (hq _ (nth 71 rfl)))
  ·exact .inr (bx (w:=w) (hq _ (nth 72 rfl)))
  ·exact .inr (bx (w:=w) (hq _ (nth 73 rfl)))
  ·exact .inl ⟨206,202,nth 0 rfl,(jC (w:=w) (hq _ (nth 74 rfl))).1⟩
  ·exact .inl ⟨213,209,nth 1 rfl,(jC (w:=w) (hq _ (nth 75 rfl))).1⟩
  ·exact .inr (bx (w:=w) (hq _ (nth 76 rfl)))
  ·exact .inr (bx (w:=w) (hq _ (nth 77 rfl)))
  ·exact .inr (bx (w:=w) (hq _ (nth 78 rfl)))
  ·exact .inr (bx (w:=w) (hq _ (nth 79 rfl)))
 ·simp only[tl,QS,Qo,or_false] at hp
  rcases hp with rfl | rfl
  ·exact (jC (w:=w) (hq _ (nth 74 rfl))).2
  ·exact (jC (w:=w) (hq _ (nth 75 rfl))).2
theorem txt (P:OO) (w:O6) (mg:Str->Option Oz) (K:Ow) (h:Heap) (X:K.In h) (Gh:h.Ns OV mg) (hq:∀ q∈qys,bS K q=bT w q):Txt P w K mg T G:=by
 have tbf:=KU w K hq
 have all:∀ p∈tab,uC K mg p:=by
  intro p hp
  simp only[tab,QS,Qo,or_false] at hp
  rcases hp with rfl | rfl | rfl | rfl | rfl | rfl | rfl | rfl | rfl | rfl | rfl | rfl | rfl | rfl | rfl | rfl | rfl | rfl | rfl | rfl | rfl | rfl | rfl | rfl | rfl | rfl | rfl | rfl | rfl | rfl | rfl | rfl | rfl | rfl | rfl | rfl | rfl | rfl | rfl | rfl | rfl | rfl | rfl | rfl | rfl | rfl | rfl | rfl | rfl
  ·exact dd (ay X Gh (hq _ (nth 0 rfl)) J9.2 Nn J9.1 (fun _ _ _=>aA (by decide +kernel)))
  ·exact dd (ay X Gh (hq _ (nth 1 rfl)) Ka.2 Np Ka.1 (fun _ _ _=>aA (by decide +kernel)))
  ·exact dd (ay X Gh (hq _ (nth 2 rfl)) Kc.2 Nq Kc.1 (fun _ _ _=>aA (by decide +kernel)))
  ·exact dd (ay X Gh (hq _ (nth 3 rfl)) Kd.2 Nr Kd.1 (fun _ _ _=>aA (by decide +kernel)))
  ·exact dd (ay X Gh (hq _ (nth 4 rfl)) Ke.2 Nt Ke.1 (fun _ _ _=>aA (by decide +kernel)))
  ·exact dd (ay X Gh (hq _ (nth 5 rfl)) Kf.2 Nu Kf.1 (fun _ _ _=>aA (by decide +kernel)))
  ·exact dd (ay X Gh (hq _ (nth 6 rfl)) Kg.2 Nv Kg.1 (fun _ _ _=>aA (by decide +kernel)))
  ·exact dd (ay X Gh (hq _ (nth 7 rfl)) Kl.2 Nx Kl.1 (fun _ _ _=>aA (by decide +kernel)))
  ·exact dd (ay X Gh (hq _ (nth 8 rfl)) Km.2 Ny Km.1 (fun _ _ _=>aA (by decide +kernel)))
  ·exact dd (ay X Gh (hq _ (nth 9 rfl)) Kn.2 Nz Kn.1 (fun _ _ _=>aA (by decide +kernel)))
  ·exact dd (ay X Gh (hq _ (nth 10 rfl)) Ko.2 NB Ko.1 (fun _ _ _=>aA (by decide +kernel)))
  ·exact dd (ay X Gh (hq _ (nth 11 rfl)) Kp.2 NC Kp.1 (fun _ _ _=>aA (by decide +kernel)))
  ·exact dd (ay X Gh (hq _ (nth 12 rfl)) Kq.2 ND Kq.1 (fun _ _ _=>aA (by decide +kernel)))
  ·exact dd (ay X Gh (hq _ (nth 13 rfl)) Kr.2 NF Kr.1 (fun _ _ _=>aA (by decide +kernel)))
  ·exact dd (ay X Gh (hq _ (nth 14 rfl)) Ks.2 NG Ks.1 (fun _ _ _=>aA (by decide +kernel)))
  ·exact dd (ay X Gh (hq _ (nth 15 rfl)) Ku.2 NH Ku.1 (fun _ _ _=>aA (by decide +kernel)))
  ·exact dd (ay X Gh (hq _ (nth 16 rfl)) Kv.2 NI Kv.1 (fun _ _ _=>aA (by decide +kernel)))
  ·exact dd (ay X Gh (hq _ (nth 17 rfl)) Kw.2 NJ Kw.1 (fun _ _ _=>aA (by decide +kernel)))
  ·exact dd (ay X Gh (hq _ (nth 18 rfl)) Kx.2 NK Kx.1 (uD (f:=207) (ns:=BT.aJ.ns.dropLast) (by decide +kernel) (by decide +kernel) (by decide +kernel) tbf (by decide +kernel) (nth 0 rfl) (hq _ (nth 74 rfl)) (hq _ (nth 80 rfl))))
  ·exact dd (ay X Gh (hq _ (nth 19 rfl)) Kz.2 NL Kz.1 (uD (f:=214) (ns:=BT.aK.ns.dropLast) (by decide +kernel) (by decide +kernel) (by decide +kernel) tbf (by decide +kernel) (nth 1 rfl) (hq _ (nth 75 rfl)) (hq _ (nth 80 rfl))))
  ·exact dd (ay X Gh (hq _ (nth 20 rfl)) KA.2 NN KA.1 (fun _ _ _=>aA (by decide +kernel)))
  ·exact dd (ay X Gh (hq _ (nth 21 rfl)) KB.2 NO KB.1 (fun _ _ _=>aA (by decide +kernel)))
  ·exact dd (ay X Gh (hq _ (nth 22 rfl)) KC.2 NP KC.1 (fun _ _ _=>aA (by decide +kernel)))
  ·exact dd (ay X Gh (hq _ (nth 23 rfl)) KG.2 NQ KG.1 (fun _ _ _=>aA (by decide +kernel)))
  ·exact dd (ay X Gh (hq _ (nth 24 rfl)) KH.2 NR KH.1 (fun _ _ _=>aA (by decide +kernel)))
  ·exact dd (ay X Gh (hq _ (nth 25 rfl)) KI.2 NS KI.1 (fun _ _ _=>aA (by decide +kernel)))
  ·exact dd (ay X Gh (hq _ (nth 26 rfl)) KJ.2 NT KJ.1 (fun _ _ _=>aA (by decide +kernel)))
  ·exact dd (ay X Gh (hq _ (nth 27 rfl)) KM.2 NU KM.1 (fun _ _ _=>aA (by decide +kernel)))
  ·exact dd (ay X Gh (hq _ (nth 28 rfl)) KN.2 NV KN.1 (fun _ _ _=>aA (by decide +kernel)))
  ·exact dd (ay X Gh (hq _ (nth 29 rfl)) KO.2 NW KO.1 (fun _ _ _=>aA (by decide +kernel)))
  ·exact dd (ay X Gh (hq _ (nth 30 rfl)) KP.2 NY KP.1 (fun _ _ _=>aA (by decide +kernel)))
  ·exact dd (ay X Gh (hq _ (nth 31 rfl)) KQ.2 NZ KQ.1 (fun _ _ _=>aA (by decide +kernel)))
  ·exact dd (ay X Gh (hq _ (nth 32 rfl)) KR.2 N1 KR.1 (fun _ _ _=>aA (by decide +kernel)))
  ·exact dd (ay X Gh (hq _ (nth 33 rfl)) KS.2 N2 KS.1 (fun _ _ _=>aA (by decide +kernel)))
  ·exact dm (bQ X Gh (hq _ (nth 82 rfl)) (hq _ (nth 83 rfl)) (hq _ (nth 84 rfl)) Ay.2 Hi Ay.1 (by decide +kernel))
  ·exact dm (bQ X Gh (hq _ (nth 82 rfl)) (hq _ (nth 83 rfl)) (hq _ (nth 85 rfl)) Az.2 Hj Az.1 (by decide +kernel))
  ·exact dm (bQ X Gh (hq _ (nth 82 rfl)) (hq _ (nth 83 rfl)) (hq _ (nth 86 rfl)) AA.2 Hl AA.1 (by decide +kernel))
  ·exact dm (bQ X Gh (hq _ (nth 82 rfl)) (hq _ (nth 83 rfl)) (hq _ (nth 87 rfl)) uE.2 Dq uE.1 (by decide +kernel))
  ·exact dm (bQ X Gh (hq _ (nth 82 rfl)) (hq _ (nth 83 rfl)) (hq _ (nth 88 rfl)) uF.2 Dr uF.1 (by decide +kernel))
  ·exact dm (bQ X Gh (hq _ (nth 82 rfl)) (hq _ (nth 83 rfl)) (hq _ (nth 89 rfl)) uG.2 Ds uG.1 (by decide +kernel))
  ·exact dm (bQ X Gh (hq _ (nth 82 rfl)) (hq _ (nth 83 rfl)) (hq _ (nth 90 rfl)) uH.2 Dt uH.1 (by decide +kernel))
  ·exact dm (bQ X Gh (hq _ (nth 82 rfl)) (hq _ (nth 83 rfl)) (hq _ (nth 91 rfl)) uI.2 Du uI.1 (by decide +kernel))
  ·exact dm (bQ X Gh (hq _ (nth 82 rfl)) (hq _ (nth 83 rfl)) (hq _ (nth 92 rfl)) uJ.2 Dv uJ.1 (by decide +kernel))
  ·exact dm (bQ X Gh (hq _ (nth 82 rfl)) (hq _ (nth 83 rfl)) (hq _ (nth 93 rfl)) uK.2 Dw uK.1 (by decide +kernel))
  ·exact dm (bQ X Gh (hq _ (nth 82 rfl)) (hq _ (nth 83 rfl)) (hq _ (nth 94 rfl)) uL.2 Dy uL.1 (by decide +kernel))
  ·exact dm (bQ X Gh (hq _ (nth 82 rfl)) (hq _ (nth 83 rfl)) (hq _ (nth 95 rfl)) uM.2 Dz uM.1 (by decide +kernel))
  ·exact dm (bQ X Gh (hq _ (nth 82 rfl)) (hq _ (nth 83 rfl)) (hq _ (nth 96 rfl)) uN.2 DA uN.1 (by decide +kernel))
  ·exact dl rfl (by decide +kernel)
  ·exact dl rfl (by decide +kernel)
 refine ⟨fun x fn e=>?_,fun c m fn e=>?_,fun L fn e=>?_,fun x z e=>?_,fun x hx=>?_⟩
 ·exact gO (Q:=fun k fn=>∀ x,k=.f x->Def K mg x fn) (l:=tab) (fun p hp=>(all p hp).1) e x rfl
 ·exact gO (Q:=fun k fn=>∀ c m,k=.m c m->zl K mg c m fn) (l:=tab) (fun p hp=>(all p hp).2.1) e c m rfl
 ·exact gO (Q:=fun k fn=>∀ L,k=.l L->BT.nQ L=some fn/\∃ ns bt,fn=⟨ns,ns,.ret bt⟩/\∀ y,ns.contains (BT.cj y)=false) (l:=tab) (fun p hp=>(all p hp).2.2) e L rfl
 ·refine gO (Q:=fun x z=>qF P w K mg x z) (l:=glo) (fun p hp=>?_) e
  simp only[glo,QS,Qo,or_false] at hp
  rcases hp with rfl | rfl | rfl | rfl | rfl | rfl | rfl | rfl | rfl | rfl | rfl | rfl | rfl
  ·exact b7 X Gh (hq _ (nth 34 rfl))
  ·exact b7 X Gh (hq _ (nth 35 rfl))
  ·exact b7 X Gh (hq _ (nth 36 rfl))
  ·exact b7 X Gh (hq _ (nth 37 rfl))
  ·exact b7 X Gh (hq _ (nth 38 rfl))
  ·exact b7 X Gh (hq _ (nth 39 rfl))
  ·exact b7 X Gh (hq _ (nth 40 rfl))
  ·exact b7 X Gh (hq _ (nth 41 rfl))
  ·exact b7 X Gh (hq _ (nth 42 rfl))
  ·exact b7 X Gh (hq _ (nth 43 rfl))
  ·exact As X Gh (hq _ (nth 44 rfl)) (by decide) (by decide +kernel)
  ·exact Do X Gh (hq _ (nth 81 rfl))
  ·exact Au X Gh (hq _ (nth 45 rfl)) (by decide) (by decide +kernel)
 ·simp only[FO,QS,Qo,or_false] at hx
  rcases hx with rfl | rfl | rfl | rfl | rfl | rfl | rfl | rfl | rfl | rfl | rfl | rfl | rfl | rfl | rfl | rfl | rfl | rfl | rfl
  ·exact none_of X Gh (hq _ (nth 46 rfl))
  ·exact none_of X Gh (hq _ (nth 47 rfl))
  ·exact none_of X Gh (hq _ (nth 48 rfl))
  ·exact none_of X Gh (hq _ (nth 49 rfl))
  ·exact none_of X Gh (hq _ (nth 50 rfl))
  ·exact none_of X Gh (hq _ (nth 51 rfl))
  ·exact none_of X Gh (hq _ (nth 52 rfl))
  ·exact none_of X Gh (hq _ (nth 53 rfl))
  ·exact none_of X Gh (hq _ (nth 54 rfl))
  ·exact none_of X Gh (hq _ (nth 55 rfl))
  ·exact none_of X Gh (hq _ (nth 56 rfl))
  ·exact none_of X Gh (hq _ (nth 57 rfl))
  ·exact none_of X Gh (hq _ (nth 58 rfl))
  ·exact none_of X Gh (hq _ (nth 59 rfl))
  ·exact none_of X Gh (hq _ (nth 60 rfl))
  ·exact none_of X Gh (hq _ (nth 61 rfl))
  ·exact none_of X Gh (hq _ (nth 62 rfl))
  ·exact none_of X Gh (hq _ (nth 63 rfl))
  ·exact none_of X Gh (hq _ (nth 64 rfl))
noncomputable abbrev lw:DefRec:=⟨"law",cH (top 58),aL (top 58),ao (top 58),LU (top 58)⟩
theorem df:PySem.W.defOf qg "law"=some (lw,[]):=by kernel_rfl
theorem th:pg.theDef "law"=some (lw.params,lw.body,lw.scope):=by kernel_rfl
theorem walk:PySem.W.WalkO qg loo (PySem.W.XL qg []) (sees adr qys tas).says PySem.Challenge.rw_backtape_k31_whole_calls.row.toRowW lw [] (fun f vs=>Vh f vs) :=
 Ax (l:=PySem.Challenge.rw_backtape_k31_whole_calls) (n:=63) (k:=40) (x:="_law_script") (d:=lw) (T:=T) (G:=G) (ts:=tas) (fn:=BT.fO) rfl (by decide) rfl ⟨rfl,by decide,by decide⟩ rfl rfl (tl:=tl) rfl (by decide +kernel) KU txt fun ns hl=>run ns (by omega)
end BL
open PySem PySem.W PyProof.Rows
set_option maxRecDepth 100000 in
set_option maxHeartbeats 0 in
theorem PySem.Challenge.cw_backtape_k31_whole_calls_holds : PySem.Challenge.rw_backtape_k31_whole_calls.Holds := by
 w_on;refine PySem.W.holds_law (by decide +kernel) fun said=>?_
 refine PySem.W.holds_open (q:=BL.qg) (loose:=BL.loo) (XP:=XL BL.qg []) (YP:=(BG.sees BL.adr BL.qys BL.tas).says) (d:=BL.lw) (kwd:=[]) BL.left (BG.sees BL.adr BL.qys BL.tas).of (BG.sees BL.adr BL.qys BL.tas).keeps (fun s e=>xl_of s (Bool.and_eq_true_iff.mp e).1) XL.keeps BL.df BL.th (by kernel_rfl) (fun s e=>recFacts_of (Bool.and_eq_true_iff.mp e).2) rfl (by first | assumption | decide +kernel) (by decide +kernel) ⟨rfl,rfl,rfl,rfl,rfl,by decide +kernel⟩ ?hw BL.walk
 (case hw=>w_witness2)
#print axioms PySem.Challenge.cw_backtape_k31_whole_calls_holds
end
end

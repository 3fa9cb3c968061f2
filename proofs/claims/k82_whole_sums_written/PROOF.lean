import PyProof.Rows.All
import Wide.All
import OpenK.AllK
import Wide.FinOn
import PyProof.EqAt
import PyProof.EqKinds
import PyProof.TupleCall
import Open.Tree
import Wide.Once
import KE.KLam
import KE.KNestM
import KE.KIsAll
import OpenK.KMore
import KE.KSortTup
import PyProof.Rows.SetFrom
import PyProof.IsiH_list
import PyProof.Rows.Exc
import KE.KDictOf
import PySem.Syntax
import PySem.Builtin.Str.Common
import PyProof.SliceList
import PyProof.StrCalls2
import KE.KIntText
import PyProof.NeData
import PyProof.ExcAttrAll.ValueError
import PyProof.ZipIter
import KE.KRevIter
import KE.KItemsList
import KE.KDictSum
import PyProof.DictWalks
import KE.KPairComp
import KE.KEqDict
import PyProof.StrBlock2
import PyProof.StrBlockL
import PyProof.ConsumeWalk
import PyProof.ListRange
import PyProof.EnumFor
import PyProof.EnumMake
import PyProof.EnumStmt
import PyProof.CompFree
import PyProof.PlainList
import PyProof.Draws
import PyProof.StrWalks
import PyProof.StrLawsTight
import PyProof.StrLawsChain
import PyProof.FitsReplace
import PyProof.Rows.StrIntSpec
import Lean
import PySem.Challenge.RW_backtape_k82_whole_sums_written
set_option autoImplicit true
set_option Elab.async false
set_option linter.all false
set_option maxRecDepth 100000
set_option maxHeartbeats 8000000
set_option genSizeOf false
set_option compiler.extract_closed false
set_option bootstrap.genMatcherCode false
noncomputable section
open PySem.W renaming Frag->NO,findIn->Oq,nsIn->Oz,emptyDict->OX,keepIn->OZ,tabIn->Pe,kitOne->Pf,instObj->Pi,fnOf->Pn,mg_of->PL,hasDictIn->PM,kia_one->P9,plainGet->Qq,envX->QG,tabObj->Rh,lookIn->Ri,codeIn->Rj,plainGet_of->Rr,callWith_K0->Rt,mroIn->Rz,callWith_K->RB,plainOver->RL,methodObj->RM,isFn->RP,codeHdIn->RT,takerIn->Sb,makesIn->Sd,byRow2->Sx,absHeap->SJ,SharedT->SM,recOk->SN,cellsFrom_some->S6,xlAt->Th,methodCall_KW->Ti,codeHd_of_K->TQ,specialIn->Uj,wideGood->Us,handedIn->Ut,clsGoodW->Uu,openSeen->UC,takesIn->UH,kla_obj->UI
open PySem renaming wpAny_bind->NP,Value->NS,Shared->NT,Expr->NY,Addr->N2,mainGlobals->Ob,Program->Oc,strIterType->Of,model->Oi,World->Oo,starEach->Ow,sliceBounds->OM,Around->ON,wpAny_newObj_type->OO,compareOp->OP,wpAny_field->OQ,Stmt->OR,Scope->OS,wpAny_callSpecial?_slot->OW,wpAny_truthy_bool->O3,mem_of_lookup->Pa,binaryOp->Pc,call_meets->Pj,FuncData->Pu,wpAny_call_entry->PK,wpAny_seqItems->PN,wpAny_setField_rec->PR,wpAny_Call_Name_kw->PU,wpAny_passesOwn->PX,wpAny_mono->P0,sysModules->P1,assignEach->P4,IsPair->Qd,builtinsNs->Qi,intText?->Qm,wpAny_loadPart'->Qo,wpAny_holding->Qp,NameKind->Qt,DictEntry->Qv,backTo->QC,Expr->QF,Keyword->QJ,swapsWith->QT,letOwnedTupleGo->QU,keywordEach->QV,bootBuiltins->Q4,Operator->Q5,getItem->Q7,holding->Ro,evalPart_none->Rp,attributeBase->Rq,wpAny_execs_nil->RI,importedModules->RJ,Arguments->RO,wpAny_updateSeq_pair->RQ,sizeLine_eq->R8,Builtin->Sg,wpAny_standAt->Sk,wpAny_onRaise->Sn,evalPart_some->Sq,behindInMarks->Ss,backToKw->Su,Stmt->Sw,IsZip->SA,wpAny_sequenceKey->SH,wpAny_pyIter_list->SI,wpAny_typeOf->SW,codeAny_mono->SY,assign->SZ,IsPart->Tf,noFill_tuple_add->Tg,wpAny_Slice->Tz,standAt->TF,getMethod->TH,Within->TN,IsRangeIter->TU,wpAny_binaryOp_repeat_ref->Uh,bltViewBooted->Ui,wpAny_rule->Up,wpAny_getItem_list_slice->Uq,sliceRange->Ur,PlainAttrs->Uv,seq_tuple_add->UB,compEnvC->UD,callerA->UE,bindArgs->UF,call->UG
open PySem.Heap renaming get?_push_of_some->NQ,lt_size->N3,get?_push_size->N9,SameBut->OF,size_push->PY,get?_update_other->TY,get?_update_self->Ud
open PySem.Str renaming ofString->NR,join->NZ,length_append->O9,ofString_eq_toList->Rg
open List renaming mem_cons_of_mem->NU,size_toArray->NV,mem_cons_self->NW,length_map->N5,getElem?_append_left->N6,length_cons->N7,getElem?_eq_getElem->N8,length_append->Oa,replicate->Od,mem_of_getElem?->Oe,getElem?_eq_none->Og,getElem?_append_right->Os,append_assoc->Ot,mem_append_right->Ou,map_cons->OA,getElem?_map->OE,append_nil->OJ,all_eq_true->OL,filterMap_cons->O1,flatten_cons->O7,replicate_succ->Pb,getElem?_set_self->Pd,not_mem_nil->Ph,getElem?_of_mem->Pk,map_append->Po,lookup_cons->Pw,eq_nil_of_length_eq_zero->Px,range->PJ,nil_append->PP,getElem?_set_ne->PV,lookup->P7,map_nil->Qa,mem_cons->Qe,getElem?_replicate->Qf,find?_cons->Qg,take_of_length_le->Ql,map_map->Qx,length_replicate->Qz,mem_append_left->QE,length_nil->QH,extract_eq_drop_take->QO,drop_zero->QS,reverse_cons->QZ,sum_cons->Q6,length_take->Q8,length_drop->Q9,find?_cons_of_neg->Rf,take_append_drop->Rk,of_mem_zip->Rl,length_singleton->Rm,getElem?_range->RC,flatMap_cons->R6,sum_nil->Se,isEmpty_nil->Sj,forIn_cons->SD,getD_eq_getElem?_getD->SQ,nodup_nil->Tc,getElem?_eq_none_iff->Td,drop_eq_getElem_cons->Te,getElem?_take_of_lt->Tn,foldl->To,head_eq_of_cons_eq->Tu,all_cons->Tv,reverse_singleton->TR,length_filter_le->T9,getElem?_toArray->Ua,getElem?_reverse->Ub,all_map->Uc,range'->Uw,length_reverse->Ux,length->Uy,flatMap_append->Uz
open Bool renaming and_eq_true->NX,false_ne_true->OG,or_eq_true->Qh,not_eq_true'->Qn
open Nat renaming le_refl->N1,ne_of_lt->Oh,lt_of_lt_of_le->Oj,le_trans->Om,lt_or_ge->OU,le_add_right->OV,lt_irrefl->Pv,lt_succ_self->P6,zero_le->Qs,le_succ->QI,ne_of_gt->QM,le_of_lt->QN,lt_trans->Si,sub_zero->Uk,mul_comm->Ul,le_of_ble_eq_true->Um
open Option.some renaming inj->N4,injEq->Pz
open PySem.Builtin.SmallTypes renaming nextOf->Ol,ownedTupleIsFree->O2,ownedTupleHandOut->QK
open List.cons renaming inj->On,injEq->QB
open PySem.Builtin.Str renaming strSliceIndices->Ox,occurrences->O4,strKind->SR
open PySem.Builtin.Slice renaming slicePlaces->OB,sliceAdjust->OT,sliceApplied->Py,sliceFields->RN
open PySem.Builtin.Tuple renaming tupleExact->OD,tupleItemsOf->Qw,tupleTooMany->RG
open PyProof.Rows renaming slot_tuple_getitem->OH,callWith_type1->O5,subscriptTail->Rn,slicePart_none->RX,plainGoodE->RY,plainGoodD->RZ,expectedOf->R0,entry_tuple_getitem->Sa,tail_any->So,args_tuple_getitem->Sv,drecsOf->Sz,Subscript_->SK,envOfC->TJ,AllBare->T6,tupleItemsOf_->UA
open Option renaming bind_some->OI,map_some->Qc,getD_some->UJ,getD_none->UK
open PySem.NameKind renaming free->OY,cell->Rx
open PySem.Builtin.List renaming listTooLong->O0
open False renaming elim->O6
open PySem.Value renaming ref->O8,none->Qj,isStrOf->QD,bool->QW,int->RK,str->TM
open PySem.F renaming plainAttrs_list->Pp,slot_dict_get->Qk,args_tuple_add_2->QL,entry_tuple_add->QY,slot_tuple_add->Q0,plainAttrs_str->Q2,plainAttrs_dict->SO,entry_dict_get->S7,type_dict_get->Tj
open Array renaming eq_empty_of_size_eq_zero->Pq,length_toList->Pr,toList_append->P5,toList_extract->Ru,all_append->Sh,getElem?_eq_getElem->SV,mem_of_getElem?->TZ,getElem?_toList->T4
open True renaming intro->P8
open PySem.Heap.IsSliceOf renaming new->Qu
open Prod.mk renaming injEq->QA
open PySem.W.KIN renaming num_reads->QX,signs_num->Sy
open ForInStep renaming yield->Q3
open PySem.Calls renaming callWith_builtin->Rc,Name_function_global->SG,evalArgs_plain->Ug
open Ne renaming symm->Re
open PySem.Obj renaming mapSeq->Rv
open PySem.StrLaws renaming join_split->Ry,split_free->T7
open PySem.PassesOwn renaming never->RU
open PySem.Builtin.Range renaming rangeSize->RV
open Int renaming toNat_natCast->Sf,eq_ofNat_of_zero_le->TV
open PySem.Heap.SameBut renaming update->SE
open PyProof renaming noPylong_small->S9
open Char renaming toNat->Tt
open PySem.Around renaming under->Tw,frames_deeper->T5
open PySem.Code renaming isFrame->Ue
open PySem.AutoSeq1 renaming idx_int->Uo
section
namespace L2
open PySem PySem.Spec PyProof.Rows
def fz (s:Sw):RO:=match s with
 | .FunctionDef _ a _ _ _ _ _ _ _ _=>a
 | _=>{ posonlyargs:=[],args:=[],vararg:=none,kwonlyargs:=[],kw_defaults:=[],kwarg:=none,defaults:=[] }
def dM (s:Sw):List Sw:=match s with
 | .FunctionDef _ _ b _ _ _ _ _ _ _=>b
 | _=>[]
def cZ (s:Sw):OS:=match s with
 | .FunctionDef _ _ _ _ _ _ sc _ _ _=>sc
 | _=>{ kind:=.function,names:=[],isGenerator:=false,isCoroutine:=false }
end L2
end
section
namespace BR
open PySem PySem.W PyProof.Rows
noncomputable def qD:List Obj->BT->Nat->Option (BT×Nat)
 | [],T,n=>some (T,n)
 | o :: r,T,n=>match ((T.ins n o).get n).isSome with
  | true=>qD r (T.ins n o) (n+1)
  | false=>none
theorem nR (life:Life):∀ {l:List Obj}{T T':BT}{n n':Nat},qD l T n=some (T',n')->(SJ T' n' life).objs.toList=(SJ T n life).objs.toList++l
 | [],T,T',n,n',h=>by cases h;simp
 | o :: r,T,T',n,n',h=>by
  unfold qD at h
  cases g:((T.ins n o).get n).isSome with
  | false=>rw[g] at h;cases h
  | true =>
   rw[g] at h
   rw[nR life h,absHeap_ins g]
   show ((SJ T n life).objs.push o).toList++r=_
   simp
noncomputable def toT (s:NT):Option SM:=match qD s.heap.objs.toList .nil 0 with
 | some (T,n)=>some ⟨T,n,s.heap.life,s.gens,s.drawn,s.toks,s.os⟩
 | none=>none
theorem AN (h:toT s=some t):t.abs=s:=by
 unfold toT at h
 cases e:qD s.heap.objs.toList .nil 0 with
 | none=>rw[e] at h;cases h
 | some r =>
  obtain ⟨T,n⟩:=r
  rw[e] at h
  cases h
  have:=nR s.heap.life e
  obtain ⟨⟨objs,life⟩,g,d,k,o⟩:=s
  show Shared.mk (SJ T n life) g d k o=Shared.mk ⟨objs,life⟩ g d k o
  have e2:(SJ T n life).objs.toList=objs.toList:=by
   rw[this];simp[SJ,BT.list]
  have e3:(SJ T n life).objs=objs:=Array.toList_inj.mp e2
  have e4:SJ T n life=⟨objs,life⟩:=by
   show Heap.mk _ _=Heap.mk _ _
   exact congrArg (Heap.mk · life) e3
  rw[e4]
noncomputable def lB (tb:String->Option Sg) (p:Oc) (w:Oo) (n₀:Nat) (ann:Option NS):Nat->SM->Thread->Option SM
 | 0,_,_=>none
 | n+1,s,t=>match through t with
  | true=>some s
  | false=>match stepOk n₀ ann t with
   | false=>none
   | true=>match stepT (denote tb) p w s t with
    | some (s',t')=>lB tb p w n₀ ann n s' t'
    | none=>none
section
variable {tb:String->Option Sg}{p:Oc}{w:Oo}{n₀:Nat}{ann:Option NS}
theorem nS:∀ {n:Nat}{s s':SM}{t:Thread},lB tb p w n₀ ann n s t=some s'->topRun tb p w n₀ ann n s.abs t=some s'.abs
 | 0,_,_,_,h=>by cases h
 | n+1,s,s',t,h=>by
  unfold lB at h
  unfold topRun
  cases he:through t with
  | true=>rw[he] at h;cases h;rfl
  | false =>
   rw[he] at h
   cases hk:stepOk n₀ ann t with
   | false=>rw[hk] at h;cases h
   | true =>
    rw[hk] at h
    cases hs:stepT (denote tb) p w s t with
    | none=>rw[hs] at h;cases h
    | some r=>obtain ⟨s₂,t₂⟩:=r;rw[hs] at h;dsimp only;rw[stepT_spec hs];exact nS h
end
noncomputable def lS (tb:String->Option Sg) (p:Oc) (w:Oo) (N:Nat) (s₀:NT):Option SM :=
 match s₀.heap.isNs Ob&&s₀.gens.size==0 with
 | true=>(toT s₀).bind fun t₀=>(lB tb p w s₀.heap.objs.size (s₀.heap.nsMap Ob "__annotations__") N t₀ (topStub p)).bind fun t₁ =>
  match staticsOk (RJ p.main.body) s₀.heap t₁.abs.heap&&namesBound p t₁.abs.heap&&gensDone t₁.abs&&laidKept s₀.heap t₁.abs.heap with
   | true=>some t₁
   | false=>none
 | false=>none
theorem sf (h:lS tb p w N s₀=some t):topFrom tb p w N s₀=some t.abs:=by
 unfold lS at h
 unfold topFrom
 cases e:(s₀.heap.isNs Ob&&s₀.gens.size==0) with
 | false=>rw[e] at h;cases h
 | true =>
  rw[e] at h
  obtain ⟨t₀,h0,h⟩:=Option.bind_eq_some_iff.mp h
  obtain ⟨t₁,h1,h⟩:=Option.bind_eq_some_iff.mp h
  have h2:=nS h1
  rw[AN h0] at h2
  dsimp only
  rw[h2]
  show (match _ with | true=>some t₁.abs | false=>none)=_
  cases e2:(staticsOk (RJ p.main.body) s₀.heap t₁.abs.heap&&namesBound p t₁.abs.heap&&gensDone t₁.abs&&laidKept s₀.heap t₁.abs.heap) with
  | false=>rw[e2] at h;cases h
  | true=>rw[e2] at h;cases h;rfl
noncomputable def iY (tb:String->Option Sg) (p:Oc) (w:Oo) (N:Nat):Option SM:=(fencedOpening tb p w N).bind (lS tb p w N)
theorem AO {tb:String->Option Sg}{p:Oc}{w:Oo}{N:Nat}{α:Type}{f:NT->α}{x:α} (h:(iY tb p w N).map (fun t=>f t.abs)=some x):(openEnds tb p w N).map f=some x:=by
 obtain ⟨t,ht,e⟩:=Option.map_eq_some_iff.mp h
 obtain ⟨s₀,h0,h1⟩:=Option.bind_eq_some_iff.mp ht
 unfold openEnds
 rw[h0]
 show (topFrom tb p w N s₀).map f=some x
 rw[sf h1]
 exact congrArg some e
theorem xG {α β γ δ:Type}{o:Option α}{f:α->β×γ}{g:α->δ}{x:β}{y:γ}{z:δ} (h1:o.map (fun t=>(f t).1)=some x) (h2:o.map (fun t=>(f t).2)=some y) (h3:o.map g=some z):o.map (fun t=>(f t,g t))=some ((x,y),z):=by
 cases o with
 | none=>cases h2
 | some t =>
  have e1:(f t).1=x:=N4 h1
  have e2:(f t).2=y:=N4 h2
  have e3:g t=z:=N4 h3
  show some (f t,g t)=_
  rw[← e1,← e2,← e3]
theorem good (q:Oc) (loose:List Str):openGood q loose=(R0 q,Ui,true,true,PySem.pinGoodD (Sz q),RY q (PySem.W.looseW q loose),RZ q loose,Us q,Uu q loose):=rfl
noncomputable def LA (tb:String->Option Sg) (p q:Oc) (loose mods:List Str) (Xt:NT->Bool) (g0:Bool) (N:Nat) (w:Oo):Prop :=
 (iY tb p w N).map (fun t=>(UC q loose mods Xt g0 t.abs).1)=some (R0 q)
noncomputable def LB (tb:String->Option Sg) (p q:Oc) (loose mods:List Str) (Xt:NT->Bool) (g0:Bool) (N:Nat) (w:Oo):Prop :=
 (iY tb p w N).map (fun t=>(UC q loose mods Xt g0 t.abs).2)=some (Ui,true,true,PySem.pinGoodD (Sz q),RY q (PySem.W.looseW q loose),RZ q loose,Us q,Uu q loose)
noncomputable def LO (tb:String->Option Sg) (p:Oc) (N:Nat) {α:Type} (Yf:NT->α) (Ya:Oo->α) (w:Oo):Prop:=(iY tb p w N).map (fun t=>Yf t.abs)=some (Ya w)
theorem AQ {tb:String->Option Sg}{p q:Oc}{loose mods:List Str}{Xt:NT->Bool}{g0:Bool}{N:Nat}{α:Type}{Yf:NT->α}{Ya:Oo->α}{w:Oo} (h1:LA tb p q loose mods Xt g0 N w) (h2:LB tb p q loose mods Xt g0 N w) (h3:LO tb p N Yf Ya w) :
 (openEnds tb p w N).map (fun s=>(UC q loose mods Xt g0 s,Yf s))=some (openGood q loose,Ya w):=by
 rw[good]
 have h:=xG (f:=fun t:SM=>UC q loose mods Xt g0 t.abs) (g:=fun t:SM=>Yf t.abs) h1 h2 h3
 exact AO (f:=fun s=>(UC q loose mods Xt g0 s,Yf s)) h
end BR
end
section
namespace BG
open PySem PySem.Spec PySem.Calls PyProof.Rows L2
structure FS where
 name:Str
 qual:Str
 params:RO
 body:FuncBody
 scope:OS
 globals:N2
 closure:List (Str×N2)
 defaults:NS
 builtins:N2
 code:Bool
noncomputable def AR (K:NO) (f:N2):Option FS:=match K.lookup f with
 | some ⟨_,_,.func fd,_⟩=>some ⟨fd.name,fd.qualname,fd.params,fd.body,fd.scope,fd.globals,fd.closure,fd.defaults,fd.builtins,Rj K fd.code fd.qualname⟩
 | _=>none
noncomputable def um (x qual:Str) (st:Sw):FS:=⟨x,qual,fz st,.stmts (dM st),cZ st,Ob,[],.none,Qi,true⟩
noncomputable def strOf:NS->Option Str
 | .str x _=>some x
 | _=>none
noncomputable def intOf:NS->Option Int
 | .int i _=>some i
 | _=>none
noncomputable def refOf:Option (Option NS)->Option N2
 | some (some (.ref a))=>some a
 | _=>none
inductive Qy where
 | fn (x:Str) (f:N2) (st:Sw) | int (x:Str) (n:Int) | tup (x:Str) (f:N2) (xs:List Str) | dct (x:Str) (f:N2) (kvs:List (Str×Int)) | no (x:Str) | cls (c:Str) (C:N2) | me (C:N2) (m x qual:Str) (f:N2) (st:Sw) | mk (C:N2)
 | tab (x:Str) (c P:N2) | bm (b:N2) | fv (x:Str) (f:N2) | exc (D:N2) (xs:List (Str×N2))
 | str (x s:Str) | stp (f:N2) (xs:List Str) | dtp (x:Str) (f:N2) (kvs:List (Str×N2))
inductive Ov where
 | fn (a:Option N2) (o:Option FS) | int (n:Option Int) | seq (a:Option N2) (c:Option (NS×Option N2×Nat)) (xs:Option (List (Option Str))) | dct (a:Option N2) (c:Option (NS×Option N2×Nat)) (xs:Option (List (Int×Option Str×Option Int))) | b (x:Bool)
noncomputable def shp (o:Obj):NS×Option N2×Nat:=(o.cls,o.dict,o.slots.size)
noncomputable def uq (o:Obj):Option (List (Option Str)):=match o.data with
 | .seq its _=>some (its.toList.map strOf)
 | _=>none
noncomputable def Dz (o:Obj):Option (List (Int×Option Str×Option Int)):=match o.data with
 | .dict es _=>some (es.toList.map fun e=>(e.hash,strOf e.key,intOf e.val))
 | _=>none
noncomputable def ur:NS->Option Int
 | .ref a=>some (a:Int)
 | _=>none
noncomputable def DA (o:Obj):Option (List (Int×Option Str×Option Int)):=match o.data with
 | .dict es _=>some (es.toList.map fun e=>(e.hash,strOf e.key,ur e.val))
 | _=>none
noncomputable def attrs:List Str:=["program","asked","gap","most","kept","farthest","front","now","origins","branches","tape","named"]
noncomputable def La (K:NO) (c:Str) (C:N2):Bool:=decide (Oz K Ob c=some (some (.ref C)))&&Qq K C Str.empty&&PM K C&&RL K C&&decide (Oq K (.ref C) "__setattr__"=some (some (.builtin "object.__setattr__"))) &&
 attrs.all fun f=>decide (Oq K (.ref C) f=some none)
noncomputable def meB (K:NO) (C:N2) (m:Str) (f:N2):Bool:=decide (Oq K (.ref C) m=some (some (.ref f)))&&RP K (.ref f)
noncomputable def mkB (K:NO) (C:N2):Bool:=Sd K C&&OZ K (.ref C)
noncomputable def bmB (K:NO) (b:N2):Bool:=decide (Oz K Ob "__builtins__"=some (some (.ref b)))&&decide (b≠Qi)&&(match K.lookup b with
 | some ⟨.type "module",some d,.plain,_⟩=>d==Qi
 | _=>false)
noncomputable def Lb (K:NO) (C D:N2):Bool:=match K.lookup C with
 | some ⟨_,_,.cls cd,_⟩=>cd.mro.contains (.ref D)
 | _=>false
noncomputable def Hx (K:NO) (c:Str) (C:N2):Bool:=decide (Oz K Ob c=some (some (.ref C)))&&PySem.W.excIn K C [.type "ValueError",.type "Exception",.type "BaseException",.type "object"] "ValueError.__new__"
noncomputable def Lc (K:NO) (D:N2) (xs:List (Str×N2)) (c:Str) (C:N2):Bool:=Hx K c C&&Lb K C D&&decide (Oq K (.ref C) "__getattribute__"=some (some (.builtin "BaseException.__getattribute__")))&&decide (Oq K (.ref C) "__getattr__"=some none) &&
 decide (Rz K C (.type "BaseException")=some true)&&PM K C&&decide (Oq K (.ref C) "__class__"=some (some (.builtin "object.__class__")))&&decide (Uj K (.builtin "object.__class__") "__get__"=some (some (.builtin "getset_descriptor.__get__"))) &&
 decide (UH K (.builtin "object.__class__")=some true)&&decide (Rz K C (.type "object")=some true)&&decide (Pf K (.ref C) (.type "ValueError")=some true)&&xs.all fun q=>decide (Pf K (.ref C) (.ref q.2)=some (q.1==c))
noncomputable def Ld (K:NO) (D:N2) (xs:List (Str×N2)):Bool:=Hx K "TapeError" D&&xs.all fun q=>Lc K D xs q.1 q.2
noncomputable def fk (K:NO):Qy->Ov
 | .fn x f _=>.fn (refOf (Oz K Ob x)) (AR K f)
 | .int x _=>.int (match Oz K Ob x with | some (some v)=>intOf v | _=>none)
 | .tup x f _=>.seq (refOf (Oz K Ob x)) ((K.lookup f).map shp) ((K.lookup f).bind uq)
 | .dct x f _=>.dct (refOf (Oz K Ob x)) ((K.lookup f).map shp) ((K.lookup f).bind Dz)
 | .no x=>.b (decide (Oz K Ob x=some none))
 | .cls c C=>.b (La K c C)
 | .me C m _ _ f _=>.fn (if meB K C m f then some f else none) (AR K f)
 | .mk C=>.b (mkB K C)
 | .tab x c P=>.b (decide (Pe K x=some (c,P))&&RT K c P)
 | .bm b=>.b (bmB K b)
 | .fv x f=>.b (decide (Oz K Ob x=some (some (.ref f)))&&OZ K (.ref f))
 | .exc D xs=>.b (Ld K D xs)
 | .str x _=>.seq none none (match Oz K Ob x with | some (some v)=>some [strOf v] | _=>none)
 | .stp f _=>.seq none ((K.lookup f).map shp) ((K.lookup f).bind uq)
 | .dtp x f _=>.dct (refOf (Oz K Ob x)) ((K.lookup f).map shp) ((K.lookup f).bind DA)
noncomputable def fm (w:Oo):Qy->Ov
 | .fn x f st=>.fn (some f) (some (um x x st))
 | .int _ n=>.int (some n)
 | .tup _ f xs=>.seq (some f) (some (.type "tuple",none,0)) (some (xs.map some))
 | .dct _ f kvs=>.dct (some f) (some (.type "dict",none,0)) (some (kvs.map fun q=>(PyData.keyHash w.params q.1,some q.1,some q.2)))
 | .no _=>.b true
 | .cls _ _=>.b true
 | .me _ _ x qual f st=>.fn (some f) (some (um x qual st))
 | .mk _=>.b true
 | .tab _ _ _=>.b true
 | .bm _=>.b true
 | .fv _ _=>.b true
 | .exc _ _=>.b true
 | .str _ s=>.seq none none (some [some s])
 | .stp f xs=>.seq none (some (.type "tuple",none,0)) (some (xs.map some))
 | .dtp _ f kvs=>.dct (some f) (some (.type "dict",none,0)) (some (kvs.map fun q=>(PyData.keyHash w.params q.1,some q.1,some (q.2:Int))))
noncomputable def KOf (as:List N2) (h:Heap):NO:=as.map fun a=>(a,(h.get? a).getD default)
noncomputable def sees (as:List N2) (qs:List Qy) (ts:List N2):PySem.W.Hook where
 α:=Bool×List Ov×List (Option Obj)
 obs:=fun s=>(as.all fun a=>(s.heap.get? a).isSome,qs.map (fk (KOf as s.heap)),ts.map s.heap.get?)
 val:=fun w=>(true,qs.map (fm w),ts.map fun _=>some (Rh #[]))
 says:=fun w h=>∃ K:NO,K.map (·.1)=as/\(∀ p∈K,h.get? p.1=some p.2)/\(∀ q∈qs,fk K q=fm w q)/\∀ P∈ts,h.get? P=some (Rh #[])
 of:=fun w s e=>by
  have e1:=congrArg Prod.fst e
  have e2:=congrArg (fun p=>p.2.1) e
  have e3:=congrArg (fun p=>p.2.2) e
  refine ⟨KOf as s.heap,by simp[KOf,Function.comp_def],fun p hp=>?_,fun q hq=>List.map_inj_left.mp e2 q hq,fun P hP=>List.map_inj_left.mp e3 P hP⟩
  obtain ⟨a,ha,rfl⟩:=List.mem_map.mp hp
  have h1:=List.all_eq_true.mp e1 a ha
  obtain ⟨o,ho⟩:=Option.isSome_iff_exists.mp h1
  show s.heap.get? a=some ((s.heap.get? a).getD default)
  rw[ho];rfl
 keeps:=fun w h h' ⟨K,m,n,k,t⟩ hk=>⟨K,m,fun p hp=>hk _ _ (n p hp),k,fun P hP=>hk _ _ (t P hP)⟩
end BG
end
section
namespace BL
open PySem PySem.Spec PyProof.Rows L2 BG
noncomputable abbrev pg:Oc:=PySem.Challenge.pw_backtape_k82_whole_sums_written
noncomputable def qg:Oc:=PySem.W.view pg [1,2,4,5,6,7,8,9,10,11,12,13,14,15,16,17,18,19,20,22,23,24,25,26,27,28,29,30,31,32,33,34,35,37,38,39,40,41,42,43]
noncomputable abbrev loo:List Str:=["INNER_COUNTS","ROW_FORMS"]
noncomputable def top (i:Nat):Sw:=pg.main.body.getD i (.Pass ⟨0,0,0,0⟩)
noncomputable def Hy:Sw->List Sw
 | .ClassDef _ _ _ b _ _ _ _ _ _ _=>b
 | _=>[]
noncomputable def NF (i j:Nat):Sw:=(Hy (top i)).getD j (.Pass ⟨0,0,0,0⟩)
noncomputable def Lf:Sw->Pos
 | .FunctionDef _ _ _ _ _ _ _ _ _ p=>p
 | _=>⟨0,0,0,0⟩
noncomputable abbrev adr:List N2:=[3,40,41,42,43,44,45,46,47,48,49,50,51,57,58,64,65,71,72,78,79,85,86,92,93,99,100,106,107,113,114,118,119,123,124,130,131,137,138,144,145,149,150,154,155,161,162,168,169,173,174,180,181,187,188,194,195,199,200,206,207,213,214,220,221,227,228,232,233,237,238,244,245]
noncomputable def qys:List Qy:=[.fn "is_whole" 58 (top 10),
 .fn "is_worth" 65 (top 11),
 .fn "is_name" 72 (top 12),
 .fn "is_place" 79 (top 13),
 .fn "first_word" 86 (top 14),
 .fn "inner_sums" 93 (top 15),
 .fn "has_sum_form" 100 (top 16),
 .fn "is_sum" 107 (top 17),
 .fn "fits" 114 (top 18),
 .fn "is_row" 119 (top 19),
 .fn "is_program" 124 (top 20),
 .fn "written_word" 131 (top 24),
 .fn "written_sum" 138 (top 25),
 .fn "written_row" 145 (top 26),
 .fn "written" 150 (top 27),
 .fn "is_figures" 155 (top 28),
 .fn "number_or_word" 162 (top 29),
 .fn "leaf_of" 169 (top 30),
 .fn "sum_of" 174 (top 31),
 .fn "sum_end" 181 (top 32),
 .fn "row_of" 188 (top 33),
 .fn "read_sum" 195 (top 34),
 .fn "read" 200 (top 35),
 .fn "_law_cell" 207 (top 37),
 .fn "_law_drawn" 214 (top 38),
 .fn "_law_sum" 221 (top 39),
 .fn "_law_row" 228 (top 40),
 .fn "_law_program" 233 (top 41),
 .fn "_law_asked" 238 (top 42),
 .fn "law" 245 (top 43),
 .int "WORTH_COUNT" 10007,
 .int "MOST_PARTS" 15,
 .int "MOST_ROWS" 20,
 .int "MOST_FIGURES" 5,
 .tup "LETTERS" 40 ["a","b","c","d","e","f"],
 .dct "INNER_COUNTS" 41 [("num",0),("name",0),("cell",1),("add",2),("sub",2),("mul",2),("less",2)],
 .str "FIGURES" "0123456789",
 .dtp "ROW_FORMS" 42 [("set",43),("put",44),("ask",45),("say",46),("jump",47),("unless",48),("call",49),("back",50),("stop",51)],
 .stp 43 ["name","sum"],
 .stp 44 ["sum","sum"],
 .stp 45 ["name"],
 .stp 46 ["sum"],
 .stp 47 ["place"],
 .stp 48 ["sum","place"],
 .stp 49 ["place"],
 .stp 50 [],
 .stp 51 [],
 .no "len",
 .no "abs",
 .no "int",
 .no "list",
 .no "tuple",
 .no "isinstance",
 .no "str",
 .no "bool",
 .no "range",
 .no "reversed",
 .no "enumerate",
 .no "zip",
 .no "min",
 .no "max",
 .no "sorted",
 .no "sum",
 .no "all",
 .no "any",
 .no "set",
 .no "ValueError",
 .no "dict",
 .no "worths_of",
 .no "last_change",
 .no "next_change",
 .no "moments_so",
 .no "last_so",
 .no "next_so",
 .no "visits",
 .no "last_visit",
 .no "when_said",
 .no "next_within",
 .no "last_within",
 .no "first_other",
 .no "writer_of",
 .no "judged",
 .no "remade"]
noncomputable abbrev tl:List (Str×N2×N2):=[]
noncomputable abbrev tas:List N2:=[]
noncomputable abbrev LA:Oo->Prop:=BR.LA treeTable pg qg loo (RJ pg.main.body) (fun s=>Th qg [] s&&SN [] s) true 3460
theorem la0 (w:Oo):LA (w.withFollow "special-get-raises" false):=by unfold LA BR.LA;kernel_rfl
theorem la1 (w:Oo):LA (w.withFollow "special-get-raises" true):=by unfold LA BR.LA;kernel_rfl
noncomputable abbrev LB:Oo->Prop:=BR.LB treeTable pg qg loo (RJ pg.main.body) (fun s=>Th qg [] s&&SN [] s) true 3460
theorem lb0 (w:Oo):LB (w.withFollow "special-get-raises" false):=by unfold LB BR.LB;kernel_rfl
theorem lb1 (w:Oo):LB (w.withFollow "special-get-raises" true):=by unfold LB BR.LB;kernel_rfl
noncomputable abbrev LO:Oo->Prop:=BR.LO treeTable pg 3460 (sees adr qys tas).obs (sees adr qys tas).val
theorem lo0 (w:Oo):LO (w.withFollow "special-get-raises" false):=by unfold LO BR.LO;kernel_rfl
theorem lo1 (w:Oo):LO (w.withFollow "special-get-raises" true):=by unfold LO BR.LO;kernel_rfl
theorem left:PySem.W.LeftO pg qg loo (fun s=>Th qg [] s&&SN [] s) (sees adr qys tas).obs (sees adr qys tas).val 3460:=fun w=>BR.AQ (Sx (P:=LA) "special-get-raises" la0 la1 w) (Sx (P:=LB) "special-get-raises" lb0 lb1 w) (Sx (P:=LO) "special-get-raises" lo0 lo1 w)
end BL
end
section
namespace L2
open PySem PySem.Spec PyProof.Rows
noncomputable abbrev Key:=Sum Int Str
noncomputable def nT:Key->NS->Bool
 | .inl k,v=>Value.isInt k v
 | .inr x,v=>QD x v
noncomputable def Lg (w:Oo):Key->Int
 | .inl k=>hashInt k
 | .inr x=>hashStr w x
theorem dO:∀ {k:Key}{v:NS},nT k v=true->(∃ i t,k=Sum.inl i/\v=RK i t)\/(∃ x t,k=Sum.inr x/\v=TM x t)
 | .inl i,v,h=>by
  obtain ⟨t,e⟩:=Value.isInt_shape (k:=i) (v:=v) h
  exact .inl ⟨i,t,rfl,e⟩
 | .inr x,v,h=>by
  obtain ⟨t,e⟩:=Value.isStrOf_shape (x:=x) (v:=v) h
  exact .inr ⟨x,t,rfl,e⟩
theorem vW (i:Int) (t:Tok):nT (.inl i) (.int i t)=true:=by simp[nT,Value.isInt]
theorem vX (x:Str) (t:Tok):nT (.inr x) (.str x t)=true:=by simp[nT,QD]
theorem D8 (a b:Int):decide ((Sum.inl a:Key)=Sum.inl b)=(a==b):=by
 by_cases e:a=b
 ·subst e;simp
 ·have h:¬ (Sum.inl a:Key)=Sum.inl b:=fun q=>e (Sum.inl.inj q)
  rw[decide_eq_false h]
  exact (beq_eq_false_iff_ne.mpr e).symm
theorem D9 (a b:Str):decide ((Sum.inr a:Key)=Sum.inr b)=decide (a=b):=by
 by_cases e:a=b
 ·subst e;simp
 ·have h:¬ (Sum.inr a:Key)=Sum.inr b:=fun q=>e (Sum.inr.inj q)
  rw[decide_eq_false h,decide_eq_false e]
theorem Ea (a:Int) (b:Str):decide ((Sum.inl a:Key)=Sum.inr b)=false:=decide_eq_false (fun q=>nomatch q)
theorem Eb (a:Str) (b:Int):decide ((Sum.inr a:Key)=Sum.inl b)=false:=decide_eq_false (fun q=>nomatch q)
noncomputable def c8 (prog:Oc) (w:Oo):PySem.KeyKind prog w Key where
 is:=nT
 hash:=Lg w
 inj:=fun v a b ha hb=>by
  rcases dO ha with ⟨i,t,rfl,rfl⟩ | ⟨x,t,rfl,rfl⟩
  ·rcases dO hb with ⟨j,u,rfl,e⟩ | ⟨y,u,rfl,e⟩
   ·injection e with e1 _;rw[e1]
   ·exact nomatch e
  ·rcases dO hb with ⟨j,u,rfl,e⟩ | ⟨y,u,rfl,e⟩
   ·exact nomatch e
   ·injection e with e1 _;rw[e1]
 byValue:=fun k v h=>by
  rcases dO h with ⟨i,t,rfl,rfl⟩ | ⟨x,t,rfl,rfl⟩<;>rfl
 pyHash:=fun hv h=>by
  rcases dO hv with ⟨i,t,rfl,rfl⟩ | ⟨x,t,rfl,rfl⟩
  ·exact wpAny_pyHash_int h
  ·exact wpAny_pyHash_str h
 eqBool:=fun hu hv h=>by
  rcases dO hu with ⟨i,t,rfl,rfl⟩ | ⟨x,t,rfl,rfl⟩
  ·rcases dO hv with ⟨j,u,rfl,rfl⟩ | ⟨y,u,rfl,rfl⟩
   ·rw[D8] at h;exact wpAny_eqBool_int h
   ·rw[Ea] at h;exact SeqAt.EqAt.int_str i t y u _ _ _ _ h
  ·rcases dO hv with ⟨j,u,rfl,rfl⟩ | ⟨y,u,rfl,rfl⟩
   ·rw[Eb] at h;exact SeqAt.EqAt.str_int x t j u _ _ _ _ h
   ·rw[D9] at h;exact wpAny_eqBool_str h
 «strs»:=fun k x t v h=>by
  rcases dO h with ⟨i,u,rfl,e⟩ | ⟨y,u,rfl,e⟩
  ·exact nomatch e
  ·injection e with e1 _
   subst e1
   cases v<;>rfl
theorem qE (prog:Oc) (w:Oo) (i:Int) (t:Tok):(c8 prog w).is (.inl i) (.int i t)=true:=vW i t
theorem e9 (prog:Oc) (w:Oo) (x:Str) (t:Tok):(c8 prog w).is (.inr x) (.str x t)=true:=vX x t
end L2
namespace L2
open PySem PySem.Spec PyProof.Rows
inductive V where
 | non | bl (b:Bool) | int (i:Int) | str (x:Str) | byt (b:Array UInt8) | flt (b:UInt64) | ref (a:N2) | ty (n:String)
 deriving DecidableEq
noncomputable def RelV:V->NS->Prop
 | .non,u=>u=Qj
 | .bl b,u=>u=QW b
 | .int i,u=>∃ t,u=RK i t
 | .str x,u=>∃ t,u=TM x t
 | .byt b,u=>∃ t,u=Value.bytes b t
 | .flt b,u=>∃ t,u=Value.float b t
 | .ref a,u=>u=O8 a
 | .ty n,u=>u=Value.type n
noncomputable abbrev cX:List V->List NS->Prop:=Paired RelV
theorem cX.length {xs:List V}{us:List NS} (r:cX xs us):xs.length=us.length:=Paired.length r
theorem cX.get:∀ {xs:List V}{us:List NS}{i:Nat}{x:V},cX xs us->xs[i]?=some x->∃ u,us[i]?=some u/\RelV x u
 | _,_,_,_,.nil,e=>by simp at e
 | _,_,0,_,.cons r _,e=>by simp at e;subst e;exact ⟨_,rfl,r⟩
 | _,_,i+1,x,.cons _ t,e=>by
  obtain ⟨u,h1,h2⟩:=cX.get (i:=i) (x:=x) t (by simpa using e)
  exact ⟨u,by simpa using h1,h2⟩
theorem cX.set {x:V}{u:NS} (r:RelV x u):∀ {xs:List V}{us:List NS} (i:Nat),cX xs us->cX (xs.set i x) (us.set i u)
 | _,_,_,.nil=>.nil
 | _,_,0,.cons _ t=>.cons r t
 | _,_,i+1,.cons q t=>.cons q (cX.set r i t)
theorem cX.append:∀ {xs ys:List V}{us ws:List NS},cX xs us->cX ys ws->cX (xs++ys) (us++ws)
 | _,_,_,_,.nil,s=>s
 | _,_,_,_,.cons r t,s=>.cons r (cX.append t s)
theorem cX.take:∀ {xs:List V}{us:List NS} (n:Nat),cX xs us->cX (xs.take n) (us.take n)
 | _,_,0,_=>.nil
 | _,_,_+1,.nil=>.nil
 | _,_,n+1,.cons r t=>.cons r (cX.take n t)
theorem cX.drop:∀ {xs:List V}{us:List NS} (n:Nat),cX xs us->cX (xs.drop n) (us.drop n)
 | _,_,0,r=>r
 | _,_,_+1,.nil=>.nil
 | _,_,n+1,.cons _ t=>cX.drop n t
noncomputable def lT:Option V->Option NS->Prop
 | some v,some u=>RelV v u
 | none,none=>True
 | _,_=>False
noncomputable def KV {κ:Type}:List (κ×V)->List (κ×NS)->Prop:=Paired fun (p:κ×V) (q:κ×NS)=>p.1=q.1/\RelV p.2 q.2
noncomputable def kV:Key->V
 | .inl i=>.int i
 | .inr x=>.str x
inductive HO where
 | lst (xs:List V)
 | tup (xs:List V)
 | dK (kvs:List (Key×V)) | dT (kvs:List (List Key×V))
 | set (S:Int->Bool) (n:Nat)
 | ins (C dx:N2) (fs:List (Str×V))
 | own (x:N2)
 | xd (fs:List (Str×V))
 | met (f x:N2)
 | rng (lo hi:Int)
 | frz (o:Obj) (u:HO)
 | tbl (ps:Array NS)
 | ext (φ:Heap->Prop)
noncomputable abbrev Hp:=N2->Option HO
noncomputable def upd (H:Hp) (a:N2) (o:HO):Hp:=fun b=>if b=a then some o else H b
theorem dS {H:Hp}{a:N2}{o:HO}:upd H a o a=some o:=by unfold upd;rw[if_pos rfl]
theorem c5 {H:Hp}{a b:N2}{o:HO} (h:b≠a):upd H a o b=H b:=by unfold upd;rw[if_neg h]
theorem dz {H:Hp}{a b:N2}{o:HO} (h:H a=some o) (h':H b=none):a≠b:=by
 intro e;subst e;rw[h] at h';cases h'
section
variable (P:Oc) (w:Oo)
noncomputable def fF (H:Hp) (h:Heap) (a:N2):HO->Prop
 | .lst xs=>xs.length<=sizeLine/\∃ (its:List NS) (n:Nat),cX xs its/\h.get? a=some { cls:=.type "list",data:=.seq its.toArray n }
 | .tup xs=>xs.length<=sizeLine/\∃ its:List NS,cX xs its/\IsTup h a its.toArray
 | .dK kvs=>kvs.length<=sizeLine/\(a==P1)=false/\∃ vs,KV kvs vs/\h.DictOf (c8 P w) a vs
 | .dT kvs=>kvs.length<=sizeLine/\(a==P1)=false/\∃ xs:List (List Key×N2×NS),
  Paired (fun (p:List Key×V) (q:List Key×N2×NS)=>p.1=q.1/\H q.2.1=some (.tup (p.1.map kV))/\RelV p.2 q.2.2) kvs xs ∧
  ∃ o es ep,h.get? a=some o/\o.ExactDict/\o.data=.dict es ep/\es.toList=xs.map (entryOfKey (tupleKind (c8 P w)))/\(xs.map (·.1)).Nodup
 | .set S n=>h.SetOf (intKind P w) a S n
 | .ins C dx fs=>H dx=some (.own a)/\fs.length<=1000/\dx≠a/\h.get? a=some (Pi C dx) ∧
  ∃ mA,h.Ns1 dx mA/\(∀ f,lT (fs.lookup f) (mA f))/\TN mA (fs.map (·.1))
 | .own _=>∃ o,h.get? a=some o
 | .xd fs=>∃ mA,h.Ns1 a mA/\∀ f,lT (fs.lookup f) (mA f)
 | .rng lo hi=>∃ t u v,h.get? a=some { cls:=.type "range",data:=.fields #[.int lo t,.int hi u,.int 1 v] }
 | .frz o u=>h.get? a=some o/\fF H h a u
 | .tbl ps=>h.get? a=some { cls:=.none,data:=.fields ps }
 | .met f x=>h.get? a=some (RM (.ref f) (.ref x))
 | .ext φ=>φ h/\(∃ o,h.get? a=some o)/\∀ h1 h2:Heap,φ h1->(∀ o,h1.get? a=some o->h2.get? a=some o)->φ h2
noncomputable def HOk (H:Hp) (h:Heap):Prop:=∀ a o,H a=some o->fF P w H h a o
end
section
variable {P:Oc}{w:Oo}{H H':Hp}{h h':Heap}{a:N2}{o:HO}
theorem fF.lt (x:fF P w H h a o):a < h.objs.size:=by
 cases o with
 | lst xs=>obtain ⟨_,_,_,_,e⟩:=x;exact N3 e
 | tup xs=>obtain ⟨_,_,_,p⟩:=x;exact p.lt
 | dK kvs=>obtain ⟨_,_,_,_,o,_,_,e,_⟩:=x;exact N3 e
 | dT kvs=>obtain ⟨_,_,_,_,o,_,_,e,_⟩:=x;exact N3 e
 | set S n=>obtain ⟨o,_,_,_,e,_⟩:=x;exact N3 e
 | ins C dx fs=>obtain ⟨_,_,_,e,_⟩:=x;exact N3 e
 | own y=>obtain ⟨_,e⟩:=x;exact N3 e
 | xd fs=>obtain ⟨_,⟨_,_,_,e,_⟩,_⟩:=x;exact N3 e
 | rng lo hi=>obtain ⟨_,_,_,e⟩:=x;exact N3 e
 | frz ob u=>obtain ⟨e,_⟩:=x;exact N3 e
 | tbl ps=>exact N3 (show h.get? a=some _ from x)
 | met f y=>exact N3 (show h.get? a=some _ from x)
 | ext φ=>obtain ⟨_,⟨_,e⟩,_⟩:=x;exact N3 e
theorem Paired.Hz {α β:Type}{F G:α->β->Prop}:∀ {l₁:List α}{l₂:List β},Paired F l₁ l₂->(∀ a b,F a b->G a b)->Paired G l₁ l₂
 | _,_,.nil,_=>.nil
 | _,_,.cons r t,f=>.cons (f _ _ r) (Paired.Hz t f)
theorem fF.stay (x:fF P w H h a o) (k:∀ b u,(b=a\/H b=some (.own a))->h.get? b=some u->h'.get? b=some u)
 (ho:∀ b,H b=some (.own a)->H' b=some (.own a)) (ht:∀ b xs,H b=some (.tup xs)->H' b=some (.tup xs)):fF P w H' h' a o:=by
 induction o with
 | lst xs=>obtain ⟨z,its,n,r,e⟩:=x;exact ⟨z,its,n,r,k _ _ (.inl rfl) e⟩
 | tup xs=>obtain ⟨z,its,r,ob,e,c⟩:=x;exact ⟨z,its,r,ob,k _ _ (.inl rfl) e,c⟩
 | dK kvs=>obtain ⟨z,y,vs,r,ob,es,ep,e,c⟩:=x;exact ⟨z,y,vs,r,ob,es,ep,k _ _ (.inl rfl) e,c⟩
 | dT kvs =>
  obtain ⟨z,y,xs,r,ob,es,ep,e,c⟩:=x
  exact ⟨z,y,xs,Paired.Hz r fun p q z=>⟨z.1,ht _ _ z.2.1,z.2.2⟩,ob,es,ep,k _ _ (.inl rfl) e,c⟩
 | set S n=>obtain ⟨ob,es,ep,t,e,c⟩:=x;exact ⟨ob,es,ep,t,k _ _ (.inl rfl) e,c⟩
 | ins C dx fs =>
  obtain ⟨d,z,ne,e,mA,⟨od,es,ep,e2,c⟩,r⟩:=x
  exact ⟨ho _ d,z,ne,k _ _ (.inl rfl) e,mA,⟨od,es,ep,k _ _ (.inr d) e2,c⟩,r⟩
 | own y=>obtain ⟨ob,e⟩:=x;exact ⟨ob,k _ _ (.inl rfl) e⟩
 | xd fs=>obtain ⟨mA,⟨od,es,ep,e,c⟩,r⟩:=x;exact ⟨mA,⟨od,es,ep,k _ _ (.inl rfl) e,c⟩,r⟩
 | rng lo hi=>obtain ⟨t,u,v,e⟩:=x;exact ⟨t,u,v,k _ _ (.inl rfl) e⟩
 | frz ob u ih=>obtain ⟨e,q⟩:=x;exact ⟨k _ _ (.inl rfl) e,ih q⟩
 | tbl ps =>
  have e:h.get? a=some { cls:=.none,data:=.fields ps }:=x
  show h'.get? a=some { cls:=.none,data:=.fields ps }
  exact k a _ (.inl rfl) e
 | met f y =>
  have e:h.get? a=some (RM (.ref f) (.ref y)):=x
  show h'.get? a=some (RM (.ref f) (.ref y))
  exact k a _ (.inl rfl) e
 | ext φ=>obtain ⟨p,⟨o,e⟩,st⟩:=x;exact ⟨st _ _ p fun o q=>k _ _ (.inl rfl) q,⟨o,k _ _ (.inl rfl) e⟩,st⟩
theorem HOk.lt (x:HOk P w H h) (e:H a=some o):a < h.objs.size:=(x a o e).lt
theorem HOk.fresh (x:HOk P w H h) (e:h.objs.size<=a):H a=none:=by
 cases q:H a with
 | none=>rfl
 | some u=>exact absurd (Oj (x.lt q) e) (Pv _)
theorem HOk.kept (x:HOk P w H h) (k:∀ b u,h.get? b=some u->h'.get? b=some u):HOk P w H h':=fun a o e =>
 (x a o e).stay (fun b u _ q=>k b u q) (fun _ q=>q) fun _ _ q=>q
theorem HOk.laid (x:HOk P w H h) (k:∀ b u,h.get? b=some u->h'.get? b=some u) (hp:h.objs.size<=a) (new:fF P w (upd H a o) h' a o):HOk P w (upd H a o) h':=fun b u e=>by
 have hn:=x.fresh hp
 by_cases hb:b=a
 ·subst hb;rw[dS] at e;cases e;exact new
 ·rw[c5 hb] at e
  exact (x b u e).stay (fun c v _ q=>k c v q) (fun c q=>by rw[c5 (dz q hn)];exact q) fun c xs q=>by rw[c5 (dz q hn)];exact q
end
noncomputable def Rd (H:Hp) (a:N2) (u:HO):Prop:=H a=some u\/∃ o,H a=some (.frz o u)
theorem Rd.ok {P:Oc}{w:Oo}{H:Hp}{h:Heap}{a:N2}{u:HO} (r:Rd H a u) (x:HOk P w H h):fF P w H h a u:=by
 rcases r with r | ⟨o,r⟩
 ·exact x a u r
 ·obtain ⟨_,q⟩:=x a _ r
  exact q
noncomputable def Mut:Option HO->Prop
 | some (.lst _)=>True
 | some (.dK _)=>True
 | some (.dT _)=>True
 | some (.set _ _)=>True
 | some (.ins _ _ _)=>True
 | some (.ext _)=>True
 | _=>False
section
variable {P:Oc}{w:Oo}{H:Hp}{h h':Heap}{x e:N2}{o':HO}
theorem HOk.write (ok:HOk P w H h) (mu:Mut (H x)) (he:e=x\/H e=some (.own x)) (k:∀ b u,b≠e->h.get? b=some u->h'.get? b=some u) (heo:∃ u,h'.get? e=some u)
 (new:fF P w (upd H x o') h' x o'):HOk P w (upd H x o') h':=fun b u q=>by
 have nown:∀ c y,H c=some (.own y)->c≠x:=fun c y r z=>by subst z;rw[r] at mu;exact mu
 have ntup:∀ c xs,H c=some (.tup xs)->c≠x:=fun c xs r z=>by subst z;rw[r] at mu;exact mu
 by_cases hb:b=x
 ·subst hb;rw[dS] at q;cases q;exact new
 ·rw[c5 hb] at q
  by_cases hbe:b=e
  ·have q':H b=some (.own x):=by
    rcases he with z | z
    ·exact absurd (hbe.trans z) hb
    ·rw[hbe];exact z
   rw[q] at q';cases q'
   obtain ⟨v,hv⟩:=heo
   exact ⟨v,by rw[hbe];exact hv⟩
  ·refine (ok b u q).stay (fun c v hc r=>k c v ?_ r) (fun c r=>by rw[c5 (nown c b r)];exact r) fun c xs r=>by rw[c5 (ntup c xs r)];exact r
   rcases hc with rfl | hc
   ·exact hbe
   ·rintro rfl
    rcases he with z | z
    ·exact nown c b hc z
    ·rw[hc] at z;cases z;exact hb rfl
end
structure Un (fs ex:List N2) (H H':Hp) (h h':Heap):Prop where
 keep:∀ b o,h.get? b=some o->H b=none->b∉fs->b∉ex->h'.get? b=some o
 slot:∀ b o,h.get? b=some o->H b=none->b∈fs->b∉ex->∃ sl,h'.get? b=some { o with slots:=sl }
 free:∀ b o,h.get? b=some o->H b=none->b∉ex->H' b=none
 there:∀ b o,h.get? b=some o->b∉ex->∃ o',h'.get? b=some o'
 tups:∀ b xs,H b=some (.tup xs)->H' b=some (.tup xs)
 frzs:∀ b o u,H b=some (.frz o u)->H' b=some (.frz o u)
 tbls:∀ b ps,H b=some (.tbl ps)->∃ more,H' b=some (.tbl (ps++more))
section
variable {fs fs' ex ex':List N2}{H H1 H2:Hp}{h h1 h2 h':Heap}{a x e:N2}{o:HO}
theorem Un.any (u:Un fs ex H H1 h h1) {b:N2}{ob:Obj} (q:h.get? b=some ob) (n:H b=none) (hx:b∉ex):∃ sl,h1.get? b=some { ob with slots:=sl }:=by
 by_cases hb:b∈fs
 ·exact u.slot b ob q n hb hx
 ·exact ⟨ob.slots,u.keep b ob q n hb hx⟩
theorem Un.kept (k:∀ b u,h.get? b=some u->h'.get? b=some u):Un fs ex H H h h' :=
 ⟨fun b ob q _ _ _=>k b ob q,fun b ob q _ _ _=>⟨ob.slots,k b ob q⟩,fun _ _ _ n _=>n,fun b ob q _=>⟨ob,k b ob q⟩,fun _ _ q=>q,fun _ _ _ q=>q,fun _ ps q=>⟨#[],by rw[q];simp⟩⟩
theorem Un.refl:Un fs ex H H h h:=Un.kept fun _ _ q=>q
theorem Un.laid (k:∀ b u,h.get? b=some u->h'.get? b=some u) (hp:h.objs.size<=a) (hn:H a=none):Un fs ex H (upd H a o) h h' where
 keep:=fun b u q _ _ _=>k b u q
 slot:=fun b u q _ _ _=>⟨u.slots,k b u q⟩
 free:=fun b u q n _=>by rw[c5 (Oh (Oj (N3 q) hp))];exact n
 there:=fun b u q _=>⟨u,k b u q⟩
 tups:=fun b xs q=>by rw[c5 (dz q hn)];exact q
 frzs:=fun b u xs q=>by rw[c5 (dz q hn)];exact q
 tbls:=fun b ps q=>⟨#[],by rw[c5 (dz q hn),q];simp⟩
theorem Un.write (mu:Mut (H x)) (he:e=x\/H e=some (.own x)) (k:∀ b u,b≠e->h.get? b=some u->h'.get? b=some u) (heo:∃ u,h'.get? e=some u):Un fs ex H (upd H x o) h h':=by
 have hx:∀ b,H b=none->b≠x:=fun b n z=>by subst z;rw[n] at mu;exact mu
 have hb:∀ b,H b=none->b≠e:=fun b n z=>by
  subst z
  rcases he with r | r
  ·exact hx b n r
  ·rw[n] at r;cases r
 have hm:∀ b u,H b=some u->¬ Mut (some u)->b≠x:=fun b u q nm z=>by subst z;rw[q] at mu;exact nm mu
 refine ⟨fun b u q n _ _=>k b u (hb b n) q,fun b u q n _ _=>⟨u.slots,k b u (hb b n) q⟩,fun b u q n _=>by rw[c5 (hx b n)];exact n,fun b u q _=>?_,
  fun b xs q=>by rw[c5 (hm b _ q fun z=>z)];exact q,fun b u xs q=>by rw[c5 (hm b _ q fun z=>z)];exact q,fun b ps q=>⟨#[],by rw[c5 (hm b _ q fun z=>z),q];simp⟩⟩
 by_cases hbe:b=e
 ·subst hbe;exact heo
 ·exact ⟨u,k b u hbe q⟩
end
noncomputable def trk (h:Heap) (H:Hp):List N2:=(PJ h.objs.size).filter fun a=>(H a).isSome
noncomputable def qF (h:Heap) (H:Hp):Heap:=PySem.W.hideAll h (trk h H)
theorem vY (h:Heap) (H:Hp):(qF h H).objs.size=h.objs.size:=PySem.W.hideAll_size _ _
theorem qG {h:Heap}{H:Hp}{b:N2}{o:Obj} (e:h.get? b=some o) (n:H b=none):(qF h H).get? b=some o :=
 PySem.W.hideAll_get _ e fun hm=>by
  have q:(H b).isSome=true:=(List.mem_filter.mp hm).2
  rw[n] at q;simp at q
theorem AS {h:Heap}{H:Hp}{b:N2}{o:Obj} (e:(qF h H).get? b=some o):h.get? b=some o/\H b=none:=by
 have e':h.get? b=some o:=PySem.W.of_hideAll (trk h H) e
 refine ⟨e',?_⟩
 cases q:H b with
 | none=>rfl
 | some x =>
  have hm:b∈trk h H:=List.mem_filter.mpr ⟨List.mem_range.mpr (N3 e'),by simp[q]⟩
  have z:(qF h H).get? b=none:=PySem.W.hideAll_none (trk h H) hm
  rw[z] at e;cases e
noncomputable def AU (g h:Heap) (L:N2):List (N2×Obj):=(PJ h.objs.size).filterMap fun a=>if a=L\/(g.get? a).isSome=true then none else (h.get? a).map fun o=>(a,o)
noncomputable def rest (g h:Heap) (L d:N2):List (N2×Obj):=(AU g h L).filter fun p=>decide (p.1≠d)
end L2
namespace L2
open PySem PySem.Spec PyProof.Rows
structure Mod (K:NO) (mg:Str->Option NS) (base:Heap):Prop where
 kin:K.In base
 glob:base.Ns Ob mg
 blt:∃ mb,base.Ns Qi mb/\∀ x:Str,x≠"__name__"->mb x=Q4 x
 nolimit:base.NoLimit
structure Cx where
 prog:Oc
 w:Oo
 K:NO
 mg:Str->Option NS
 base:Heap
 A:ON
 N:List Str
 s₀:NT
 H₀:Hp
 env:Env
 outer:List Env
 stack:List Env
 ex:List N2
 fn:Str->Bool
 calm:Bool
 pn:List (N2×Obj)
 xe:NS->NT->Prop
noncomputable def frs (l:List Env):List N2:=l.filterMap (·.frame)
noncomputable abbrev Cx.fs (X:Cx):List N2:=frs X.outer
noncomputable def Vis (sc:OS) (x:Str):Prop:=sc.names.lookup x=some .local\/sc.names.lookup x=some .cell\/sc.names.lookup x=some .free
noncomputable def Loc (sc:OS) (x:Str):Prop:=sc.names.lookup x=some .local\/sc.names.lookup x=some .cell
noncomputable def Look (env:Env) (h:Heap) (m:Str->Option NS) (x:Str) (u:NS):Prop :=
 (env.kindOf x=some .local/\m x=some u)\/((env.kindOf x=some .cell\/env.kindOf x=some .free)/\∃ c,env.cells.lookup x=some c/\h.IsCell c (some u))
structure Cx.Ok (X:Cx):Prop where
 mod:Mod X.K X.mg X.base
 kind:X.env.scope.kind=.function
 glob:X.env.globals=Ob
 blt:X.env.builtins=Qi
 above:X.s₀.heap.objs.size<=X.env.locals
 inj:∀ x y c,X.env.cells.lookup x=some c->X.env.cells.lookup y=some c->x=y
 has:∀ x,(X.env.kindOf x=some .cell\/X.env.kindOf x=some .free)->∃ c,X.env.cells.lookup x=some c
 cab:∀ x c,X.fn x=true->X.env.cells.lookup x=some c->X.s₀.heap.objs.size<=c
 hd:X.calm=true->X.A.handled=none
 frames:X.A.frames=some X.stack
 stk:X.stack=X.outer\/(X.stack=X.env :: X.outer/\X.env.frame=some X.env.locals)
 exf:∀ b∈X.ex,b≠X.env.locals/\∀ x c,X.env.cells.lookup x=some c->c≠b
 bs:∀ b o,X.base.get? b=some o->X.s₀.heap.get? b=some o/\X.H₀ b=none
 bsz:X.base.objs.size<=X.s₀.heap.objs.size
 noex:∀ b o,X.base.get? b=some o->b∉X.ex
 exfs:∀ b∈X.ex,b∉X.fs
 jE:X.s₀.heap.FunFrames X.base X.outer
 frf:∀ b∈X.fs,X.H₀ b=none
structure Inv (X:Cx) (pins:List (N2×Obj)) (σ:List (Option V)) (H:Hp) (s:NT):Prop where
 ok:X.Ok
 os:s.os=X.s₀.os
 bare:T6 s.gens
 base:Un X.fs X.ex X.H₀ H X.s₀.heap s.heap
 loc:∃ m,s.heap.Ns X.env.locals m/\∀ (i:Nat) (x:Str) (v:V),X.N[i]?=some x->σ[i]?=some (some v)->Vis X.env.scope x->∃ u,RelV v u/\Look X.env s.heap m x u
 cell:∀ x c,X.env.cells.lookup x=some c->∃ v,s.heap.IsCell c v
 free:H X.env.locals=none
 freeC:∀ x c,X.env.cells.lookup x=some c->H c=none
 pin:∀ p∈X.pn++pins,s.heap.get? p.1=some p.2/\H p.1=none/\p.1≠X.env.locals/\p.1∉X.fs/\∀ v,p.2.data≠.cell v
 hok:HOk X.prog X.w H s.heap
 len:σ.length=X.N.length
section
variable {X:Cx}{pins:List (N2×Obj)}{σ:List (Option V)}{H H':Hp}{s:NT}{h':Heap}
theorem Cx.Ok.Lh (ok:X.Ok) {b:N2}{o:Obj} (e:X.base.get? b=some o):b∉X.fs:=fun hb=>by
 have:=(ok.jE.mem hb).1
 rw[e] at this;cases this
theorem Inv.bs (I:Inv X pins σ H s):∀ b o,X.base.get? b=some o->s.heap.get? b=some o/\H b=none:=fun b o e =>
 ⟨I.base.keep b o (I.ok.bs b o e).1 (I.ok.bs b o e).2 (I.ok.Lh e) (I.ok.noex b o e),I.base.free b o (I.ok.bs b o e).1 (I.ok.bs b o e).2 (I.ok.noex b o e)⟩
theorem Inv.bk (I:Inv X pins σ H s):∀ b o,X.base.get? b=some o->s.heap.get? b=some o:=fun b o e=>(I.bs b o e).1
theorem Inv.mod (I:Inv X pins σ H s):Mod X.K X.mg X.base:=I.ok.mod
theorem Inv.kIn (I:Inv X pins σ H s):X.K.In s.heap:=I.ok.mod.kin.keeps I.bk
theorem Inv.lt (I:Inv X pins σ H s):X.env.locals < s.heap.objs.size:=let ⟨_,hn,_⟩:=I.loc;hn.lt
theorem Inv.sz (I:Inv X pins σ H s):X.s₀.heap.objs.size<=s.heap.objs.size:=Om I.ok.above (QN I.lt)
theorem Inv.Li (I:Inv X pins σ H s) {a:N2} (h:s.heap.objs.size<=a):a∉X.fs:=fun hb=>by
 obtain ⟨_,o,ho,_⟩:=I.ok.jE.mem hb
 exact absurd (Oj (N3 ho) (Om I.sz h)) (Pv _)
theorem Inv.cne (I:Inv X pins σ H s):∀ x c,X.env.cells.lookup x=some c->c≠X.env.locals:=fun x c e z=>by
 obtain ⟨v,o,ho,hd⟩:=I.cell x c e
 obtain ⟨m,⟨o',es,ep,ho',hd',_⟩,_⟩:=I.loc
 rw[z,ho'] at ho;cases ho;rw[hd'] at hd;cases hd
theorem Inv.jE (I:Inv X pins σ H s):s.heap.FunFrames X.base X.outer:=by
 have all:∀ (l:List Env),(∀ b∈frs l,b∈X.fs)->X.s₀.heap.FunFrames X.base l->s.heap.FunFrames X.base l:=by
  intro l
  induction l with
  | nil=>intro _ _;trivial
  | cons env r ih =>
   intro hs hl
   obtain ⟨hk,⟨L,o,hf,hn,ho,hd⟩,hr⟩:=hl
   have hL:L∈X.fs:=hs L (by unfold frs;rw[O1,hf];exact NW)
   obtain ⟨sl,e⟩:=I.base.slot L o ho (I.ok.frf L hL) hL fun z=>I.ok.exfs L z hL
   exact ⟨hk,⟨L,_,hf,hn,e,hd⟩,ih (fun b hb=>hs b (by unfold frs;rw[O1,hf];exact NU _ hb)) hr⟩
 exact all X.outer (fun _ hb=>hb) I.ok.jE
theorem Inv.stack (I:Inv X pins σ H s):s.heap.FunFrames X.base X.stack:=by
 rcases I.ok.stk with e | ⟨e,hf⟩
 ·rw[e];exact I.jE
 ·rw[e]
  obtain ⟨m,hn,_⟩:=I.loc
  refine .cons (by rw[I.ok.kind];decide) hf hn ?_ I.jE
  exact Heap.get?_none_of_le (Om I.ok.bsz I.ok.above)
theorem Inv.oV (I:Inv X pins σ H s):∀ b∈frs X.stack,b∈X.env.locals :: X.fs:=fun b hb=>by
 rcases I.ok.stk with e | ⟨e,hf⟩
 ·rw[e] at hb;exact NU _ hb
 ·rw[e] at hb
  unfold frs at hb
  rw[O1,hf] at hb
  exact hb
theorem Inv.uv (I:Inv X pins σ H s):∀ b∈frs X.stack,H b=none:=fun b hb=>by
 rcases List.mem_cons.mp (I.oV b hb) with e | hb
 ·rw[e];exact I.free
 ·obtain ⟨_,o,ho,_⟩:=I.ok.jE.mem hb
  exact I.base.free b o ho (I.ok.frf b hb) fun z=>I.ok.exfs b z hb
theorem Inv.step {g':Array GenState}{t':Nat}{d':Drawn}{ch:List N2} (I:Inv X pins σ H s)
 (hch:∀ b∈ch,(b∈X.ex\/X.s₀.heap.objs.size<=b)/\b≠X.env.locals/\(∀ x c,X.env.cells.lookup x=some c->c≠b)/\∀ p∈X.pn++pins,p.1≠b)
 (keep:∀ b o,b≠X.env.locals->b∉X.fs->b∉ch->s.heap.get? b=some o->H b=none->h'.get? b=some o)
 (slot:∀ b o,b≠X.env.locals->b∈X.fs->b∉ch->s.heap.get? b=some o->H b=none->∃ sl,h'.get? b=some { o with slots:=sl }) (free:∀ b o,b∉ch->s.heap.get? b=some o->H b=none->H' b=none)
 (there:∀ b o,b∉ch->s.heap.get? b=some o->∃ o',h'.get? b=some o')
 (tups:∀ b xs,H b=some (.tup xs)->H' b=some (.tup xs)) (frzs:∀ b o u,H b=some (.frz o u)->H' b=some (.frz o u)) (tbls:∀ b ps,H b=some (.tbl ps)->∃ more,H' b=some (.tbl (ps++more)))
 (ns:∀ m,s.heap.Ns X.env.locals m->h'.Ns X.env.locals m) (hok:HOk X.prog X.w H' h') (hg:T6 g') :
 Inv X pins σ H' { s with heap:=h',gens:=g',drawn:=d',toks:=t' }:=by
 have neL:∀ b o,X.s₀.heap.get? b=some o->b≠X.env.locals:=fun b o e=>Oh (Oj (N3 e) I.ok.above)
 have neC:∀ b o,X.s₀.heap.get? b=some o->b∉X.ex->b∉ch:=fun b o e hx hb=>by
  rcases (hch b hb).1 with z | z
  ·exact hx z
  ·exact absurd (Oj (N3 e) z) (Pv _)
 have cellK:∀ x c,X.env.cells.lookup x=some c->∀ v,s.heap.IsCell c v->h'.IsCell c v:=fun x c e v ⟨o,ho,hd⟩=>by
  have nch:c∉ch:=fun z=>(hch c z).2.2.1 x c e rfl
  by_cases hc:c∈X.fs
  ·obtain ⟨sl,q⟩:=slot c o (I.cne x c e) hc nch ho (I.freeC x c e)
   exact ⟨_,q,hd⟩
  ·exact ⟨o,keep c o (I.cne x c e) hc nch ho (I.freeC x c e),hd⟩
 refine ⟨I.ok,I.os,hg,⟨fun b o e n hb hx=>?_,fun b o e n hb hx=>?_,fun b o e n hx=>?_,fun b o e hx=>?_,fun b xs e=>tups b xs (I.base.tups b xs e),fun b o xs e=>frzs b o xs (I.base.frzs b o xs e),fun b ps e=>?_⟩,?_,fun x c e=>?_,?_,fun x c e=>?_,fun p hp=>?_,hok,I.len⟩
 ·exact keep b o (neL b o e) hb (neC b o e hx) (I.base.keep b o e n hb hx) (I.base.free b o e n hx)
 ·obtain ⟨sl,e1⟩:=I.base.slot b o e n hb hx
  obtain ⟨sl',e2⟩:=slot b _ (neL b o e) hb (neC b o e hx) e1 (I.base.free b o e n hx)
  exact ⟨sl',e2⟩
 ·obtain ⟨o',e1⟩:=I.base.there b o e hx
  exact free b o' (neC b o e hx) e1 (I.base.free b o e n hx)
 ·obtain ⟨o',e1⟩:=I.base.there b o e hx
  exact there b o' (neC b o e hx) e1
 ·obtain ⟨m1,e1⟩:=I.base.tbls b ps e
  obtain ⟨m2,e2⟩:=tbls b _ e1
  exact ⟨m1++m2,by rw[e2,Array.append_assoc]⟩
 ·obtain ⟨m,hn,hl⟩:=I.loc
  refine ⟨m,ns m hn,fun i x v e1 e2 e3=>?_⟩
  obtain ⟨u,r,l⟩:=hl i x v e1 e2 e3
  refine ⟨u,r,?_⟩
  rcases l with l | ⟨k,c,e,z⟩
  ·exact .inl l
  ·exact .inr ⟨k,c,e,cellK x c e _ z⟩
 ·obtain ⟨v,z⟩:=I.cell x c e
  exact ⟨v,cellK x c e v z⟩
 ·obtain ⟨m,⟨o,_,_,ho,_⟩,_⟩:=I.loc
  exact free _ o (fun z=>(hch _ z).2.1 rfl) ho I.free
 ·obtain ⟨v,o,ho,hd⟩:=I.cell x c e
  exact free c o (fun z=>(hch c z).2.2.1 x c e rfl) ho (I.freeC x c e)
 ·obtain ⟨e,n,ne,nf,d⟩:=I.pin p hp
  have nch:p.1∉ch:=fun z=>(hch p.1 z).2.2.2 p hp rfl
  exact ⟨keep p.1 p.2 ne nf nch e n,free p.1 p.2 nch e n,ne,nf,d⟩
theorem Inv.un {t':Nat} (I:Inv X pins σ H s) (u:Un X.fs [] H H' s.heap h') (hok:HOk X.prog X.w H' h'):Inv X pins σ H' { s with heap:=h',toks:=t' }:=by
 obtain ⟨m,⟨o,es,ep,ho,r⟩,_⟩:=id I.loc
 obtain ⟨sl,hL⟩:=u.any ho I.free (by simp)
 exact I.step (g':=s.gens) (d':=s.drawn) (ch:=[]) (fun _ z=>nomatch z) (fun b o _ hb _ e n=>u.keep b o e n hb (by simp)) (fun b o _ hb _ e n=>u.slot b o e n hb (by simp)) (fun b o _ e n=>u.free b o e n (by simp)) (fun b o _ e=>u.there b o e (by simp)) u.tups u.frzs u.tbls (fun m' hm=>by
  obtain ⟨o',es',ep',ho',r'⟩:=hm
  rw[ho] at ho';cases ho'
  exact ⟨_,es',ep',hL,r'⟩) hok I.bare
theorem Inv.call {g':Array GenState}{t':Nat}{d':Drawn}{ch:List N2} (I:Inv X pins σ H s) (u:Un (frs X.stack) ch H H' s.heap h') (hok:HOk X.prog X.w H' h') (hg:T6 g')
 (hch:∀ b∈ch,(b∈X.ex\/X.s₀.heap.objs.size<=b)/\b≠X.env.locals/\(∀ x c,X.env.cells.lookup x=some c->c≠b)/\∀ p∈X.pn++pins,p.1≠b) :
 Inv X pins σ H' { s with heap:=h',gens:=g',drawn:=d',toks:=t' }:=by
 obtain ⟨m,⟨o,es,ep,ho,r⟩,_⟩:=id I.loc
 obtain ⟨sl,hL⟩:=u.any ho I.free fun z=>(hch _ z).2.1 rfl
 exact I.step (ch:=ch) hch (fun b o hL hb hc e n=>u.keep b o e n (fun z=>(List.mem_cons.mp (I.oV b z)).elim hL hb) hc) (fun b o _ _ hc e n=>u.any e n hc) (fun b o hc e n=>u.free b o e n hc) (fun b o hc e=>u.there b o e hc) u.tups u.frzs u.tbls (fun m' hm=>by
  obtain ⟨o',es',ep',ho',r'⟩:=hm
  rw[ho] at ho';cases ho'
  exact ⟨_,es',ep',hL,r'⟩) hok hg
theorem Inv.turned {t':Nat}{it:N2} (I:Inv X pins σ H s) (k:∀ b o,b≠it->s.heap.get? b=some o->h'.get? b=some o) (hn:H it=none) (hL:it≠X.env.locals)
 (h1:it∈X.ex\/X.s₀.heap.objs.size<=it) (h2:∀ x c,X.env.cells.lookup x=some c->c≠it) (h3:∀ p∈X.pn++pins,p.1≠it):Inv X pins σ H { s with heap:=h',toks:=t' }:=by
 have nit:∀ b u,H b=some u->b≠it:=fun b u e z=>by rw[z,hn] at e;cases e
 refine I.step (g':=s.gens) (d':=s.drawn) (ch:=[it]) (fun b hb=>?_) (fun b o _ _ hc e _=>k b o (fun z=>hc (by simp[z])) e) (fun b o _ _ hc e _=>⟨o.slots,k b o (fun z=>hc (by simp[z])) e⟩) (fun _ _ _ _ n=>n)
  (fun b o hc e=>⟨o,k b o (fun z=>hc (by simp[z])) e⟩) (fun _ _ e=>e) (fun _ _ _ e=>e) (fun b ps e=>⟨#[],by rw[e];simp⟩) (fun m hm=>?_) (fun b u e=>?_) I.bare
 ·have e:b=it:=by simpa using hb
  subst e
  exact ⟨h1,hL,h2,h3⟩
 ·obtain ⟨o,es,ep,ho,r⟩:=hm
  exact ⟨o,es,ep,k _ o (Re hL) ho,r⟩
 ·refine (I.hok b u e).stay (fun c v hc q=>k c v ?_ q) (fun _ q=>q) fun _ _ q=>q
  rcases hc with z | z
  ·rw[z];exact nit b u e
  ·exact nit c _ z
theorem Inv.tok (I:Inv X pins σ H s) (t:Nat):Inv X pins σ H { s with toks:=t }:=I.un (h':=s.heap) (t':=t) Un.refl I.hok
theorem Inv.kept {t':Nat} (I:Inv X pins σ H s) (k:∀ b u,s.heap.get? b=some u->h'.get? b=some u):Inv X pins σ H { s with heap:=h',toks:=t' }:=I.un (Un.kept k) (I.hok.kept k)
theorem Inv.laid {a:N2}{o:HO}{t':Nat} (I:Inv X pins σ H s) (k:∀ b u,s.heap.get? b=some u->h'.get? b=some u) (hp:s.heap.objs.size<=a) (new:fF X.prog X.w (upd H a o) h' a o) :
 Inv X pins σ (upd H a o) { s with heap:=h',toks:=t' }:=I.un (Un.laid k hp (I.hok.fresh hp)) (I.hok.laid k hp new)
theorem Inv.write {x e:N2}{o:HO}{t':Nat} (I:Inv X pins σ H s) (mu:Mut (H x)) (he:e=x\/H e=some (.own x)) (k:∀ b u,b≠e->s.heap.get? b=some u->h'.get? b=some u) (heo:∃ u,h'.get? e=some u)
 (new:fF X.prog X.w (upd H x o) h' x o):Inv X pins σ (upd H x o) { s with heap:=h',toks:=t' }:=I.un (Un.write mu he k heo) (I.hok.write mu he k heo new)
theorem Inv.lC {pins':List (N2×Obj)} (I:Inv X pins σ H s) (h:∀ p∈pins',s.heap.get? p.1=some p.2/\H p.1=none/\p.1≠X.env.locals/\p.1∉X.fs/\∀ v,p.2.data≠.cell v):Inv X pins' σ H s :=
 ⟨I.ok,I.os,I.bare,I.base,I.loc,I.cell,I.free,I.freeC,fun p hp=>(List.mem_append.mp hp).elim (fun z=>I.pin p (QE _ z)) (h p),I.hok,I.len⟩
theorem qH {N:List Str} (hN:N.Nodup) {i j:Nat}{x:Str} (a:N[i]?=some x) (b:N[j]?=some x):i=j:=by
 obtain ⟨h1,e1⟩:=List.getElem?_eq_some_iff.mp a
 obtain ⟨h2,e2⟩:=List.getElem?_eq_some_iff.mp b
 exact (List.getElem_inj hN).mp (e1.trans e2.symm)
theorem nU {M:Model}{A:ON}{E:NS->NT->Prop}{i:Nat}{x:Str}{v:V}{u:NS}{Q:Unit->NT->Prop} (I:Inv X pins σ H s) (hN:X.N.Nodup) (hi:X.N[i]?=some x) (hx:Loc X.env.scope x) (r:RelV v u)
 (h:∀ s',Inv X pins (σ.set i (some v)) H s'->(∃ a,OF a s.heap s'.heap/\(a=X.env.locals\/X.env.cells.lookup x=some a))->Q () s') (hf:X.fn x=true\/X.env.scope.names.lookup x=some .local:=by first | exact .inl rfl | exact .inr rfl | assumption):wpAny M A (storeName X.env x u) Q E s:=by
 obtain ⟨m,hn,hl⟩:=id I.loc
 have hcls:(X.env.scope.kind==.class||(X.env.scope.kind==.module&&X.env.locals != X.env.globals))=false:=by rw[I.ok.kind];rfl
 have hiσ:i < σ.length:=by rw[I.len];exact (List.getElem?_eq_some_iff.mp hi).1
 have cne:=I.cne
 have tracked:∀ {a:N2}{h':Heap},(∃ o,s.heap.get? a=some o/\H a=none)->OF a s.heap h'->HOk X.prog X.w H h':=fun {a h'} ha hs b ob e=>by
  obtain ⟨_,_,hfree⟩:=ha
  refine (I.hok b ob e).stay (fun c w' hc q=>(hs.2 c ?_).trans q) (fun _ q=>q) fun _ _ q=>q
  rintro rfl
  rcases hc with rfl | hc
  ·rw[hfree] at e;cases e
  ·rw[hfree] at hc;cases hc
 rcases hx with hk | hk
 ·refine wpAny_storeName_local hk hn (fun h' hn' hs=>?_) hcls
  obtain ⟨oL,_,_,hoL,_⟩:=id hn
  refine h _ ⟨I.ok,I.os,I.bare,⟨fun b o e n hb hx=>?_,fun b o e n hb hx=>?_,I.base.free,fun b o e hx=>?_,I.base.tups,I.base.frzs,I.base.tbls⟩,⟨_,hn',fun j y v' e1 e2 e3=>?_⟩,fun y c e=>?_,I.free,I.freeC,fun p hp=>?_,tracked ⟨oL,hoL,I.free⟩ hs,by simpa using I.len⟩ ⟨_,hs,.inl rfl⟩
  ·exact (hs.2 b (Oh (Oj (N3 e) I.ok.above))).trans (I.base.keep b o e n hb hx)
  ·obtain ⟨sl,e1⟩:=I.base.slot b o e n hb hx
   exact ⟨sl,(hs.2 b (Oh (Oj (N3 e) I.ok.above))).trans e1⟩
  ·obtain ⟨o',e1⟩:=I.base.there b o e hx
   exact ⟨o',(hs.2 b (Oh (Oj (N3 e) I.ok.above))).trans e1⟩
  ·by_cases hj:j=i
   ·subst hj
    rw[hi] at e1;cases e1
    rw[Pd hiσ] at e2
    cases e2
    exact ⟨u,r,.inl ⟨hk,by simp⟩⟩
   ·rw[PV (Re hj)] at e2
    obtain ⟨u',r',q⟩:=hl j y v' e1 e2 e3
    refine ⟨u',r',?_⟩
    rcases q with ⟨k,e⟩ | ⟨k,c,e,z⟩
    ·refine .inl ⟨k,?_⟩
     have:y≠x:=fun e=>hj (qH hN e1 (e ▸ hi))
     simp[this,e]
    ·exact .inr ⟨k,c,e,z.sameBut hs (cne y c e)⟩
  ·obtain ⟨w',z⟩:=I.cell y c e
   exact ⟨w',z.sameBut hs (cne y c e)⟩
  ·obtain ⟨e,n,ne,nf,d⟩:=I.pin p hp
   exact ⟨(hs.2 p.1 ne).trans e,n,ne,nf,d⟩
 ·have hfn:X.fn x=true:=by
   rcases hf with z | z
   ·exact z
   ·rw[z] at hk;cases hk
  obtain ⟨c,hc⟩:=I.ok.has x (.inl hk)
  obtain ⟨w',z⟩:=I.cell x c hc
  refine wpAny_storeName_cell I.ok.kind hk hc z (fun h' hc' hs=>?_)
  obtain ⟨oc,hoc,hocd⟩:=id z
  refine h { s with heap:=h' } ⟨I.ok,I.os,I.bare,⟨fun b o e n hb hx=>?_,fun b o e n hb hx=>?_,I.base.free,fun b o e hx=>?_,I.base.tups,I.base.frzs,I.base.tbls⟩,⟨m,hn.sameBut hs (Re (cne x c hc)),fun j y v' e1 e2 e3=>?_⟩,fun y c' e=>?_,I.free,I.freeC,fun p hp=>?_,tracked ⟨oc,hoc,I.freeC x c hc⟩ hs,by simpa using I.len⟩ ⟨c,hs,.inr hc⟩
  ·exact (hs.2 b (Oh (Oj (N3 e) (I.ok.cab x c hfn hc)))).trans (I.base.keep b o e n hb hx)
  ·obtain ⟨sl,e1⟩:=I.base.slot b o e n hb hx
   exact ⟨sl,(hs.2 b (Oh (Oj (N3 e) (I.ok.cab x c hfn hc)))).trans e1⟩
  ·obtain ⟨o',e1⟩:=I.base.there b o e hx
   exact ⟨o',(hs.2 b (Oh (Oj (N3 e) (I.ok.cab x c hfn hc)))).trans e1⟩
  ·by_cases hj:j=i
   ·subst hj
    rw[hi] at e1;cases e1
    rw[Pd hiσ] at e2
    cases e2
    exact ⟨u,r,.inr ⟨.inl hk,c,hc,hc'⟩⟩
   ·rw[PV (Re hj)] at e2
    obtain ⟨u',r',q⟩:=hl j y v' e1 e2 e3
    refine ⟨u',r',?_⟩
    rcases q with q | ⟨k,c',e,z'⟩
    ·exact .inl q
    ·refine .inr ⟨k,c',e,z'.sameBut hs ?_⟩
     rintro rfl
     exact hj (qH hN e1 (I.ok.inj _ _ _ e hc ▸ hi))
  ·by_cases hcc:c'=c
   ·subst hcc;exact ⟨_,hc'⟩
   ·obtain ⟨w2,z2⟩:=I.cell y c' e
    exact ⟨w2,z2.sameBut hs hcc⟩
  ·obtain ⟨e,n,ne,nf,d⟩:=I.pin p hp
   refine ⟨(hs.2 p.1 ?_).trans e,n,ne,nf,d⟩
   intro q
   rw[q,hoc] at e
   have q':oc=p.2:=N4 e
   exact d w' (by rw[← q'];exact hocd)
theorem lU {M:Model}{A:ON}{E:NS->NT->Prop}{i:Nat}{x:Str}{v:V}{u:NS}{Q:Unit->NT->Prop} (I:Inv X pins σ H s) (hN:X.N.Nodup) (hi:X.N[i]?=some x) (hx:Loc X.env.scope x) (r:RelV v u)
 (h:∀ s',Inv X pins (σ.set i (some v)) H s'->Q () s') (hf:X.fn x=true\/X.env.scope.names.lookup x=some .local:=by first | exact .inl rfl | exact .inr rfl | assumption):wpAny M A (storeName X.env x u) Q E s :=
 nU I hN hi hx r (fun s' I' _=>h s' I') hf
end
noncomputable abbrev XK:=NS->Option N2->Hp->Prop
noncomputable abbrev St:=List (Option V)
noncomputable abbrev VK:=V->Hp->Prop
noncomputable abbrev TE:=St->Hp->VK->Prop
noncomputable abbrev TT:=St->Hp->(Bool->Hp->Prop)->Prop
noncomputable abbrev TA:=St->Hp->(List V->Hp->Prop)->Prop
structure Ends where
 nx:St->Hp->Prop
 rt:VK
 bk:St->Hp->Prop:=fun _ _=>False
 ct:St->Hp->Prop:=fun _ _=>False
noncomputable abbrev TS:=Ends->St->Hp->Prop
inductive EP (X:Cx) (pins:List (N2×Obj)) (σ:St) (Q:VK) (u:NS) (s':NT):Prop where
 | mk (v:V) (H':Hp) (I:Inv X pins σ H' s') (r:RelV v u) (q:Q v H'):EP X pins σ Q u s'
inductive TP (X:Cx) (pins:List (N2×Obj)) (σ:St) (Q:Bool->Hp->Prop) (b:Bool) (s':NT):Prop where
 | mk (H':Hp) (I:Inv X pins σ H' s') (q:Q b H'):TP X pins σ Q b s'
inductive AP (X:Cx) (pins:List (N2×Obj)) (σ:St) (Q:List V->Hp->Prop) (us:List NS) (s':NT):Prop where
 | mk (vs:List V) (H':Hp) (I:Inv X pins σ H' s') (r:cX vs us) (q:Q vs H'):AP X pins σ Q us s'
noncomputable def SP (X:Cx) (pins:List (N2×Obj)) (D:Ends) (f:Flow) (s':NT):Prop :=
 match f with
 | .next=>∃ σ' H',Inv X pins σ' H' s'/\D.nx σ' H'
 | .brk=>∃ σ' H',Inv X pins σ' H' s'/\D.bk σ' H'
 | .cont=>∃ σ' H',Inv X pins σ' H' s'/\D.ct σ' H'
 | .ret u=>∃ v σ' H',Inv X pins σ' H' s'/\RelV v u/\D.rt v H'
noncomputable def PE (X:Cx) (e:QF) (t:TE):Prop :=
 ∀ (pins:List (N2×Obj)) (s:NT) (σ:St) (H:Hp) (Q:VK),Inv X pins σ H s->t σ H Q->wpAny (Oi X.prog X.w) X.A (eval e X.env) (EP X pins σ Q) X.xe s
noncomputable def PT (X:Cx) (e:QF) (t:TT):Prop :=
 ∀ (pins:List (N2×Obj)) (s:NT) (σ:St) (H:Hp) (Q:Bool->Hp->Prop),Inv X pins σ H s->t σ H Q->wpAny (Oi X.prog X.w) X.A (isTrue e X.env (eval e X.env)) (TP X pins σ Q) X.xe s
noncomputable def PW (X:Cx) (e:QF) (t:TT):Prop :=
 ∀ (whole:Sem NS) (pins:List (N2×Obj)) (s:NT) (σ:St) (H:Hp) (Q:Bool->Hp->Prop),Inv X pins σ H s->t σ H Q->wpAny (Oi X.prog X.w) X.A (isTrue e X.env whole) (TP X pins σ Q) X.xe s
theorem PW.pt {X:Cx}{e:QF}{t:TT} (h:PW X e t):PT X e t:=h _
noncomputable def PA (X:Cx) (es:List QF) (t:TA):Prop :=
 ∀ (pos:Pos) (pins:List (N2×Obj)) (s:NT) (σ:St) (H:Hp) (Q:List V->Hp->Prop),Inv X pins σ H s->t σ H Q->wpAny (Oi X.prog X.w) X.A (spliced (QC pos (Ow es X.env))) (AP X pins σ Q) X.xe s
noncomputable def PS (X:Cx) (st:Sw) (t:TS):Prop :=
 ∀ (pins:List (N2×Obj)) (s:NT) (σ:St) (H:Hp) (D:Ends),Inv X pins σ H s->t D σ H->wpAny (Oi X.prog X.w) X.A (exec st X.env) (SP X pins D) X.xe s
noncomputable def PSs (X:Cx) (st:List Sw) (t:TS):Prop :=
 ∀ (pins:List (N2×Obj)) (s:NT) (σ:St) (H:Hp) (D:Ends),Inv X pins σ H s->t D σ H->wpAny (Oi X.prog X.w) X.A (execs st X.env) (SP X pins D) X.xe s
theorem thn {α:Type}{t:Sem α}{Q Q':α->NT->Prop}{M:Model}{A:ON}{E:NS->NT->Prop}{s:NT} (h:wpAny M A t Q E s) (hQ:∀ a s,Q a s->Q' a s):wpAny M A t Q' E s:=P0 h hQ fun _ _ x=>x
end L2
namespace L2
open PySem PySem.Spec PyProof.Rows
section
variable {X:Cx}
theorem bin {a b:QF}{ta tb:TE} (ha:PE X a ta) (hb:PE X b tb) {pins:List (N2×Obj)}{s:NT}{σ:St}{H:Hp}{R:V->V->Hp->Prop} (I:Inv X pins σ H s) (h:ta σ H fun x H1=>tb σ H1 fun y H2=>R x y H2)
 {α:Type}{Q:α->NT->Prop}{f:NS->NS->Sem α}
 (hf:∀ v u s2 x y H2,Inv X pins σ H2 s2->RelV x v->RelV y u->R x y H2->wpAny (Oi X.prog X.w) X.A (f v u) Q X.xe s2) :
 wpAny (Oi X.prog X.w) X.A (eval a X.env) (fun v s₁=>wpAny (Oi X.prog X.w) X.A (eval b X.env) (fun u s₂=>wpAny (Oi X.prog X.w) X.A (f v u) Q X.xe s₂) X.xe s₁) X.xe s:=by
 refine thn (ha pins s σ H _ I h) fun v s1 zq=>?_
 obtain ⟨x,H1,I1,r1,q1⟩:=zq
 refine thn (hb pins s1 σ H1 _ I1 q1) fun u s2 zq=>?_
 obtain ⟨y,H2,I2,r2,q2⟩:=zq
 exact hf v u s2 x y H2 I2 r1 r2 q2
noncomputable def Lj (i:Nat):TE:=fun σ H Q=>∃ v,σ[i]?=some (some v)/\Q v H
noncomputable def tC (v:V):TE:=fun _ H Q=>Q v H
theorem Ec {i:Nat}{x:Str}{pos:Pos} (hN:X.N[i]?=some x) (hv:Vis X.env.scope x) (hd:(x==("__debug__":Str))=false:=by decide) (hcd:(x==("__classdict__":Str))=false:=by decide):PE X (.Name x pos) (Lj i):=by
 intro pins s σ H Q I h
 obtain ⟨v,e,h⟩:=h
 obtain ⟨m,hn,hl⟩:=I.loc
 obtain ⟨u,r,l⟩:=hl i x v hN e hv
 have fin:EP X pins σ Q u s:=⟨v,H,I,r,h⟩
 rcases l with ⟨hk,hm⟩ | ⟨hk,c,hc,hcell⟩
 ·exact wpAny_Name (wpAny_loadName_local I.ok.kind hk hn hm fin) hd
 ·rcases hk with hk | hk
  ·exact wpAny_Name (wpAny_loadName_cell I.ok.kind hk hc hcell fin) hd
  ·exact wpAny_Name (wpAny_loadName_free I.ok.kind hk hc hcell fin hcd) hd
theorem oW {i j pos}:PE X (.Constant (.int i) j pos) (tC (.int i)):=fun _ _ _ H _ I h=>wpAny_Constant_int ⟨.int i,H,I.tok _,⟨_,rfl⟩,h⟩
theorem HA {b j pos}:PE X (.Constant (.bool b) j pos) (tC (.bl b)):=fun _ _ _ H _ I h=>Constant_bool ⟨.bl b,H,I,rfl,h⟩
theorem Ed {j pos}:PE X (.Constant .none j pos) (tC .non):=fun _ _ _ H _ I h=>Constant_none ⟨.non,H,I,rfl,h⟩
theorem Ef {x j pos}:PE X (.Constant (.str x) j pos) (tC (.str x)):=fun _ _ _ H _ I h=>Calls.Constant_str ⟨.str x,H,I.tok _,⟨_,rfl⟩,h⟩
noncomputable def Gl (X:Cx) (x:Str):Prop:=X.env.kindOf x=some .globalImplicit
theorem jF {E:NS->NT->Prop}{pins:List (N2×Obj)}{s:NT}{σ:St}{H:Hp}{x:Str}{u:NS}{pos:Pos}{Q:NS->NT->Prop} (I:Inv X pins σ H s) (hg:Gl X x) (hm:X.mg x=some u) (h:Q u s)
 (hd:(x==("__debug__":Str))=false:=by decide):wpAny (Oi X.prog X.w) X.A (eval (.Name x pos) X.env) Q E s :=
 SG I.ok.kind hg (Calls.loadGlobal_global (by rw[I.ok.glob];exact I.mod.glob.keeps I.bk) hm h) hd
theorem jq {E:NS->NT->Prop}{pins:List (N2×Obj)}{s:NT}{σ:St}{H:Hp}{x:Str}{u:NS}{pos:Pos}{Q:NS->NT->Prop} (I:Inv X pins σ H s) (hg:Gl X x) (hm:X.mg x=none) (hv:Q4 x=some u) (h:Q u s)
 (hn:x≠"__name__":=by decide) (hd:(x==("__debug__":Str))=false:=by decide):wpAny (Oi X.prog X.w) X.A (eval (.Name x pos) X.env) Q E s:=by
 obtain ⟨mb,h1,h2⟩:=I.mod.blt
 exact SG I.ok.kind hg (Calls.loadGlobal_builtin (by rw[I.ok.glob];exact I.mod.glob.keeps I.bk) hm (by rw[I.ok.blt];exact h1.keeps I.bk) ((h2 x hn).trans hv) h) hd
theorem uw {x:Str}{v:V}{u:NS}{pos:Pos} (hg:Gl X x) (hm:X.mg x=some u) (r:RelV v u) (hd:(x==("__debug__":Str))=false:=by decide):PE X (.Name x pos) (tC v) :=
 fun _ _ _ H _ I h=>jF I hg hm ⟨v,H,I,r,h⟩ hd
theorem jG {x:Str}{v:V}{u:NS}{pos:Pos} (hg:Gl X x) (hm:X.mg x=none) (hv:Q4 x=some u) (r:RelV v u) (hn:x≠"__name__":=by decide) (hd:(x==("__debug__":Str))=false:=by decide):PE X (.Name x pos) (tC v) :=
 fun _ _ _ H _ I h=>jq I hg hm hv ⟨v,H,I,r,h⟩ hn hd
variable {a b:QF}{ta tb:TE}{pos:Pos}
noncomputable def tB (t:TE):TT:=fun σ H Q=>t σ H fun x H1=>∃ c,x=.bl c/\Q c H1
theorem Eg {e:QF}{t:TE} (h:PE X e t) (he:∀ whole,isTrue e X.env whole=(do let v ← whole;TF e.pos;Ro [v] (truthy v)):=by intro _;rfl):PT X e (tB t):=by
 intro pins s σ H Q I hw
 refine isTrue_plain (thn (h pins s σ H _ I hw) fun v s1 ⟨x,H1,I1,r1,q1⟩=>?_) (he _)
 obtain ⟨d,rfl,q⟩:=q1
 cases r1
 exact O3 ⟨H1,I1,q⟩
variable {tA tB':TT}{rest:List QF}
noncomputable def HB (t u:TT):TT:=fun σ H Q=>t σ H fun c H1=>if c=true then u σ H1 Q else Q false H1
noncomputable def tOr (t u:TT):TT:=fun σ H Q=>t σ H fun c H1=>if c=true then Q true H1 else u σ H1 Q
noncomputable def HC (t:TT):TT:=fun σ H Q=>t σ H fun c H1=>Q (!c) H1
theorem AV (ha:PT X a tA):PW X (.BoolOp .And [a] pos) tA:=by
 intro wh pins s σ H Q I h
 refine isTrue_and (thn (ha pins s σ H Q I h) fun c s1 e=>?_)
 cases c with
 | true=>exact isTrue_and_nil e
 | false=>exact e
theorem Eh (ha:PT X a tA):PW X (.BoolOp .Or [a] pos) tA:=by
 intro wh pins s σ H Q I h
 refine isTrue_or (thn (ha pins s σ H Q I h) fun c s1 e=>?_)
 cases c with
 | false=>exact isTrue_or_nil e
 | true=>exact e
theorem xH (ha:PT X a tA) (hb:PW X (.BoolOp .And (b :: rest) pos) tB'):PW X (.BoolOp .And (a :: b :: rest) pos) (HB tA tB'):=by
 intro wh pins s σ H Q I h
 refine isTrue_and (thn (ha pins s σ H _ I h) fun c s1 zq=>?_)
 obtain ⟨H1,I1,q1⟩:=zq
 cases c with
 | true=>exact hb wh pins s1 σ H1 Q I1 q1
 | false=>exact ⟨H1,I1,q1⟩
theorem DB (ha:PT X a tA) (hb:PW X (.BoolOp .Or (b :: rest) pos) tB'):PW X (.BoolOp .Or (a :: b :: rest) pos) (tOr tA tB'):=by
 intro wh pins s σ H Q I h
 refine isTrue_or (thn (ha pins s σ H _ I h) fun c s1 zq=>?_)
 obtain ⟨H1,I1,q1⟩:=zq
 cases c with
 | true=>exact ⟨H1,I1,q1⟩
 | false=>exact hb wh pins s1 σ H1 Q I1 q1
theorem Ei (ha:PT X a tA):PT X (.UnaryOp .Not a pos) (HC tA):=by
 intro pins s σ H Q I h
 exact isTrue_not (thn (ha pins s σ H (fun c H1=>Q (!c) H1) I h) fun c s' z=>by obtain ⟨H1,I1,q⟩:=z;exact ⟨H1,I1,q⟩)
noncomputable def DC (ta tb:TE):TE:=fun σ H Q=>ta σ H fun x H1=>∃ c,x=.bl c/\if c=true then tb σ H1 Q else Q (.bl false) H1
noncomputable def HD (ta tb:TE):TE:=fun σ H Q=>ta σ H fun x H1=>∃ c,x=.bl c/\if c=true then Q (.bl true) H1 else tb σ H1 Q
noncomputable def DE (ta:TE):TE:=fun σ H Q=>ta σ H fun x H1=>∃ c,x=.bl c/\Q (.bl (!c)) H1
theorem xJ {op}{t:TE} (h:PE X a t):PE X (.BoolOp op [a] pos) t:=fun pins s σ H Q I hw=>BoolOp_one (h pins s σ H Q I hw)
theorem xK (ha:PE X a ta) (hb:PE X (.BoolOp .And (b :: rest) pos) tb):PE X (.BoolOp .And (a :: b :: rest) pos) (DC ta tb):=by
 intro pins s σ H Q I h
 refine BoolOp_and (thn (ha pins s σ H _ I h) fun v s1 zq=>?_)
 obtain ⟨x,H1,I1,r1,q1⟩:=zq
 obtain ⟨c,rfl,q1⟩:=q1
 cases r1
 refine O3 ?_
 cases c with
 | true=>exact hb pins s1 σ H1 Q I1 q1
 | false=>exact ⟨.bl false,H1,I1,rfl,q1⟩
theorem DF (ha:PE X a ta) (hb:PE X (.BoolOp .Or (b :: rest) pos) tb):PE X (.BoolOp .Or (a :: b :: rest) pos) (HD ta tb):=by
 intro pins s σ H Q I h
 refine BoolOp_or (thn (ha pins s σ H _ I h) fun v s1 zq=>?_)
 obtain ⟨x,H1,I1,r1,q1⟩:=zq
 obtain ⟨c,rfl,q1⟩:=q1
 cases r1
 refine O3 ?_
 cases c with
 | false=>exact hb pins s1 σ H1 Q I1 q1
 | true=>exact ⟨.bl true,H1,I1,rfl,q1⟩
theorem Ej (ha:PE X a ta):PE X (.UnaryOp .Not a pos) (DE ta):=by
 intro pins s σ H Q I h
 refine UnaryOp_ (thn (ha pins s σ H _ I h) fun v s1 zq=>?_)
 obtain ⟨x,H1,I1,r1,q1⟩:=zq
 obtain ⟨c,rfl,q1⟩:=q1
 cases r1
 exact not_of (O3 ⟨.bl (!c),H1,I1,rfl,q1⟩)
noncomputable def tIf (t:TT) (ta tb:TE):TE:=fun σ H Q=>t σ H fun c H1=>if c=true then ta σ H1 Q else tb σ H1 Q
theorem xM {c:QF} (hc:PT X c tA) (ha:PE X a ta) (hb:PE X b tb):PE X (.IfExp c a b pos) (tIf tA ta tb):=by
 intro pins s σ H Q I h
 refine wpAny_IfExp (thn (hc pins s σ H _ I h) fun d s1 zq=>?_)
 obtain ⟨H1,I1,q1⟩:=zq
 cases d with
 | true=>exact ha pins s1 σ H1 Q I1 q1
 | false=>exact hb pins s1 σ H1 Q I1 q1
end
end L2
namespace L2
open PySem PySem.Spec PyProof.Rows
noncomputable def SqL (K:NO) (H:Hp) (a:N2) (xs:List V):Prop :=
 Rd H a (.lst xs) ∨
  ∃ (o:Obj) (its:Array NS) (n:Nat),K.lookup a=some o/\o.cls=.type "list"/\o.dict=none/\o.data=.seq its n/\its.size<=sizeLine/\cX xs its.toList
noncomputable def SqT (K:NO) (H:Hp) (a:N2) (xs:List V):Prop :=
 Rd H a (.tup xs) ∨
  ∃ (o:Obj) (its:Array NS) (n:Nat),K.lookup a=some o/\o.cls=.type "tuple"/\o.data=.seq its n/\its.size<=sizeLine/\cX xs its.toList
noncomputable def Lk:NS->Option V
 | .none=>some .non
 | .bool b=>some (.bl b)
 | .int i _=>some (.int i)
 | .str x _=>some (.str x)
 | .bytes b _=>some (.byt b)
 | .float b _=>some (.flt b)
 | .ref a=>some (.ref a)
 | .type n=>some (.ty n)
 | _=>none
theorem RelV.abs {x:V}{u:NS} (r:RelV x u):Lk u=some x:=by
 cases x with
 | non=>cases r;rfl
 | bl _=>cases r;rfl
 | int _=>obtain ⟨t,rfl⟩:=r;rfl
 | str _=>obtain ⟨t,rfl⟩:=r;rfl
 | byt _=>obtain ⟨t,rfl⟩:=r;rfl
 | flt _=>obtain ⟨t,rfl⟩:=r;rfl
 | ref _=>cases r;rfl
 | ty _=>cases r;rfl
theorem RelV.inj {x y:V}{u:NS} (r:RelV x u) (q:RelV y u):x=y:=N4 (r.abs.symm.trans q.abs)
theorem cX.inj:∀ {xs ys:List V}{us:List NS},cX xs us->cX ys us->xs=ys
 | _,_,_,.nil,.nil=>rfl
 | _,_,_,.cons r t,.cons r' t'=>by rw[r.inj r',cX.inj t t']
section
variable {X:Cx}{pins:List (N2×Obj)}{σ:St}{H:Hp}{s:NT}{a:N2}{xs ys:List V}
theorem Inv.list (I:Inv X pins σ H s) (h:SqL X.K H a xs):∃ its:List NS,cX xs its/\PlainL s.heap a its.toArray/\xs.length<=sizeLine:=by
 rcases h with h | ⟨o,its,n,hk,hc,hd,hs,hz,r⟩
 ·obtain ⟨z,its,n,r,e⟩:=h.ok I.hok
  exact ⟨its,r,⟨_,n,e,rfl,rfl,rfl⟩,z⟩
 ·refine ⟨its.toList,r,⟨o,n,I.kIn a o hk,hc,hd,by simpa using hs⟩,?_⟩
  have e:=r.length
  simp only[Pr] at e
  lia
theorem Inv.tuple (I:Inv X pins σ H s) (h:SqT X.K H a xs):∃ its:List NS,cX xs its/\IsTup s.heap a its.toArray/\xs.length<=sizeLine:=by
 rcases h with h | ⟨o,its,n,hk,hc,hs,hz,r⟩
 ·obtain ⟨z,its,r,p⟩:=h.ok I.hok
  exact ⟨its,r,p,z⟩
 ·refine ⟨its.toList,r,⟨o,I.kIn a o hk,hc,n,by simpa using hs⟩,?_⟩
  have e:=r.length
  simp only[Pr] at e
  lia
theorem Inv.lV (I:Inv X pins σ H s) (h:SqL X.K H a xs) (h':SqL X.K H a ys):xs=ys:=by
 obtain ⟨its,r,⟨o,n,e,_,_,d⟩,_⟩:=I.list h
 obtain ⟨its',r',⟨o',n',e',_,_,d'⟩,_⟩:=I.list h'
 rw[e] at e';cases e'
 rw[d] at d'
 injection d' with d1 _
 have:its=its':=by simpa using congrArg Array.toList d1
 subst this
 exact r.inj r'
theorem Inv.nV (I:Inv X pins σ H s) (h:SqT X.K H a xs) (h':SqT X.K H a ys):xs=ys:=by
 obtain ⟨its,r,⟨o,e,_,n,d⟩,_⟩:=I.tuple h
 obtain ⟨its',r',⟨o',e',_,n',d'⟩,_⟩:=I.tuple h'
 rw[e] at e';cases e'
 rw[d] at d'
 injection d' with d1 _
 have:its=its':=by simpa using congrArg Array.toList d1
 subst this
 exact r.inj r'
end
noncomputable abbrev Cx.nB (X:Cx) (E:NS->NT->Prop):Cx:={ X with xe:=E }
noncomputable abbrev Cx.nox (X:Cx):Cx:=X.nB fun _ _=>False
theorem Cx.Ok.nB {X:Cx} (ok:X.Ok) (E:NS->NT->Prop):(X.nB E).Ok :=
 ⟨ok.mod,ok.kind,ok.glob,ok.blt,ok.above,ok.inj,ok.has,ok.cab,ok.hd,ok.frames,ok.stk,ok.exf,ok.bs,ok.bsz,ok.noex,ok.exfs,ok.jE,ok.frf⟩
theorem Cx.Ok.iI {X:Cx}{E:NS->NT->Prop} (ok:(X.nB E).Ok):X.Ok :=
 ⟨ok.mod,ok.kind,ok.glob,ok.blt,ok.above,ok.inj,ok.has,ok.cab,ok.hd,ok.frames,ok.stk,ok.exf,ok.bs,ok.bsz,ok.noex,ok.exfs,ok.jE,ok.frf⟩
section
variable {X:Cx}{pins:List (N2×Obj)}{σ:St}{H:Hp}{s:NT}{E:NS->NT->Prop}
theorem Inv.nB (I:Inv X pins σ H s) (E:NS->NT->Prop):Inv (X.nB E) pins σ H s:=⟨I.ok.nB E,I.os,I.bare,I.base,I.loc,I.cell,I.free,I.freeC,I.pin,I.hok,I.len⟩
theorem Inv.iI (I:Inv (X.nB E) pins σ H s):Inv X pins σ H s:=⟨I.ok.iI,I.os,I.bare,I.base,I.loc,I.cell,I.free,I.freeC,I.pin,I.hok,I.len⟩
theorem SP.iI {D:Ends}{f:Flow}{s':NT} (h:SP (X.nB E) pins D f s'):SP X pins D f s':=by
 cases f with
 | next=>obtain ⟨σ',H',I,q⟩:=h;exact ⟨σ',H',I.iI,q⟩
 | brk=>obtain ⟨σ',H',I,q⟩:=h;exact ⟨σ',H',I.iI,q⟩
 | cont=>obtain ⟨σ',H',I,q⟩:=h;exact ⟨σ',H',I.iI,q⟩
 | ret u=>obtain ⟨v,σ',H',I,r,q⟩:=h;exact ⟨v,σ',H',I.iI,r,q⟩
theorem PSs.nox {st:List Sw}{t:TS} (h:PSs X.nox st t):PSs X st t:=fun pins s σ H D I hw =>
 P0 (h pins s σ H D (I.nB _) hw) (fun _ _ q=>q.iI) fun _ _ z=>O6 z
end
section
variable {X:Cx}{st:Sw}{rest:List Sw}{t u:TS}{e:QF}{te:TE}{pos:Pos}
noncomputable def HE:TS:=fun D σ H=>D.nx σ H
noncomputable def HF (t u:TS):TS:=fun D σ H=>t { D with nx:=u D } σ H
theorem AW:PSs X [] HE:=fun _ _ σ H _ I h=>RI ⟨σ,H,I,h⟩
theorem qI (h1:PS X st t) (h2:PSs X rest u):PSs X (st :: rest) (HF t u):=by
 intro pins s σ H D I h
 refine wpAny_execs_cons (thn (h1 pins s σ H { D with nx:=u D } I h) fun f s1 q=>?_)
 cases f with
 | next =>
  obtain ⟨σ',H',I',q⟩:=q
  exact h2 pins s1 σ' H' D I' q
 | ret v=>exact q
 | brk=>exact q
 | cont=>exact q
theorem ux (h1:PS X st t):PSs X [st] t:=by
 intro pins s σ H D I h
 refine wpAny_execs_cons (thn (h1 pins s σ H D I h) fun f s1 q=>?_)
 cases f with
 | next=>exact RI q
 | ret v=>exact q
 | brk=>exact q
 | cont=>exact q
noncomputable def Ek:TS:=fun D σ H=>D.bk σ H
noncomputable def HG:TS:=fun D σ H=>D.ct σ H
theorem xN:PS X (.Break pos) Ek:=fun _ _ σ H _ I h=>wpAny_Break ⟨σ,H,I,h⟩
theorem qJ:PS X (.Continue pos) HG:=fun _ _ σ H _ I h=>wpAny_Continue ⟨σ,H,I,h⟩
theorem Inv.quiet {pins:List (N2×Obj)}{σ:St}{H:Hp}{s:NT} (I:Inv X pins σ H s):interactive X.env=false:=by simp[interactive,I.ok.kind]
noncomputable def HJ (te:TE):TS:=fun D σ H=>te σ H fun _ H1=>D.nx σ H1
theorem AX (he:PE X e te) (hs:QT e none pos.line X.env=pure false:=by rfl):PS X (.Expr e pos) (HJ te):=by
 intro pins s σ H D I h
 exact wpAny_Expr_any (thn (he pins s σ H _ I h) fun v s1 ⟨x,H1,I1,r1,q1⟩=>⟨σ,H1,I1,q1⟩) I.quiet hs
noncomputable def Ll (te:TE):TS:=fun D σ H=>te σ H D.rt
theorem El (he:PE X e te):PS X (.Return (some e) pos) (Ll te):=by
 intro pins s σ H D I h
 exact wpAny_Return_some (thn (he pins s σ H _ I h) fun v s1 ⟨x,H1,I1,r1,q1⟩=>⟨x,σ,H1,I1,r1,q1⟩)
noncomputable def Lm (c:TT) (t u:TS):TS:=fun D σ H=>c σ H fun b H1=>if b=true then t D σ H1 else u D σ H1
theorem HK {c:QF}{a b:List Sw}{tc:TT} (hc:PT X c tc) (ha:PSs X a t) (hb:PSs X b u):PS X (.If c a b pos) (Lm tc t u):=by
 intro pins s σ H D I h
 refine wpAny_If (thn (hc pins s σ H _ I h) fun d s1 zq=>?_)
 obtain ⟨H1,I1,q1⟩:=zq
 cases d with
 | true=>exact ha pins s1 σ H1 D I1 q1
 | false=>exact hb pins s1 σ H1 D I1 q1
end
noncomputable abbrev TG:=V->St->Hp->(St->Hp->Prop)->Prop
noncomputable abbrev TGs:=List V->St->Hp->(St->Hp->Prop)->Prop
noncomputable def PG (X:Cx) (target:QF) (t:TG):Prop :=
 ∀ (pins:List (N2×Obj)) (s:NT) (σ:St) (H:Hp) (v:V) (u:NS) (Q:St->Hp->Prop),Inv X pins σ H s->RelV v u->t v σ H Q →
  wpAny (Oi X.prog X.w) X.A (SZ target X.env u) (fun _ s'=>∃ σ' H',Inv X pins σ' H' s'/\Q σ' H') X.xe s
noncomputable def PGs (X:Cx) (ts:List QF) (t:TGs):Prop :=
 ∀ (pins:List (N2×Obj)) (s:NT) (σ:St) (H:Hp) (vs:List V) (us:List NS) (Q:St->Hp->Prop),Inv X pins σ H s->cX vs us->t vs σ H Q →
  wpAny (Oi X.prog X.w) X.A (assignInOrder ((P4 ts X.env).map (·.2)) us) (fun _ s'=>∃ σ' H',Inv X pins σ' H' s'/\Q σ' H') X.xe s
noncomputable abbrev Em:=V->V->V->Hp->(Hp->Prop)->Prop
noncomputable def HL (X:Cx) (t:Em):Prop :=
 ∀ (pins:List (N2×Obj)) (s:NT) (σ:St) (H:Hp) (o i v:V) (ov iv u:NS) (Q:Hp->Prop),Inv X pins σ H s->RelV o ov->RelV i iv->RelV v u->t o i v H Q →
  wpAny (Oi X.prog X.w) X.A (setItem ov iv u) (fun _ s'=>∃ H',Inv X pins σ H' s'/\Q H') X.xe s
noncomputable abbrev TIp:=V->V->Hp->VK->Prop
noncomputable def PIp (X:Cx) (op:Q5) (t:TIp):Prop :=
 ∀ (pins:List (N2×Obj)) (s:NT) (σ:St) (H:Hp) (x y:V) (v u:NS) (Q:VK),Inv X pins σ H s->RelV x v->RelV y u->t x y H Q →
  wpAny (Oi X.prog X.w) X.A (inplaceOp op v u) (EP X pins σ Q) X.xe s
section
variable {X:Cx}{pos:Pos}
noncomputable def uy (i:Nat):TG:=fun v σ H Q=>Q (σ.set i (some v)) H
theorem uz {i:Nat}{x:Str} (hN:X.N.Nodup) (hi:X.N[i]?=some x) (hx:Loc X.env.scope x) (hf:X.fn x=true\/X.env.scope.names.lookup x=some .local:=by first | exact .inl rfl | exact .inr rfl | assumption):PG X (.Name x pos) (uy i):=by
 intro pins s σ H v u Q I r h
 exact wpAny_assign_Name (lU I hN hi hx r (fun s' I'=>⟨_,H,I',h⟩) hf)
noncomputable def HM:TGs:=fun vs σ H Q=>vs=[]/\Q σ H
noncomputable def HN (t:TG) (u:TGs):TGs:=fun vs σ H Q=>∃ v r,vs=v :: r/\t v σ H fun σ' H'=>u r σ' H' Q
theorem AY:PGs X [] HM:=by
 intro pins s σ H vs us Q I r h
 obtain ⟨e,h⟩:=h
 subst e
 cases r
 exact assignInOrder_nil ⟨σ,H,I,h⟩
theorem xO {e:QF}{es:List QF}{t:TG}{u:TGs} (h1:PG X e t) (h2:PGs X es u)
 (hs:(P4 (e :: es) X.env).map (·.2)=SZ e X.env :: (P4 es X.env).map (·.2):=by rfl):PGs X (e :: es) (HN t u):=by
 intro pins s σ H vs us Q I r h
 obtain ⟨v,vr,e1,h⟩:=h
 subst e1
 cases r with
 | cons r rr =>
  rw[hs]
  refine assignInOrder_cons (thn (h1 pins s σ H _ _ _ I r h) fun _ s1 zq=>?_)
  obtain ⟨σ1,H1,I1,q1⟩:=zq
  exact h2 pins s1 σ1 H1 _ _ Q I1 rr q1
noncomputable def Ln (K:NO) (n:Nat) (t:TGs):TG:=fun v σ H Q=>∃ a xs,v=.ref a/\SqT K H a xs/\xs.length=n/\t xs σ H Q
theorem En {es:List QF}{k:Nat}{t:TGs}{n:Nat} (hc:X.calm=true) (h:PGs X es t)
 (hn:(P4 es X.env).length=n:=by rfl) (hst:(P4 es X.env).findIdx? (·.1)=none:=by rfl):PG X (.Tuple es k pos) (Ln X.K n t):=by
 intro pins s σ H v u Q I r hw
 obtain ⟨a,xs,e1,hq,hl,hw⟩:=hw
 subst e1
 cases r
 obtain ⟨its,rv,ht,hz⟩:=I.tuple hq
 refine assign_Tuple_tuple (I.ok.hd hc) ht (by simp[hn,← hl,rv.length]) hst fun h' hx=>?_
 have I1:Inv X pins σ H { s with heap:=h' }:=I.kept (t':=s.toks) fun b o e=>hx b o (Oh (N3 e)) e
 exact h pins _ σ H xs _ Q I1 (by simpa using rv) hw
noncomputable def HP (to ti:TE) (t:Em):TG:=fun v σ H Q=>to σ H fun o H1=>ti σ H1 fun i H2=>t o i v H2 fun H3=>Q σ H3
theorem Eo {o i:QF}{to ti:TE}{t:Em} (ho:PE X o to) (hi:PE X i ti) (hs:HL X t)
 (ha:∀ v,SZ (.Subscript o i pos) X.env v=(do
  let ov ← Ro [v] (eval o X.env)
  let iv ← Ro [v,ov] (eval i X.env)
  TF pos
  Ro [v,ov,iv] (setItem ov iv v)
  release [v,ov,iv] []):=by intro _;rfl):PG X (.Subscript o i pos) (HP to ti t):=by
 intro pins s σ H v u Q I r h
 rw[ha]
 refine NP (Qp (thn (ho pins s σ H _ I h) fun ov s1 zq=>?_))
 obtain ⟨x,H1,I1,r1,q1⟩:=zq
 refine NP (Qp (thn (hi pins s1 σ H1 _ I1 q1) fun iv s2 zq=>?_))
 obtain ⟨y,H2,I2,r2,q2⟩:=zq
 refine NP (Sk (NP (Qp (thn (hs pins s2 σ H2 x y v ov iv u _ I2 r1 r2 r q2) fun _ s3 zq=>?_))))
 obtain ⟨H3,I3,q3⟩:=zq
 exact wpAny_release ⟨σ,H3,I3,q3⟩
noncomputable def xP (te:TE) (g:TG):TS:=fun D σ H=>te σ H fun x H1=>g x σ H1 D.nx
theorem xQ {tg e:QF}{te:TE}{g:TG} (he:PE X e te) (hg:PG X tg g) (hs:swapsWithSole [tg] e pos.line X.env=pure false:=by rfl) (hw:swappedStores [tg] e X.env=pure none:=by rfl)
 (h1:(P4 [tg] X.env).map (·.2)=[SZ tg X.env]:=by rfl):PS X (.Assign [tg] e pos) (xP te g):=by
 intro pins s σ H D I h
 refine wpAny_Assign_stores (thn (he pins s σ H _ I h) fun v s1 ⟨x,H1,I1,r1,q1⟩=>?_) hs hw
 rw[h1]
 exact thn (hg pins s1 σ H1 x v _ I1 r1 q1) fun _ s2 q=>q
theorem xR {i:Nat}{x:Str}{e:QF}{te:TE}{pos':Pos} (hN:X.N.Nodup) (hi:X.N[i]?=some x) (hx:Loc X.env.scope x) (he:PE X e te) (hs:QT e (some (.Name x pos')) pos.line X.env=pure false:=by rfl) (hf:X.fn x=true\/X.env.scope.names.lookup x=some .local:=by first | exact .inl rfl | exact .inr rfl | assumption) :
 PS X (.Assign [.Name x pos'] e pos) (xP te (uy i)):=by
 intro pins s σ H D I h
 refine wpAny_Assign_Name (thn (he pins s σ H _ I h) fun v s1 ⟨y,H1,I1,r1,q1⟩=>?_) hs
 exact lU I1 hN hi hx r1 (fun s2 I2=>⟨_,H1,I2,q1⟩) hf
noncomputable def HQ (i:Nat) (te:TE) (ti:TIp):TS:=fun D σ H=>∃ x,σ[i]?=some (some x)/\te σ H fun y H1=>ti x y H1 fun z H2=>D.nx (σ.set i (some z)) H2
theorem Ep {i:Nat}{x:Str}{e:QF}{te:TE}{op:Q5}{ti:TIp}{pos':Pos} (hN:X.N.Nodup) (hi:X.N[i]?=some x) (hx:Loc X.env.scope x) (he:PE X e te) (ho:PIp X op ti) (hf:X.fn x=true\/X.env.scope.names.lookup x=some .local:=by first | exact .inl rfl | exact .inr rfl | assumption) :
 PS X (.AugAssign (.Name x pos') op e pos) (HQ i te ti):=by
 intro pins s σ H D I h
 obtain ⟨v,e1,h⟩:=h
 obtain ⟨m,hn,hl⟩:=I.loc
 have vis:Vis X.env.scope x:=by rcases hx with k | k;exact .inl k;exact .inr (.inl k)
 obtain ⟨u,r,l⟩:=hl i x v hi e1 vis
 refine wpAny_AugAssign_Name ?_
 have go:wpAny (Oi X.prog X.w) X.A (eval e X.env) (fun w s₂=>wpAny (Oi X.prog X.w) X.A (inplaceOp op u w) (fun r s₃=>wpAny (Oi X.prog X.w) X.A (storeName X.env x r) (fun _=>SP X pins D .next) X.xe s₃) X.xe s₂) X.xe s:=by
  refine thn (he pins s σ H _ I h) fun w s1 zq=>?_
  obtain ⟨y,H1,I1,r1,q1⟩:=zq
  refine thn (ho pins s1 σ H1 v y u w _ I1 r r1 q1) fun z s2 zq=>?_
  obtain ⟨zv,H2,I2,r2,q2⟩:=zq
  exact lU I2 hN hi hx r2 (fun s3 I3=>⟨_,H2,I3,q2⟩) hf
 rcases l with ⟨hk,hm⟩ | ⟨hk,c,hc,hcell⟩
 ·exact wpAny_loadName_local I.ok.kind hk hn hm go
 ·rcases hk with hk | hk
  ·exact wpAny_loadName_cell I.ok.kind hk hc hcell go
  ·rcases hx with k | k
   ·have:X.env.scope.names.lookup x=some .free:=hk
    rw[k] at this;cases this
   ·have:X.env.scope.names.lookup x=some .free:=hk
    rw[k] at this;cases this
end
section
variable {X:Cx}{pos:Pos}
noncomputable def xS (c:TT) (tb:TS):TS:=fun D σ H=>∃ W:Nat->St->Hp->Prop,(∃ m,W m σ H)/\∀ m σ H,W m σ H →
 c σ H fun b H1=>if b=true then ∃ N:St->Hp->Prop,(∀ σ' H',N σ' H'->∃ m',m' < m/\W m' σ' H')/\tb { D with nx:=N,ct:=N,bk:=D.nx } σ H1 else D.nx σ H1
theorem xT {c:QF}{body:List Sw}{tc:TT}{tb:TS} (hp:PassesOwn (Oi X.prog X.w) X.A X.env X.xe) (hc:PT X c tc) (hb:PSs X body tb):PS X (.While c body [] pos) (xS tc tb):=by
 intro pins s σ H D I h
 obtain ⟨W,⟨m0,w0⟩,turn⟩:=h
 refine wpAny_While (codeAny_whileLoop (fun n s'=>∃ σ' H',Inv X pins σ' H' s'/\W n σ' H') ?_ m0 ⟨σ,H,I,w0⟩)
 rintro n s1 ⟨σ1,H1,I1,w1⟩
 refine PX hp (thn (hc pins s1 σ1 H1 _ I1 (turn n σ1 H1 w1)) fun b s2 zq=>?_)
 obtain ⟨H2,I2,q2⟩:=zq
 cases b with
 | true =>
  obtain ⟨N,hN,q2⟩:=q2
  rw[if_pos rfl]
  refine PX hp (thn (hb pins s2 σ1 H2 _ I2 q2) fun f s3 q3=>?_)
  cases f with
  | next =>
   obtain ⟨σ3,H3,I3,n3⟩:=q3
   obtain ⟨m',hm,w3⟩:=hN σ3 H3 n3
   exact ⟨m',hm,σ3,H3,I3,w3⟩
  | cont =>
   obtain ⟨σ3,H3,I3,n3⟩:=q3
   obtain ⟨m',hm,w3⟩:=hN σ3 H3 n3
   exact ⟨m',hm,σ3,H3,I3,w3⟩
  | brk=>exact q3
  | ret v=>exact q3
 | false =>
  rw[if_neg OG]
  exact RI ⟨σ1,H2,I2,q2⟩
end
structure It where
 go:Nat->Hp->Prop
 yld:Nat->Hp->V->Hp->Prop
 stop:Nat->Hp->Prop
noncomputable def nC (X:Cx) (pins:List (N2×Obj)) (H:Hp) (b:N2):Prop :=
 H b=none/\b≠X.env.locals/\b∉X.fs/\(b∈X.ex\/X.s₀.heap.objs.size<=b)/\(∀ x c,X.env.cells.lookup x=some c->c≠b)/\∀ p∈X.pn++pins,p.1≠b
theorem Inv.sj {X:Cx}{pins:List (N2×Obj)}{σ:St}{H H':Hp}{s:NT}{b:N2} (I:Inv X pins σ H s) (hb:s.heap.objs.size<=b) (hn:H' b=none):nC X pins H' b:=by
 refine ⟨hn,QM (Oj I.lt hb),I.Li hb,.inr (Om I.sz hb),fun x c e z=>?_,fun p hp z=>?_⟩
 ·obtain ⟨v,q⟩:=I.cell x c e
  exact absurd (Oj q.lt (by rw[z];exact hb)) (Pv _)
 ·exact absurd (Oj (N3 (I.pin p hp).1) (by rw[z];exact hb)) (Pv _)
structure Turn (P:Oc) (w:Oo) (K:NO) (tg:QF) (J:It) (fp:List N2) (it:N2) (tn:Nat->Heap->Prop):Prop where
 mem:it∈fp
 obj:∀ i h,tn i h->∀ b∈fp,∃ o,h.get? b=some o/\∀ v,o.data≠.cell v
 keep:∀ i h h',tn i h->(∀ b∈fp,∀ o,h.get? b=some o->h'.get? b=some o)->tn i h'
 item:∀ (X:Cx),X.prog=P->X.w=w->X.K=K->X.calm=true->∀ (i:Nat) (pins:List (N2×Obj)) (s:NT) (σ:St) (H:Hp) (E:NS->NT->Prop),Inv X pins σ H s->(∀ b∈fp,nC X pins H b)->tn i s.heap->J.go i H →
  wpAny (Oi P w) X.A (pyNext (.ref it)) (fun r s1=>∃ u,r=some u ∧
   wpAny (Oi P w) X.A (QU tg (.ref it) u) (fun _ s2=>∃ x H',Inv X pins σ H' s2/\RelV x u/\J.yld i H x H'/\tn (i+1) s2.heap/\∀ b∈fp,H' b=none) E s1) E s
 done:∀ (X:Cx),X.prog=P->X.w=w->X.K=K->X.calm=true->∀ (i:Nat) (pins:List (N2×Obj)) (s:NT) (σ:St) (H:Hp) (E:NS->NT->Prop),Inv X pins σ H s->(∀ b∈fp,nC X pins H b)->tn i s.heap->J.stop i H →
  wpAny (Oi P w) X.A (pyNext (.ref it)) (fun r s1=>r=none/\Inv X pins σ H s1) E s
 self:∀ (A:ON) (i:Nat) (s:NT) (Q:NS->NT->Prop) (E:NS->NT->Prop),tn i s.heap->Q (.ref it) s->wpAny (Oi P w) A (pyIter (.ref it)) Q E s
noncomputable abbrev TI:=St->Hp->(It->Hp->Prop)->Prop
noncomputable def PIE (X:Cx) (pins:List (N2×Obj)) (σ:St) (tg:QF) (R:It->Hp->Prop) (itv:NS) (s2:NT):Prop :=
 ∃ (it:N2) (fp:List N2) (tn:Nat->Heap->Prop) (J:It) (H':Hp),itv=.ref it/\Inv X pins σ H' s2/\Turn X.prog X.w X.K tg J fp it tn/\tn 0 s2.heap/\(∀ b∈fp,nC X pins H' b)/\R J H'
noncomputable def PI (X:Cx) (tg iter:QF) (wi:TI):Prop :=
 ∀ (pins:List (N2×Obj)) (s:NT) (σ:St) (H:Hp) (R:It->Hp->Prop),Inv X pins σ H s->wi σ H R →
  wpAny (Oi X.prog X.w) X.A (eval iter X.env) (fun v s1=>wpAny (Oi X.prog X.w) X.A (pyIter v) (PIE X pins σ tg R) X.xe s1) X.xe s
theorem nW {M:Model}{A:ON}{E:NS->NT->Prop}{s:NT}{tg:QF}{it:N2}{u:NS}{o:Obj}{n:String}{vs:Array NS}{Q:Unit->NT->Prop} (ho:s.heap.get? it=some o) (hc:o.cls=.type n) (hd:o.data=.fields vs)
 (hn:["enumerate","zip","dict_itemiterator","dict_reverseitemiterator","odict_iterator","itertools.zip_longest","itertools.pairwise"].contains n=false) (hQ:Q () s):wpAny M A (QU tg (.ref it) u) Q E s:=by
 unfold QU
 cases tg<;>first
  | exact wpAny_pure hQ
  | (cases u<;>first
   | exact wpAny_pure hQ
   | (refine NP (wpAny_load ho ?_)
      rw[hc,hd]
      show wpAny M A (if (["enumerate","zip","dict_itemiterator","dict_reverseitemiterator","odict_iterator","itertools.zip_longest","itertools.pairwise"].contains n&&vs[0]?==some (rawInt _))=true then _ else _) Q E s
      rw[if_neg (by intro h;rw[hn,Bool.false_and] at h;cases h)]
      exact wpAny_pure hQ))
noncomputable def Itl (K:NO) (a:N2):It :=
 ⟨fun i H=>∃ xs x,SqL K H a xs/\xs[i]?=some x,fun i H x H'=>H'=H/\∀ xs,SqL K H a xs->xs[i]?=some x,fun i H=>∃ xs,SqL K H a xs/\xs.length<=i⟩
noncomputable def Itt (K:NO) (a:N2):It :=
 ⟨fun i H=>∃ xs x,SqT K H a xs/\xs[i]?=some x,fun i H x H'=>H'=H/\∀ xs,SqT K H a xs->xs[i]?=some x,fun i H=>∃ xs,SqT K H a xs/\xs.length<=i⟩
noncomputable def Itr (lo:Int) (n:Nat):It:=⟨fun i _=>i < n,fun i H x H'=>H'=H/\x=.int (lo+i),fun i _=>n<=i⟩
theorem vZ {P:Oc}{w:Oo}{K:NO}{tg:QF} (a it:N2):Turn P w K tg (Itl K a) [it] it (fun i h=>h.IsListIter it a i) where
 mem:=by simp
 obj:=fun i h st b hb=>by
  have e:b=it:=by simpa using hb
  subst e
  obtain ⟨o,e,c,d⟩:=st
  exact ⟨o,e,fun v z=>by rw[d] at z;cases z⟩
 keep:=fun i h h' st k=>st.at fun o e=>k it (by simp) o e
 item:=by
  intro X hP hw hK hc i pins s σ H E I hf st hg
  subst hP hw hK
  obtain ⟨xs,x,hq,hx⟩:=hg
  obtain ⟨its,rv,p,hz⟩:=I.list hq
  obtain ⟨u,hu,ru⟩:=rv.get hx
  obtain ⟨f0,f1,f2,f3,f4,f5⟩:=hf it (by simp)
  refine wpAny_pyNext_list_item st p.isList (x:=u) (by simpa using hu) fun h' st' sb=>?_
  have I1:Inv X pins σ H { s with heap:=h' }:=I.turned (t':=s.toks) (fun b o hb e=>(sb.2 b hb).trans e) f0 f1 f3 f4 f5
  obtain ⟨o,e,c,d⟩:=id st'
  exact ⟨u,rfl,nW (s:={ s with heap:=h' }) e c d (by decide) ⟨x,H,I1,ru,⟨rfl,fun ys hy=>by rw[I.lV hy hq];exact hx⟩,st',fun b hb=>(hf b hb).1⟩⟩
 done:=by
  intro X hP hw hK hc i pins s σ H E I hf st hg
  subst hP hw hK
  obtain ⟨xs,hq,hx⟩:=hg
  obtain ⟨its,rv,p,hz⟩:=I.list hq
  obtain ⟨f0,f1,f2,f3,f4,f5⟩:=hf it (by simp)
  have hl:=rv.length
  exact wpAny_pyNext_list_end (I.ok.hd hc) st p.isList (by simp;lia) fun h' eb=>⟨rfl,I.turned (t':=s.toks) (fun b o hb e=>eb b o hb e) f0 f1 f3 f4 f5⟩
 self:=fun _ _ _ _ _ st h=>wpAny_pyIter_listiter st h
theorem su {P:Oc}{w:Oo}{K:NO}{tg:QF} (a it:N2):Turn P w K tg (Itt K a) [it] it (fun i h=>h.IsTupleIter it a i) where
 mem:=by simp
 obj:=fun i h st b hb=>by
  have e:b=it:=by simpa using hb
  subst e
  obtain ⟨o,e,c,d⟩:=st
  exact ⟨o,e,fun v z=>by rw[d] at z;cases z⟩
 keep:=fun i h h' st k=>st.at fun o e=>k it (by simp) o e
 item:=by
  intro X hP hw hK hc i pins s σ H E I hf st hg
  subst hP hw hK
  obtain ⟨xs,x,hq,hx⟩:=hg
  obtain ⟨its,rv,p,hz⟩:=I.tuple hq
  obtain ⟨u,hu,ru⟩:=rv.get hx
  obtain ⟨f0,f1,f2,f3,f4,f5⟩:=hf it (by simp)
  refine wpAny_pyNext_tuple_item st (show s.heap.IsTuple a its.toArray from p) (x:=u) (by simpa using hu) fun h' st' sb=>?_
  have I1:Inv X pins σ H { s with heap:=h' }:=I.turned (t':=s.toks) (fun b o hb e=>(sb.2 b hb).trans e) f0 f1 f3 f4 f5
  obtain ⟨o,e,c,d⟩:=id st'
  exact ⟨u,rfl,nW (s:={ s with heap:=h' }) e c d (by decide) ⟨x,H,I1,ru,⟨rfl,fun ys hy=>by rw[I.nV hy hq];exact hx⟩,st',fun b hb=>(hf b hb).1⟩⟩
 done:=by
  intro X hP hw hK hc i pins s σ H E I hf st hg
  subst hP hw hK
  obtain ⟨xs,hq,hx⟩:=hg
  obtain ⟨its,rv,p,hz⟩:=I.tuple hq
  obtain ⟨f0,f1,f2,f3,f4,f5⟩:=hf it (by simp)
  have hl:=rv.length
  exact wpAny_pyNext_tuple_end (I.ok.hd hc) st (show s.heap.IsTuple a its.toArray from p) (by simp;lia) fun h' eb=>⟨rfl,I.turned (t':=s.toks) (fun b o hb e=>eb b o hb e) f0 f1 f3 f4 f5⟩
 self:=fun _ _ _ _ _ st h=>wpAny_pyIter_tupleiter st h
theorem sA {P:Oc}{w:Oo}{K:NO}{tg:QF} (it:N2) (lo:Int) (n:Nat):Turn P w K tg (Itr lo n) [it] it (fun i h=>TU h it (lo+(i:Nat)*1) ((n:Int) - (i:Nat)) 1) where
 mem:=by simp
 obj:=fun i h st b hb=>by
  have e:b=it:=by simpa using hb
  subst e
  exact ⟨_,st,fun v z=>by
   have z':Data.fields _=Data.cell v:=z
   cases z'⟩
 keep:=fun i h h' st k=>k it (by simp) _ st
 item:=by
  intro X hP hw hK hc i pins s σ H E I hf st hg
  subst hP hw hK
  obtain ⟨f0,f1,f2,f3,f4,f5⟩:=hf it (by simp)
  have W:=Walks.range (prog:=X.prog) (w:=X.w) (I.ok.hd hc) it lo 1 n
  refine W.item i s _ _ hg st fun v h' tk hv st' kk=>?_
  obtain ⟨t,rfl⟩:=hv
  have I1:Inv X pins σ H { s with heap:=h',toks:=tk }:=I.turned (fun b o hb e=>kk b o (by simpa using hb) e) f0 f1 f3 f4 f5
  refine ⟨_,rfl,nW (s:={ s with heap:=h',toks:=tk }) (n:="range_iterator") st' rfl rfl (by decide) ⟨.int (lo+i),H,I1,⟨t,?_⟩,⟨rfl,rfl⟩,st',fun b hb=>(hf b hb).1⟩⟩
  rw[Int.mul_one]
 done:=by
  intro X hP hw hK hc i pins s σ H E I hf st hg
  subst hP hw hK
  obtain ⟨f0,f1,f2,f3,f4,f5⟩:=hf it (by simp)
  exact wpAny_pyNext_range_end (I.ok.hd hc) st (by have:n<=i:=hg;lia) fun h' eb=>⟨rfl,I.turned (t':=s.toks) (fun b o hb e=>eb b o hb e) f0 f1 f3 f4 f5⟩
 self:=fun _ _ _ _ _ st h=>wpAny_pyIter_rangeiter st h
end L2
namespace L2
open PySem PySem.Spec PyProof.Rows
section
variable {X:Cx}{tg:QF}
noncomputable def HR (K:NO) (tl:TE):TI:=fun σ H R=>tl σ H fun x H1=>∃ a,x=.ref a/\(∃ xs,SqL K H1 a xs)/\R (Itl K a) H1
noncomputable def Lo (K:NO) (tl:TE):TI:=fun σ H R=>tl σ H fun x H1=>∃ a,x=.ref a/\(∃ xs,SqT K H1 a xs)/\R (Itt K a) H1
theorem uA {l:QF}{tl:TE} (hl:PE X l tl):PI X tg l (HR X.K tl):=by
 intro pins s σ H R I h
 refine thn (hl pins s σ H _ I h) fun v s1 zq=>?_
 obtain ⟨x,H1,I1,r1,q1⟩:=zq
 obtain ⟨a,e,⟨xs,hq⟩,q⟩:=q1
 subst e
 cases r1
 obtain ⟨its,rv,p,hz⟩:=I1.list hq
 refine SI p.isList ?_
 refine ⟨s1.heap.objs.size,[s1.heap.objs.size],_,_,H1,rfl,I1.kept (t':=s1.toks) fun b o e=>NQ _ e,vZ a _,⟨_,N9 _ rfl,rfl,rfl⟩,fun b hb=>?_,q⟩
 have e:b=s1.heap.objs.size:=by simpa using hb
 subst e
 exact I1.sj (N1 _) (I1.hok.fresh (N1 _))
theorem Er {l:QF}{tl:TE} (hl:PE X l tl):PI X tg l (Lo X.K tl):=by
 intro pins s σ H R I h
 refine thn (hl pins s σ H _ I h) fun v s1 zq=>?_
 obtain ⟨x,H1,I1,r1,q1⟩:=zq
 obtain ⟨a,e,⟨xs,hq⟩,q⟩:=q1
 subst e
 cases r1
 obtain ⟨its,rv,p,hz⟩:=I1.tuple hq
 refine wpAny_pyIter_tuple (show s1.heap.IsTuple a its.toArray from p) ?_
 refine ⟨s1.heap.objs.size,[s1.heap.objs.size],_,_,H1,rfl,I1.kept (t':=s1.toks) fun b o e=>NQ _ e,su a _,⟨_,N9 _ rfl,rfl,rfl⟩,fun b hb=>?_,q⟩
 have e:b=s1.heap.objs.size:=by simpa using hb
 subst e
 exact I1.sj (N1 _) (I1.hok.fresh (N1 _))
theorem xU {pins:List (N2×Obj)}{σ:St}{H:Hp}{s:NT}{R:It->Hp->Prop}{E:NS->NT->Prop}{lo hi:Int}{t u v:Tok}{tk:Nat} (I:Inv X pins σ H s) (h1:-(2 ^ 62)<=lo) (h2:lo < 2 ^ 62) (h3:-(2 ^ 62)<=hi) (h4:hi < 2 ^ 62)
 (q:R (Itr lo (hi - lo).toNat) H):wpAny (Oi X.prog X.w) X.A (pyIter (.ref s.heap.objs.size)) (PIE X pins σ tg R) E { s with heap:=s.heap.push { cls:=.type "range",data:=.fields #[.int lo t,.int hi u,.int 1 v] },toks:=tk }:=by
 refine wpAny_pyIter_range (IsRange.new ..) (small_one h1 h2 h3 h4) ?_
 have I1:Inv X pins σ H { s with heap:=s.heap.push { cls:=.type "range",data:=.fields #[.int lo t,.int hi u,.int 1 v] },toks:=tk }:=I.kept fun b o e=>NQ _ e
 refine ⟨(s.heap.push { cls:=.type "range",data:=.fields #[.int lo t,.int hi u,.int 1 v] }).objs.size,[(s.heap.push { cls:=.type "range",data:=.fields #[.int lo t,.int hi u,.int 1 v] }).objs.size],_,_,H,rfl,
  I1.kept (t':=tk) fun b o e=>NQ _ e,sA _ lo (hi - lo).toNat,?_,fun b hb=>?_,q⟩
 ·have e1:lo+((0:Nat):Int)*1=lo:=by simp
  have e2:(((hi - lo).toNat:Nat):Int) - ((0:Nat):Int)=RV lo hi 1:=by rw[rangeSize_one];split<;>lia
  show TU _ _ (lo+((0:Nat):Int)*1) ((((hi - lo).toNat:Nat):Int) - ((0:Nat):Int)) 1
  rw[e1,e2]
  exact N9 _ rfl
 ·have e:b=(s.heap.push { cls:=.type "range",data:=.fields #[.int lo t,.int hi u,.int 1 v] }).objs.size:=by simpa using hb
  subst e
  exact I1.sj (N1 _) (I1.hok.fresh (N1 _))
noncomputable def HS (ta:TA):TI:=fun σ H R=>ta σ H fun vs H1=>∃ j:Int,vs=[.int j]/\-(2 ^ 62)<=j/\j < 2 ^ 62/\R (Itr 0 j.toNat) H1
theorem v7 {a:QF}{ta:TA}{p pos:Pos} (hg:Gl X "range") (hm:X.mg "range"=none) (ha:PA X [a] ta) (hs:Ow [a] X.env=[(false,eval a X.env)]:=by rfl):PI X tg (.Call (.Name "range" p) [a] [] pos) (HS ta):=by
 intro pins s σ H R I h
 refine Call_ (jq I hg hm boot_range (O5 (thn (ha pos pins s σ H _ I h) fun us s1 ⟨vs,H1,I1,r1,q1⟩=>?_) hs rfl))
 obtain ⟨j,e,q1,q2,q⟩:=q1
 subst e
 cases r1 with
 | cons r rr =>
  cases rr
  obtain ⟨t,rfl⟩:=r
  exact call_range_1 (xU I1 (by lia) (by lia) q1 q2 (by simpa using q))
noncomputable def HU (wi:TI) (g:TG) (tb:TS):TS:=fun D σ H=>wi σ H fun J H1=>∃ W:Nat->Nat->St->Hp->Prop,(∃ m,W 0 m σ H1)/\∀ i m σ H,W i m σ H →
 (J.stop i H/\D.nx σ H)\/(J.go i H/\∃ N:St->Hp->Prop,(∀ σ' H',N σ' H'->∃ m',m' < m/\W (i+1) m' σ' H')/\∀ x H',J.yld i H x H'->g x σ H' fun σ2 H2=>tb { D with nx:=N,ct:=N,bk:=D.nx } σ2 H2)
noncomputable def kj (fp:List N2) (h:Heap):List (N2×Obj):=fp.filterMap fun b=>(h.get? b).map fun o=>(b,o)
theorem gM {fp:List N2}{h:Heap}{b:N2}{o:Obj} (hb:b∈fp) (e:h.get? b=some o):(b,o)∈kj fp h:=List.mem_filterMap.mpr ⟨b,hb,by rw[e];rfl⟩
theorem v8 {fp:List N2}{h:Heap}{p:N2×Obj} (hp:p∈kj fp h):p.1∈fp/\h.get? p.1=some p.2:=by
 obtain ⟨b,hb,e⟩:=List.mem_filterMap.mp hp
 cases q:h.get? b with
 | none=>rw[q] at e;cases e
 | some o =>
  rw[q] at e
  have e':(b,o)=p:=N4 e
  subst e'
  exact ⟨hb,q⟩
theorem Inv.pinned {pins:List (N2×Obj)}{σ:St}{H:Hp}{s:NT}{fp:List N2} (I:Inv X pins σ H s) (hf:∀ b∈fp,nC X pins H b) (ho:∀ b∈fp,∃ o,s.heap.get? b=some o/\∀ v,o.data≠.cell v):Inv X (pins++kj fp s.heap) σ H s :=
 I.lC fun p hp=>(List.mem_append.mp hp).elim (fun z=>I.pin p (Ou _ z)) fun z=>by
  obtain ⟨hb,e⟩:=v8 z
  obtain ⟨f0,f1,f2,_⟩:=hf p.1 hb
  obtain ⟨o,e',d⟩:=ho p.1 hb
  rw[e] at e';cases e'
  exact ⟨e,f0,f1,f2,d⟩
theorem Inv.jH {pins pl:List (N2×Obj)}{σ:St}{H:Hp}{s:NT} (I:Inv X (pins++pl) σ H s):Inv X pins σ H s:=I.lC fun p hp=>I.pin p (Ou _ (QE _ hp))
theorem Et {iter:QF}{body:List Sw}{wi:TI}{g:TG}{tb:TS}{pos:Pos} (hp:PassesOwn (Oi X.prog X.w) X.A X.env X.xe) (hc:X.calm=true) (hi:PI X tg iter wi) (hg:PG X tg g) (hb:PSs X body tb)
 (hs:∀ x,foldedSetIterable iter X.env x=pure x:=by intro _;rfl):PS X (.For tg iter body [] pos) (HU wi g tb):=by
 intro pins s σ H D I h
 refine wpAny_For (thn (hi pins s σ H _ I h) fun v s1 h1=>thn h1 fun itv s2 h2=>?_) hs
 obtain ⟨it,fp,tn,J,H2,e,I2,T,st2,f2,W,⟨m0,w0⟩,turn⟩:=h2
 subst e
 have stat:∀ {H':Hp},(∀ b∈fp,H' b=none)->∀ b∈fp,nC X pins H' b:=fun hn b hb=>⟨hn b hb,(f2 b hb).2⟩
 refine codeAny_forLoop_any (fun n s'=>∃ i σ' H',Inv X pins σ' H' s'/\tn i s'.heap/\(∀ b∈fp,H' b=none)/\W i n σ' H') ?_ m0 ⟨0,σ,H2,I2,st2,fun b hb=>(f2 b hb).1,w0⟩
 rintro n s3 ⟨i,σ3,H3,I3,st3,fr3,w3⟩
 rcases turn i n σ3 H3 w3 with ⟨stop,qn⟩ | ⟨go,N,hN,step⟩
 ·refine PX hp (thn (T.done X rfl rfl rfl hc i pins s3 σ3 H3 X.xe I3 (stat fr3) st3 stop) fun r s4 zq=>?_)
  obtain ⟨hr,I4⟩:=zq
  subst hr
  exact RI ⟨σ3,H3,I4,qn⟩
 ·refine PX hp (thn (T.item X rfl rfl rfl hc i pins s3 σ3 H3 X.xe I3 (stat fr3) st3 go) fun r s4 zq=>?_)
  obtain ⟨u,hr,h4⟩:=zq
  subst hr
  refine PX hp (thn h4 fun _ s5 zq=>?_)
  obtain ⟨x,H5,I5,r5,y5,st5,fr5⟩:=zq
  have I5':=I5.pinned (stat fr5) (T.obj _ _ st5)
  refine PX hp (thn (hg _ s5 σ3 H5 x u _ I5' r5 (step x H5 y5)) fun _ s6 zq=>?_)
  obtain ⟨σ6,H6,I6,q6⟩:=zq
  refine PX hp (thn (hb _ s6 σ6 H6 _ I6 q6) fun f s7 q7=>?_)
  have again:∀ {σ7:St}{H7:Hp},Inv X (pins++kj fp s5.heap) σ7 H7 s7->N σ7 H7->∃ m,m < n/\∃ i σ' H',Inv X pins σ' H' s7/\tn i s7.heap/\(∀ b∈fp,H' b=none)/\W i m σ' H':=fun {σ7 H7} I7 n7=>by
   obtain ⟨m',hm,w7⟩:=hN σ7 H7 n7
   refine ⟨m',hm,i+1,σ7,H7,I7.jH,T.keep _ _ _ st5 fun b hb o e=>(I7.pin (b,o) (Ou _ (Ou _ (gM hb e)))).1,fun b hb=>?_,w7⟩
   obtain ⟨o,e,d⟩:=T.obj _ _ st5 b hb
   exact (I7.pin (b,o) (Ou _ (Ou _ (gM hb e)))).2.1
  cases f with
  | next=>obtain ⟨σ7,H7,I7,n7⟩:=q7;exact again I7 n7
  | cont=>obtain ⟨σ7,H7,I7,n7⟩:=q7;exact again I7 n7
  | brk=>obtain ⟨σ7,H7,I7,q7⟩:=q7;exact ⟨σ7,H7,I7.jH,q7⟩
  | ret v=>obtain ⟨x7,σ7,H7,I7,r7,q7⟩:=q7;exact ⟨x7,σ7,H7,I7.jH,r7,q7⟩
end
end L2
namespace L2
open PySem PySem.Spec PyProof.Rows
noncomputable abbrev R2:=V->V->Hp->VK->Prop
noncomputable def OpR (X:Cx) (f:NS->NS->Sem NS) (r:R2):Prop :=
 ∀ (pins:List (N2×Obj)) (s:NT) (σ:St) (H:Hp) (x y:V) (v u:NS) (Q:VK),Inv X pins σ H s->RelV x v->RelV y u->r x y H Q →
  wpAny (Oi X.prog X.w) X.A (f v u) (EP X pins σ Q) X.xe s
noncomputable def UnR (X:Cx) (f:NS->Sem NS) (r:V->Hp->VK->Prop):Prop :=
 ∀ (pins:List (N2×Obj)) (s:NT) (σ:St) (H:Hp) (x:V) (v:NS) (Q:VK),Inv X pins σ H s->RelV x v->r x H Q →
  wpAny (Oi X.prog X.w) X.A (f v) (EP X pins σ Q) X.xe s
noncomputable def eH (X:Cx) (f:NS) (r:List V->Hp->VK->Prop):Prop :=
 ∀ (pins:List (N2×Obj)) (s:NT) (σ:St) (H:Hp) (xs:List V) (us:List NS) (Q:VK),Inv X pins σ H s->cX xs us->r xs H Q →
  wpAny (Oi X.prog X.w) X.A (call f us) (EP X pins σ Q) X.xe s
noncomputable def tOp (r:R2) (ta tb:TE):TE:=fun σ H Q=>ta σ H fun x H1=>tb σ H1 fun y H2=>r x y H2 Q
noncomputable def tUn (r:V->Hp->VK->Prop) (ta:TE):TE:=fun σ H Q=>ta σ H fun x H1=>r x H1 Q
noncomputable def rI (C:Int->Int->Prop) (g:Int->Int->V):R2:=fun x y H Q=>∃ i j,x=.int i/\y=.int j/\C i j/\Q (g i j) H
noncomputable def rI0 (g:Int->Int->V):R2:=fun x y H Q=>∃ i j,x=.int i/\y=.int j/\Q (g i j) H
noncomputable def rU (g:Int->V):V->Hp->VK->Prop:=fun x H Q=>∃ i,x=.int i/\Q (g i) H
section
variable {X:Cx}{a b c:QF}{ta tb tc:TE}{pos:Pos}
theorem Eu (ha:PE X a ta) (hb:PE X b tb) {pins:List (N2×Obj)}{s:NT}{σ:St}{H:Hp}{R:V->V->Hp->Prop} (I:Inv X pins σ H s)
 (h:ta σ H fun x H1=>tb σ H1 fun y H2=>R x y H2) {Q:NS->NT->Prop}{f:NS->NS->Sem NS}
 (hf:∀ v u s2 x y H2,Inv X pins σ H2 s2->RelV x v->RelV y u->R x y H2->wpAny (Oi X.prog X.w) X.A (f v u) Q X.xe s2) :
 wpAny (Oi X.prog X.w) X.A (eval a X.env) (fun v s₁=>wpAny (Oi X.prog X.w) X.A (eval b X.env) (fun u s₂=>wpAny (Oi X.prog X.w) X.A (f v u) Q X.xe s₂) X.xe s₁) X.xe s:=by
 refine thn (ha pins s σ H _ I h) fun v s1 zq=>?_
 obtain ⟨x,H1,I1,r1,q1⟩:=zq
 refine thn (hb pins s1 σ H1 _ I1 q1) fun u s2 zq=>?_
 obtain ⟨y,H2,I2,r2,q2⟩:=zq
 exact hf v u s2 x y H2 I2 r1 r2 q2
theorem HV {op:Q5}{r:R2} (ho:OpR X (Pc op) r) (ha:PE X a ta) (hb:PE X b tb):PE X (.BinOp a op b pos) (tOp r ta tb):=by
 intro pins s σ H Q I h
 exact wpAny_BinOp (Eu ha hb I h fun v u s2 x y H2 I2 rx ry q=>ho pins s2 σ H2 x y v u Q I2 rx ry q)
theorem xV {op:UnaryOp}{r:V->Hp->VK->Prop} (ho:UnR X (unaryOp op) r) (ha:PE X a ta):PE X (.UnaryOp op a pos) (tUn r ta):=by
 intro pins s σ H Q I h
 exact UnaryOp_ (thn (ha pins s σ H _ I h) fun v s1 ⟨x,H1,I1,r1,q1⟩=>ho pins s1 σ H1 x v Q I1 r1 q1)
theorem opI {f:NS->NS->Sem NS}{C:Int->Int->Prop}{g:Int->Int->Int}
 (rule:∀ (i j:Int) (t u:Tok) (s:NT) (Q:NS->NT->Prop) (E:NS->NT->Prop),C i j->Q (.int (g i j) s.toks) { s with toks:=s.toks+1 }->wpAny (Oi X.prog X.w) X.A (f (.int i t) (.int j u)) Q E s) :
 OpR X f (rI C fun i j=>.int (g i j)):=by
 intro pins s σ H x y v u Q I rx ry h
 obtain ⟨i,j,rfl,rfl,hc,q⟩:=h
 obtain ⟨t,rfl⟩:=rx
 obtain ⟨t',rfl⟩:=ry
 exact rule i j t t' s _ _ hc ⟨.int (g i j),H,I.tok _,⟨_,rfl⟩,q⟩
theorem HW {f:NS->NS->Sem NS}{g:Int->Int->Int}
 (rule:∀ (i j:Int) (t u:Tok) (s:NT) (Q:NS->NT->Prop) (E:NS->NT->Prop),Q (.int (g i j) s.toks) { s with toks:=s.toks+1 }->wpAny (Oi X.prog X.w) X.A (f (.int i t) (.int j u)) Q E s) :
 OpR X f (rI0 fun i j=>.int (g i j)):=by
 intro pins s σ H x y v u Q I rx ry h
 obtain ⟨i,j,rfl,rfl,q⟩:=h
 obtain ⟨t,rfl⟩:=rx
 obtain ⟨t',rfl⟩:=ry
 exact rule i j t t' s _ _ ⟨.int (g i j),H,I.tok _,⟨_,rfl⟩,q⟩
theorem AZ {f:NS->NS->Sem NS}{g:Int->Int->Bool}
 (rule:∀ (i j:Int) (t u:Tok) (s:NT) (Q:NS->NT->Prop) (E:NS->NT->Prop),Q (.bool (g i j)) s->wpAny (Oi X.prog X.w) X.A (f (.int i t) (.int j u)) Q E s) :
 OpR X f (rI0 fun i j=>.bl (g i j)):=by
 intro pins s σ H x y v u Q I rx ry h
 obtain ⟨i,j,rfl,rfl,q⟩:=h
 obtain ⟨t,rfl⟩:=rx
 obtain ⟨t',rfl⟩:=ry
 exact rule i j t t' s _ _ ⟨.bl (g i j),H,I,rfl,q⟩
noncomputable def Lp (i j:Int):Prop:=0 < j/\j < 1073741824
noncomputable def Lq (i j:Int):Prop:=0<=j/\j<=1000000/\i.natAbs < 2 ^ 64
noncomputable def A0 (i j:Int):Prop:=(-(2 ^ 64) < i/\i < 2 ^ 64)\/(-(2 ^ 64) < j/\j < 2 ^ 64)
theorem A0.ok {i j:Int} (h:A0 i j):IntMulOk i j:=by
 rcases h with ⟨h1,h2⟩ | ⟨h1,h2⟩
 ·exact .of_left (intBits_le_64 h1 h2)
 ·exact .of_right (intBits_le_64 h1 h2)
theorem Ew:OpR X (Pc .Add) (rI0 fun i j=>.int (i+j)):=HW fun _ _ _ _ _ _ _ q=>add_int q
theorem Ex:OpR X (Pc .Sub) (rI0 fun i j=>.int (i - j)):=HW fun _ _ _ _ _ _ _ q=>sub_int q
theorem Ey:OpR X (Pc .Mult) (rI A0 fun i j=>.int (i*j)):=opI fun _ _ _ _ _ _ _ hc q=>mul_int q hc.ok
theorem A1:OpR X (Pc .FloorDiv) (rI Lp fun i j=>.int (i / j)):=opI fun i j _ _ _ _ _ hc q=>by
 have h1:(0:Int) < j:=hc.1
 have h2:j < 1073741824:=hc.2
 exact floordiv_int (by lia) (by rw[Int.fdiv_eq_ediv_of_nonneg i (by lia)];exact q) (.inl (S9 (by lia)))
theorem Ez:OpR X (Pc .Mod) (rI (fun _ j=>0 < j) fun i j=>.int (i % j)):=opI fun i j _ _ _ _ _ hc q=>by
 have h1:(0:Int) < j:=hc
 exact mod_int' (by lia) (by rw[Int.fmod_eq_emod_of_nonneg i (by lia)];exact q)
theorem EA:OpR X (Pc .Pow) (rI Lq fun i j=>.int (i ^ j.toNat)):=opI fun _ _ _ _ _ _ _ hc q=>pow_int_small hc.1 hc.2.1 hc.2.2 q
theorem unI {f:NS->Sem NS}{g:Int->Int}
 (rule:∀ (i:Int) (t:Tok) (s:NT) (Q:NS->NT->Prop) (E:NS->NT->Prop),Q (.int (g i) s.toks) { s with toks:=s.toks+1 }->wpAny (Oi X.prog X.w) X.A (f (.int i t)) Q E s) :
 UnR X f (rU fun i=>.int (g i)):=by
 intro pins s σ H x v Q I rx h
 obtain ⟨i,rfl,q⟩:=h
 obtain ⟨t,rfl⟩:=rx
 exact rule i t s _ _ ⟨.int (g i),H,I.tok _,⟨_,rfl⟩,q⟩
theorem sC:UnR X (unaryOp .USub) (rU fun i=>.int (-i)):=unI fun _ _ _ _ _ q=>neg_int q
end
section
variable {X:Cx}{a b c:QF}{ta tb tc:TE}{pos:Pos}
theorem xW {pins:List (N2×Obj)}{σ:St}{H:Hp}{s:NT}{Q:VK}{k k':Bool} (I:Inv X pins σ H s) (q:Q (.bl k) H) (e:k=k'):EP X pins σ Q (.bool k') s:=by
 subst e
 exact ⟨.bl k,H,I,rfl,q⟩
theorem HX:OpR X (OP .Lt) (rI0 fun i j=>.bl (decide (i < j))):=AZ fun _ _ _ _ _ _ _ q=>lt_int q
theorem HY:OpR X (OP .LtE) (rI0 fun i j=>.bl (decide (i<=j))):=AZ fun _ _ _ _ _ _ _ q=>le_int q
theorem HZ:OpR X (OP .Gt) (rI0 fun i j=>.bl (decide (j < i))):=AZ fun _ _ _ _ _ _ _ q=>gt_int q
theorem Ia:OpR X (OP .GtE) (rI0 fun i j=>.bl (decide (j<=i))):=AZ fun _ _ _ _ _ _ _ q=>ge_int q
theorem EB:OpR X (OP .Is) (fun x y H Q=>y=.non/\Q (.bl (decide (x=.non))) H):=by
 intro pins s σ H x y v u Q I rx ry h
 obtain ⟨rfl,q⟩:=h
 cases ry
 refine is_none_gen (xW I q ?_)
 cases x<;>first
  | (cases rx;rfl)
  | (obtain ⟨t,rfl⟩:=rx;rfl)
theorem A2:OpR X (OP .IsNot) (fun x y H Q=>y=.non/\Q (.bl (!decide (x=.non))) H):=by
 intro pins s σ H x y v u Q I rx ry h
 obtain ⟨rfl,q⟩:=h
 cases ry
 refine isnot_none_gen (xW I q ?_)
 cases x<;>first
  | (cases rx;rfl)
  | (obtain ⟨t,rfl⟩:=rx;rfl)
theorem uB {op:CmpOp}{r:R2} (ho:OpR X (OP op) r) (ha:PE X a ta) (hb:PE X b tb) (hm:Ss op b=false):PE X (.Compare a [op] [b] pos) (tOp r ta tb):=by
 intro pins s σ H Q I h
 exact wpAny_Compare1 (Eu ha hb I h fun v u s2 x y H2 I2 rx ry q=>ho pins s2 σ H2 x y v u Q I2 rx ry q) hm
noncomputable def xX (t:TE):TT:=fun σ H Q=>t σ H fun x H'=>∃ k,x=.bl k/\Q k H'
theorem uC {op:CmpOp}{r:R2} (ho:OpR X (OP op) r) (ha:PE X a ta) (hb:PE X b tb) (hm:Ss op b=false):PT X (.Compare a [op] [b] pos) (xX (tOp r ta tb)):=by
 intro pins s σ H Q I h
 refine wpAny_isTrue_Compare1 (thn (ha pins s σ H _ I h) fun v s1 ⟨x,H1,I1,r1,q1⟩=>thn (hb pins s1 σ H1 _ I1 q1) fun u s2 ⟨y,H2,I2,r2,q2⟩ =>
  thn (ho pins s2 σ H2 x y v u _ I2 r1 r2 q2) fun c s3 ⟨z,H3,I3,r3,k,e,q3⟩=>?_) hm
 subst e
 cases r3
 exact O3 ⟨H3,I3,q3⟩
noncomputable def sD (r r':R2) (ta tb tc:TE):TE:=fun σ H Q=>ta σ H fun x H1=>tb σ H1 fun y H2=>r x y H2 fun z H3=>∃ k,z=.bl k ∧
 (if k=true then tc σ H3 fun w' H4=>r' y w' H4 Q else Q (.bl false) H3)
theorem xY {op op':CmpOp}{r r':R2} (ho:OpR X (OP op) r) (ho':OpR X (OP op') r') (ha:PE X a ta) (hb:PE X b tb) (hc:PE X c tc)
 (hm:lastMarks [op,op'] [b,c]=false:=by with_unfolding_all rfl):PE X (.Compare a [op,op'] [b,c] pos) (sD r r' ta tb tc):=by
 intro pins s σ H Q I h
 refine Compare_chain (thn (ha pins s σ H _ I h) fun v s1 ⟨x,H1,I1,r1,q1⟩=>chain_link (thn (hb pins s1 σ H1 _ I1 q1) fun u s2 ⟨y,H2,I2,r2,q2⟩ =>
  thn (ho pins s2 σ H2 x y v u _ I2 r1 r2 q2) fun d s3 ⟨z,H3,I3,r3,k,e,q3⟩=>?_)) hm
 subst e
 cases r3
 refine O3 ?_
 cases k with
 | false=>exact ite_ff ⟨.bl false,H3,I3,rfl,q3⟩
 | true=>exact ite_tt (chain_last (thn (hc pins s3 σ H3 _ I3 q3) fun w' s4 ⟨z',H4,I4,r4,q4⟩=>ho' pins s4 σ H4 y z' u w' Q I4 r2 r4 q4))
theorem xZ {op op':CmpOp}{r r':R2} (ho:OpR X (OP op) r) (ho':OpR X (OP op') r') (ha:PE X a ta) (hb:PE X b tb) (hc:PE X c tc)
 (hm:lastMarks [op,op'] [b,c]=false:=by with_unfolding_all rfl):PT X (.Compare a [op,op'] [b,c] pos) (xX (sD r r' ta tb tc)):=by
 intro pins s σ H Q I h
 refine isTrue_chain (thn (ha pins s σ H _ I h) fun v s1 ⟨x,H1,I1,r1,q1⟩=>test_link (thn (hb pins s1 σ H1 _ I1 q1) fun u s2 ⟨y,H2,I2,r2,q2⟩ =>
  thn (ho pins s2 σ H2 x y v u _ I2 r1 r2 q2) fun d s3 ⟨z,H3,I3,r3,k,e,q3⟩=>?_)) hm
 subst e
 cases r3
 refine O3 ?_
 cases k with
 | false =>
  obtain ⟨k',e',q'⟩:=q3
  cases e'
  exact ite_ff ⟨H3,I3,q'⟩
 | true =>
  refine ite_tt (test_last (thn (hc pins s3 σ H3 _ I3 q3) fun w' s4 ⟨z',H4,I4,r4,q4⟩=>thn (ho' pins s4 σ H4 y z' u w' _ I4 r2 r4 q4) fun d' s5 zq=>?_))
  obtain ⟨z2,H5,I5,r5,k2,e2,q5⟩:=zq
  subst e2
  cases r5
  exact O3 ⟨H5,I5,q5⟩
theorem ko:(sizeLine:Nat) < 2 ^ 63:=by rw[R8];decide
theorem sF:OpR X (Pc .Add) (fun x y H Q=>∃ i j,x=.str i/\y=.str j/\i.length+j.length<=sizeLine/\Q (.str (i++j)) H):=by
 intro pins s σ H x y v u Q I rx ry h
 obtain ⟨i,j,rfl,rfl,hz,q⟩:=h
 obtain ⟨t,rfl⟩:=rx
 obtain ⟨t',rfl⟩:=ry
 exact add_str (fun t' tk=>⟨.str (i++j),H,I.tok _,⟨_,rfl⟩,q⟩) hz
theorem vals1 {x:V}{us:List NS} (r:cX [x] us):∃ u,us=[u]/\RelV x u:=by
 cases r with
 | cons r1 r2=>cases r2;exact ⟨_,rfl,r1⟩
theorem vals2 {x y:V}{us:List NS} (r:cX [x,y] us):∃ u w',us=[u,w']/\RelV x u/\RelV y w':=by
 cases r with
 | cons r1 r2 =>
  cases r2 with
  | cons r3 r4=>cases r4;exact ⟨_,_,rfl,r1,r3⟩
theorem x6:eH X (.builtin "abs") (fun xs H Q=>∃ i,xs=[.int i]/\Q (.int (if i < 0 then -i else i)) H):=by
 intro pins s σ H xs us Q I r h
 obtain ⟨i,rfl,q⟩:=h
 obtain ⟨u,rfl,t,rfl⟩:=vals1 r
 exact call_abs_int fun u tk=>⟨.int (if i < 0 then -i else i),H,I.tok _,⟨_,rfl⟩,q⟩
theorem v9 (hc:X.calm=true):eH X (.builtin "max") (fun xs H Q=>∃ i j,xs=[.int i,.int j]/\Q (.int (if j > i then j else i)) H):=by
 intro pins s σ H xs us Q I r h
 obtain ⟨i,j,rfl,q⟩:=h
 obtain ⟨u,w',rfl,⟨t,rfl⟩,⟨t',rfl⟩⟩:=vals2 r
 refine max_two_ints (I.ok.hd hc) fun h' tk k=>⟨_,H,I.kept k,?_,q⟩
 by_cases hj:j > i
 ·rw[if_pos hj,if_pos hj];exact ⟨_,rfl⟩
 ·rw[if_neg hj,if_neg hj];exact ⟨_,rfl⟩
theorem we (hc:X.calm=true):eH X (.builtin "min") (fun xs H Q=>∃ i j,xs=[.int i,.int j]/\Q (.int (if j < i then j else i)) H):=by
 intro pins s σ H xs us Q I r h
 obtain ⟨i,j,rfl,q⟩:=h
 obtain ⟨u,w',rfl,⟨t,rfl⟩,⟨t',rfl⟩⟩:=vals2 r
 refine min_two_ints (I.ok.hd hc) fun h' tk k=>⟨_,H,I.kept k,?_,q⟩
 by_cases hj:j < i
 ·rw[if_pos hj,if_pos hj];exact ⟨_,rfl⟩
 ·rw[if_neg hj,if_neg hj];exact ⟨_,rfl⟩
theorem nX:eH X (.type "int") (fun xs H Q=>(∃ i,xs=[.int i]/\Q (.int i) H)\/∃ k,xs=[.bl k]/\Q (.int (if k then 1 else 0)) H):=by
 intro pins s σ H xs us Q I r h
 rcases h with ⟨i,rfl,q⟩ | ⟨k,rfl,q⟩
 ·obtain ⟨u,rfl,t,rfl⟩:=vals1 r
  exact call_int_int ⟨.int i,H,I,⟨_,rfl⟩,q⟩
 ·obtain ⟨u,rfl,r1⟩:=vals1 r
  cases r1
  exact call_int_bool ⟨.int (if k then 1 else 0),H,I.tok _,⟨_,rfl⟩,q⟩
theorem oX:eH X (.type "str") (fun xs H Q=>∃ i,xs=[.int i]/\i.natAbs.log2 < 1920/\Q (.str (toString i)) H):=by
 intro pins s σ H xs us Q I r h
 obtain ⟨i,rfl,hz,q⟩:=h
 obtain ⟨u,rfl,t,rfl⟩:=vals1 r
 exact PySem.P.str_of_int hz ⟨.str _,H,I.tok _,⟨_,rfl⟩,q⟩
end
end L2
namespace L2
open PySem PySem.Spec PyProof.Rows
structure sG (h:Heap) (x dx C:N2) (mA:Str->Option NS):Prop where
 obj:h.get? x=some (Pi C dx)
 ns:h.Ns1 dx mA
 ne:dx≠x
theorem wg {h:Heap}{dx:N2}{mA:Str->Option NS} (n:h.Ns1 dx mA):∃ od,h.get? dx=some od/\∀ name,Ri name od=some (mA name):=by
 obtain ⟨o,es,ep,ho,hd,hk,_,hm⟩:=n
 refine ⟨o,ho,fun name=>?_⟩
 have e:=hm name
 unfold nsFind findBy at e
 rw[← Array.find?_toList] at e
 unfold Ri
 rw[hd]
 dsimp only
 split
 ·rename_i y q
  rw[q] at e
  exact congrArg some e
 ·rename_i q
  rw[q] at e
  have a:es.toList.any (·.refKey)=false:=by
   rw[List.any_eq_false]
   intro y hy
   obtain ⟨z,t,hkey⟩:=hk y (Array.mem_toList_iff.mp hy)
   simp[DictEntry.refKey,hkey]
  have a':¬ es.toList.any (·.refKey)=true:=by rw[a];exact OG
  rw[if_neg a']
  exact congrArg some e
theorem sG.look {h:Heap}{x dx C:N2}{mA:Str->Option NS} (I:sG h x dx C mA):∃ od,PySem.W.InstAt h x (Pi C dx) C (some od)/\∀ name,Ri name od=some (mA name) :=
 let ⟨od,ho,hl⟩:=wg I.ns
 ⟨od,⟨I.obj,rfl,rfl,ho⟩,hl⟩
section
variable {prog:Oc}{w:Oo}{A:ON}{E:NS->NT->Prop}{s:NT}{K:NO}{x dx C f:N2}{mA:Str->Option NS}{name:Str}{v:NS}
theorem get_map {expr:Bool}{Q:NS->NT->Prop} (X:K.In s.heap) (I:sG s.heap x dx C mA) (hg:Qq K C name=true) (hh:PM K C=true)
 (ha:Oq K (.ref C) name=some none) (hv:mA name=some v) (hv':Ut v=true) (h:Q v { s with toks:=s.toks+1 }) :
 wpAny (Oi prog w) A (getAttr (.ref x) name expr) Q E s:=by
 obtain ⟨od,J,hl⟩:=I.look
 exact PySem.W.get_value X J (Rr hg).1 (PySem.W.findObj_own hh ha rfl (by rw[hl,hv])) hv' h
theorem x8 {pl:Sem Bool}{Q:NS×List NS->NT->Prop} (X:K.In s.heap) (I:sG s.heap x dx C mA) (hg:Qq K C name=true)
 (hf:Oq K (.ref C) name=some (some (.ref f))) (ht:RP K (.ref f)=true) (hv:mA name=none) (h:Q (.ref f,[.ref x]) s) :
 wpAny (Oi prog w) A (TH (.ref x) name pl) Q E s:=by
 obtain ⟨od,J,hl⟩:=I.look
 exact PySem.W.method_fn X J (Rr hg).1 (Rr hg).2 hf (beq_iff_eq.mp ht) (by show (Ri name od).map (·.isSome)=some false;rw[hl,hv];rfl) h
theorem A3 {ns:List Str}{Q:Unit->NT->Prop} (X:K.In s.heap) (I:sG s.heap x dx C mA)
 (hs:Oq K (.ref C) "__setattr__"=some (some (.builtin "object.__setattr__"))) (hp:RL K C=true) (ht:Sb K C name=some none) (hh:PM K C=true)
 (hw:TN mA ns) (hsz:ns.length<=sizeLine)
 (h:∀ h',sG h' x dx C (fun y=>if y=name then some v else mA y)->OF dx s.heap h'->Q () { s with heap:=h',toks:=s.toks+2 }) :
 wpAny (Oi prog w) A (setAttr (.ref x) name v) Q E s:=by
 obtain ⟨od,J,hl⟩:=I.look
 refine PySem.W.set_plain X J hs (PySem.W.osa_open (s:={ s with toks:=s.toks+1 }) (r:=none) X J hp ht fun b=>?_)
 obtain ⟨cd,hc,hd'⟩:=PySem.W.any_some hh
 have hx:s.heap.get? x=some ⟨.ref C,some dx,.plain,#[]⟩:=I.obj
 refine NP (wpAny_pure (NP (NP (wpAny_loadPart hx (NP (PySem.W.Looks.here (s:={ s with toks:=s.toks+1 }) (PySem.W.looks_clsIn X hc) ?_))))))
 rw[hd']
 refine wpAny_pure (a:=some dx) (NP (wpAny_pure (NP ?_)))
 refine wpAny_nsSet1 (s:={ s with toks:=s.toks+1 }) I.ns fun h' hn2 hs2=>?_
 obtain ⟨oD,esD,epD,hoD,hdD,hcD⟩:=hn2.count (PySem.Within.cons name v hw)
 refine NP (wpAny_lookBehind hoD (by rw[hdD];exact pastItsLine_dict (Om hcD (by rw[N7];lia))) ?_)
 exact wpAny_pure (h _ ⟨(hs2.2 _ (Re I.ne)).trans I.obj,hn2,I.ne⟩ hs2)
theorem ya {R:Result->NT->Prop}{vs:List NS}{kw:List (Str×NS)} (X:K.In s.heap) (hm:Sd K C=true)
 (hi:Oq K (.ref C) "__init__"=some (some (.ref f))) (hf:PySem.W.typeIn K (.ref f)=some (.type "function"))
 (h:codeAny (Oi prog w) (A.under (.builtin "type.__call__" ⟨.ref C :: vs,kw⟩)) (.call (.ref f) ⟨.ref (s.heap.objs.size+1) :: vs,kw⟩) (PySem.W.InitBack (s.heap.objs.size+1) R)
  { s with heap:=(s.heap.push OX).push (Pi C s.heap.objs.size) }) :
 codeAny (Oi prog w) A (.call (.ref C) ⟨vs,kw⟩) R s:=by
 obtain ⟨hh,g,d,t,os⟩:=s
 exact PySem.W.make_core (PySem.W.makes_of X hm) (PySem.W.looks_findIn X hi) (fun self=>PySem.W.bind_fn X self hf) (.inl rfl) h
end
noncomputable def eB (f:Str) (v:V):List (Str×V)->List (Str×V)
 | []=>[(f,v)]
 | (g,x) :: r=>if g=f then (g,v) :: r else (g,x) :: eB f v r
theorem kU (f g:Str) (v:V):∀ fs:List (Str×V),(eB f v fs).lookup g=if g=f then some v else fs.lookup g
 | []=>by
  show P7 g [(f,v)]=_
  by_cases h:g=f
  ·have hb:(g==f)=true:=beq_iff_eq.mpr h
   simp only[P7,hb,if_pos h]
  ·have hb:(g==f)=false:=beq_eq_false_iff_ne.mpr h
   simp only[P7,hb,if_neg h]
 | (k,x) :: r=>by
  have ih:=kU f g v r
  rw[show eB f v ((k,x) :: r)=(if k=f then (k,v) :: r else (k,x) :: eB f v r) from rfl]
  by_cases hk:k=f
  ·rw[if_pos hk]
   by_cases h:g=k
   ·have hb:(g==k)=true:=beq_iff_eq.mpr h
    simp only[P7,hb,if_pos (h.trans hk)]
   ·have hb:(g==k)=false:=beq_eq_false_iff_ne.mpr h
    simp only[P7,hb,if_neg (fun e:g=f=>h (e.trans hk.symm))]
  ·rw[if_neg hk]
   by_cases h:g=k
   ·have hb:(g==k)=true:=beq_iff_eq.mpr h
    simp only[P7,hb,if_neg (fun e:g=f=>hk (h.symm.trans e))]
   ·have hb:(g==k)=false:=beq_eq_false_iff_ne.mpr h
    simp only[P7,hb]
    exact ih
theorem kq (f:Str) (v:V):∀ fs:List (Str×V),f∈(eB f v fs).map (·.1)/\∀ g,g∈fs.map (·.1)->g∈(eB f v fs).map (·.1)
 | []=>⟨by simp[eB],fun g h=>by simp at h⟩
 | (k,x) :: r=>by
  obtain ⟨i1,i2⟩:=kq f v r
  rw[show eB f v ((k,x) :: r)=(if k=f then (k,v) :: r else (k,x) :: eB f v r) from rfl]
  by_cases hk:k=f
  ·rw[if_pos hk]
   subst hk
   exact ⟨by simp,fun g h=>by simpa using h⟩
  ·rw[if_neg hk]
   refine ⟨?_,fun g h=>?_⟩
   ·rw[OA]
    exact NU _ i1
   ·rw[OA] at h ⊢
    rcases List.mem_cons.mp h with e | e
    ·exact List.mem_cons.mpr (.inl e)
    ·exact NU _ (i2 g e)
theorem kW (f:Str) (v:V):∀ fs:List (Str×V),(eB f v fs).length<=fs.length+1
 | []=>by simp[eB]
 | (k,x) :: r=>by
  have ih:=kW f v r
  rw[show eB f v ((k,x) :: r)=(if k=f then (k,v) :: r else (k,x) :: eB f v r) from rfl]
  by_cases hk:k=f
  ·rw[if_pos hk,N7,N7];lia
  ·rw[if_neg hk,N7,N7];lia
theorem lT.some_of {v:V}{o:Option NS} (r:lT (some v) o):∃ u,o=some u/\RelV v u:=by
 cases o with
 | none=>exact (show False from r).elim
 | some u=>exact ⟨u,rfl,r⟩
theorem lT.none_of {o:Option NS} (r:lT none o):o=none:=by
 cases o with
 | none=>rfl
 | some u=>exact (show False from r).elim
theorem wj {v:V}{u:NS} (r:RelV v u):Ut u=true:=by
 cases v with
 | non=>cases (show u=Qj from r);rfl
 | bl b=>cases (show u=QW b from r);rfl
 | int i=>obtain ⟨t,e⟩:=(show ∃ t,u=RK i t from r);cases e;rfl
 | str x=>obtain ⟨t,e⟩:=(show ∃ t,u=TM x t from r);cases e;rfl
 | byt b=>obtain ⟨t,e⟩:=(show ∃ t,u=Value.bytes b t from r);cases e;rfl
 | flt b=>obtain ⟨t,e⟩:=(show ∃ t,u=Value.float b t from r);cases e;rfl
 | ref a=>cases (show u=O8 a from r);rfl
 | ty n=>cases (show u=Value.type n from r);rfl
section
variable {P:Oc}{w:Oo}{H H':Hp}{h h':Heap}{a C dx:N2}{fs fs':List (Str×V)}
theorem oY (hok:HOk P w H h) (e:H a=some (.ins C dx fs)):∃ mA,sG h a dx C mA/\(∀ f,lT (fs.lookup f) (mA f))/\TN mA (fs.map (·.1))/\fs.length<=1000/\H dx=some (.own a):=by
 obtain ⟨d,z,ne,ob,mA,n,r,q⟩:=(show fF P w H h a (.ins C dx fs) from hok a _ e)
 exact ⟨mA,⟨ob,n,ne⟩,r,q,z,d⟩
end
structure Cls (K:NO) (C:N2):Prop where
 pg:Qq K C Str.empty=true
 hd:PM K C=true
 po:RL K C=true
 sa:Oq K (.ref C) "__setattr__"=some (some (.builtin "object.__setattr__"))
theorem Cls.get {K:NO}{C:N2} (c:Cls K C) (f:Str):Qq K C f=true:=c.pg
noncomputable def iJ (K:NO) (C:N2) (f:Str):Prop:=Oq K (.ref C) f=some none
theorem iJ.Ib {K:NO}{C:N2}{f:Str} (n:iJ K C f):Sb K C f=some none:=by
 unfold Sb
 rw[show Oq K (.ref C) f=some none from n]
 rfl
structure yb (K:NO) (C:N2) (m:Str) (f:N2):Prop where
 at_:Oq K (.ref C) m=some (some (.ref f))
 fn:RP K (.ref f)=true
 kp:OZ K (.ref f)=true
section
variable {X:Cx}{pins:List (N2×Obj)}{σ:St}{H:Hp}{s:NT}{a C dx:N2}{fs:List (Str×V)}{f:Str}{v:V}{A:ON}{E:NS->NT->Prop}
theorem lW {b:Bool}{Q:NS->NT->Prop} (I:Inv X pins σ H s) (e:H a=some (.ins C dx fs)) (c:Cls X.K C) (n:iJ X.K C f) (l:fs.lookup f=some v)
 (h:∀ u s',Inv X pins σ H s'->RelV v u->Q u s'):wpAny (Oi X.prog X.w) A (getAttr (.ref a) f b) Q E s:=by
 obtain ⟨mA,O,r,_,_,_⟩:=oY I.hok e
 obtain ⟨u,hu,ru⟩:=lT.some_of (v:=v) (o:=mA f) (by rw[← l];exact r f)
 exact get_map I.kIn O (c.get f) c.hd n hu (wj ru) (h u _ (I.tok _) ru)
theorem lX {m:Str}{g:N2}{pl:Sem Bool}{Q:NS×List NS->NT->Prop} (I:Inv X pins σ H s) (e:H a=some (.ins C dx fs)) (c:Cls X.K C) (k:yb X.K C m g) (l:fs.lookup m=none)
 (h:Q (.ref g,[.ref a]) s):wpAny (Oi X.prog X.w) A (TH (.ref a) m pl) Q E s:=by
 obtain ⟨mA,O,r,_,_,_⟩:=oY I.hok e
 have hn:mA m=none:=lT.none_of (by rw[← l];exact r m)
 exact x8 I.kIn O (c.get m) k.at_ k.fn hn h
theorem lY {y:V}{u:NS}{Q:Unit->NT->Prop} (I:Inv X pins σ H s) (e:H a=some (.ins C dx fs)) (c:Cls X.K C) (n:iJ X.K C f) (hl:fs.length < 1000) (ry:RelV y u)
 (h:∀ s',Inv X pins σ (upd H a (.ins C dx (eB f y fs))) s'->Q () s'):wpAny (Oi X.prog X.w) A (setAttr (.ref a) f u) Q E s:=by
 obtain ⟨mA,O,r,wi,_,ho⟩:=oY I.hok e
 have hz:(fs.map (·.1)).length<=sizeLine:=by rw[N5,R8];lia
 refine A3 I.kIn O c.sa c.po n.Ib c.hd wi hz fun h' O' sb=>h _ ?_
 have hd:∃ o,h'.get? dx=some o:=let ⟨o,_,_,e',_⟩:=O'.ns;⟨o,e'⟩
 refine I.write (x:=a) (e:=dx) (by rw[e];exact P8) (.inr ho) (fun b q hb z=>(sb.2 b hb).trans z) hd ?_
 refine ⟨by rw[c5 O.ne];exact ho,?_,O.ne,O'.obj,_,O'.ns,fun g=>?_,fun g hg=>?_⟩
 ·have:=kW f y fs;lia
 ·show lT ((eB f y fs).lookup g) (if g=f then some u else mA g)
  rw[kU]
  by_cases q:g=f
  ·rw[if_pos q,if_pos q];exact ry
  ·rw[if_neg q,if_neg q];exact r g
 ·by_cases q:g=f
  ·rw[q];exact (kq f y fs).1
  ·refine (kq f y fs).2 g (wi g fun z=>hg ?_)
   show (if g=f then some u else mA g)=none
   rw[if_neg q];exact z
theorem Inv.made (I:Inv X pins σ H s):Inv X pins σ (upd (upd H s.heap.objs.size (.own (s.heap.objs.size+1))) (s.heap.objs.size+1) (.ins C s.heap.objs.size []))
 { s with heap:=(s.heap.push OX).push (Pi C s.heap.objs.size) }:=by
 have e1:(s.heap.push OX).get? s.heap.objs.size=some OX:=N9 s.heap rfl
 have e2:((s.heap.push OX).push (Pi C s.heap.objs.size)).get? (s.heap.objs.size+1)=some (Pi C s.heap.objs.size):=by
  have:=N9 (s.heap.push OX) (o:=Pi C s.heap.objs.size) rfl
  rwa [PY] at this
 have e3:(s.heap.push OX).Ns s.heap.objs.size (fun _=>none):=⟨OX,#[],_,e1,rfl,(fun e he=>absurd he (by simp)),fun _=>rfl⟩
 have I1:=I.laid (a:=s.heap.objs.size) (o:=.own (s.heap.objs.size+1)) (h':=s.heap.push OX) (t':=s.toks) (fun b u q=>NQ _ q) (N1 _) ⟨_,e1⟩
 refine I1.laid (a:=s.heap.objs.size+1) (o:=.ins C s.heap.objs.size []) (t':=s.toks) (fun b u q=>NQ _ q) (Nat.le_of_eq (PY _ _)) ?_
 have ne:s.heap.objs.size≠s.heap.objs.size+1:=Oh (P6 _)
 refine ⟨by rw[c5 ne,dS],Qs _,ne,e2,fun _=>none,(Heap.Ns1.of_empty e3).at fun o q=>NQ _ q,fun _=>P8,fun y hy=>absurd rfl hy⟩
theorem A4 {prog:Oc}{w:Oo}{env:Env}{e:QF}{f:Str}{pos:Pos}{s:NT}{Q:NS->NT->Prop} (hb:Rq e f env (eval e env)=eval e env)
 (h:wpAny (Oi prog w) A (eval e env) (fun o s₁=>wpAny (Oi prog w) A (getAttr o f true) Q E s₁) E s):wpAny (Oi prog w) A (eval (.Attribute e f pos) env) Q E s :=
 Attribute_any_ h (by rw[arm_eval_Attribute,hb])
end
noncomputable def Lr (K:NO) (ta:TE) (f:Str):TE:=fun σ H Q=>ta σ H fun x H1=>∃ a C dx fs v,x=.ref a/\H1 a=some (.ins C dx fs)/\Cls K C/\iJ K C f/\fs.lookup f=some v/\Q v H1
noncomputable def Ic (K:NO) (ta tv:TE) (f:Str):TS:=fun D σ H=>tv σ H fun y H1=>ta σ H1 fun x H2=>∃ a C dx fs,x=.ref a/\H2 a=some (.ins C dx fs)/\Cls K C/\iJ K C f/\fs.length < 1000 ∧
 D.nx σ (upd H2 a (.ins C dx (eB f y fs)))
noncomputable def Ls (X:Cx) (op:Q5) (rd:V->V->Hp->VK->Prop):Prop :=
 ∀ (pins:List (N2×Obj)) (s:NT) (σ:St) (H:Hp) (x y:V) (u v:NS) (Q:VK),Inv X pins σ H s->RelV x u->RelV y v->rd x y H Q->wpAny (Oi X.prog X.w) X.A (inplaceOp op u v) (EP X pins σ Q) X.xe s
noncomputable def uD (K:NO) (ta tv:TE) (rd:V->V->Hp->VK->Prop) (f:Str):TS:=fun D σ H=>ta σ H fun x H1=>∃ a C dx fs v,x=.ref a/\H1 a=some (.ins C dx fs)/\Cls K C/\iJ K C f/\fs.lookup f=some v ∧
 tv σ H1 fun y H2=>rd v y H2 fun z H3=>∃ dx' fs',H3 a=some (.ins C dx' fs')/\fs'.length < 1000/\D.nx σ (upd H3 a (.ins C dx' (eB f z fs')))
section
variable {X:Cx}{o e value:QF}{f:Str}{pos pos' tpos:Pos}{ta tv:TE}
theorem EC (he:PE X e ta) (hb:Rq e f X.env (eval e X.env)=eval e X.env):PE X (.Attribute e f pos) (Lr X.K ta f):=by
 intro pins s σ H Q I h
 refine A4 hb (thn (he pins s σ H _ I h) fun u s1 zq=>?_)
 obtain ⟨x,H1,I1,rx,a,C,dx,fs,v,ex,ea,c,n,l,q⟩:=zq
 subst ex
 obtain rfl:u=O8 a:=rx
 exact lW I1 ea c n l fun u' s2 I2 ru=>⟨v,H1,I2,ru,q⟩
theorem ED (ha:PE X o ta) (hv:PE X value tv) (hs:QT value (some (.Attribute o f pos')) pos.line X.env=pure false):PS X (.Assign [.Attribute o f pos'] value pos) (Ic X.K ta tv f):=by
 intro pins s σ H D I h
 refine plainObj_wpAny_Assign_Attribute (thn (hv pins s σ H _ I h) fun u s1 ⟨y,H1,I1,ry,q⟩=>thn (ha pins s1 σ H1 _ I1 q) fun ov s2 ⟨x,H2,I2,rx,a,C,dx,fs,ex,ea,c,n,l,q2⟩=>?_) hs
 subst ex
 obtain rfl:ov=O8 a:=rx
 exact lY I2 ea c n l ry fun s3 I3=>⟨σ,_,I3,q2⟩
theorem wk {op:Q5}{rd:V->V->Hp->VK->Prop} (ha:PE X o ta) (hv:PE X value tv) (hop:Ls X op rd):PS X (.AugAssign (.Attribute o f tpos) op value pos) (uD X.K ta tv rd f):=by
 intro pins s σ H D I h
 refine wpAny_AugAssign_AttributeAny (thn (ha pins s σ H _ I h) fun ov s1 zq=>?_)
 obtain ⟨x,H1,I1,rx,a,C,dx,fs,v,ex,ea,c,n,l,q⟩:=zq
 subst ex
 obtain rfl:ov=O8 a:=rx
 refine lW I1 ea c n l fun u s2 I2 ru=>thn (hv pins s2 σ H1 _ I2 q) fun w3 s3 ⟨y,H2,I3,ry,q3⟩=>thn (hop pins s3 σ H2 v y u w3 _ I3 ru ry q3) fun w4 s4 zq=>?_
 obtain ⟨z,H3,I4,rz,dx',fs',ea',l',q4⟩:=zq
 exact lY I4 ea' c n l' rz fun s5 I5=>⟨σ,_,I5,q4⟩
end
section
variable {X:Cx}{pins:List (N2×Obj)}{σ:St}{H:Hp}{s:NT}{A:ON}{E:NS->NT->Prop}{Q:NS->NT->Prop}{c:NS}{b:Bool}
end
end L2
namespace L2
open PySem PySem.Spec PyProof.Rows
structure eV (k:Nat) (A:ON):Prop where
 hd:A.handled=none
 dp:A.depth+3*k+5 < recursionLimit
 un:A.units+16*k+200 < cLine
theorem eV.mono {j k:Nat}{A:ON} (r:eV k A) (h:j<=k):eV j A:=⟨r.hd,by have:=r.dp;lia,by have:=r.un;lia⟩
theorem eV.deeper {k:Nat}{A:ON} (r:eV (k+1) A) (env:Env):eV k (A.deeper env) :=
 ⟨r.hd,by have:=r.dp;show A.depth+1+3*k+5 < _;lia,by have:=r.un;show A.units+3+16*k+200 < _;lia⟩
theorem sH {A:ON}{C:N2}{us:List NS}{kw:List (Str×NS)}:(A.under (.builtin "type.__call__" ⟨.ref C :: us,kw⟩)).depth=A.depth+1:=by
 first | rfl | simp[Tw,Code.weight,Code.isCreation,Code.isGuard,Code.isCaller,Code.frames,Ue,guardIds]
theorem sI {A:ON}{C:N2}{us:List NS}{kw:List (Str×NS)}:(A.under (.builtin "type.__call__" ⟨.ref C :: us,kw⟩)).units=A.units+1:=by
 first | rfl | simp[Tw,Code.cUnits,Code.frames,Ue]
theorem eV.make {k:Nat}{A:ON} (r:eV (k+1) A) (C:N2) (us:List NS) (kw:List (Str×NS)):eV k (A.under (.builtin "type.__call__" ⟨.ref C :: us,kw⟩)) :=
 ⟨r.hd,by have:=r.dp;rw[sH];lia,by have:=r.un;rw[sI];lia⟩
theorem eV.depth {k:Nat}{A:ON} (r:eV k A):A.depth < recursionLimit:=by have:=r.dp;lia
noncomputable def yc:TA:=fun _ H Q=>Q [] H
noncomputable def DG (ta:TE) (tr:TA):TA:=fun σ H Q=>ta σ H fun x H1=>tr σ H1 fun xs H2=>Q (x :: xs) H2
section
variable {X:Cx}{e:QF}{es:List QF}{te:TE}{t:TA}{pos:Pos}
theorem oZ:PA X [] yc:=fun _ _ _ _ H Q I h=>Calls.spliced_nil ⟨[],H,I,.nil,h⟩
theorem gO (ha:PE X e te) (hr:PA X es t) (hs:Ow (e :: es) X.env=(false,eval e X.env) :: Ow es X.env:=by rfl):PA X (e :: es) (DG te t):=by
 intro pos pins s σ H Q I h
 rw[hs]
 show wpAny _ _ (spliced ((false,eval e X.env) :: QC pos (Ow es X.env))) _ _ s
 refine Calls.spliced_cons (thn (ha pins s σ H _ I h) fun u s1 zq=>?_)
 obtain ⟨x,H1,I1,r1,q1⟩:=zq
 exact thn (hr pos pins s1 σ H1 _ I1 q1) fun us s2 ⟨xs,H2,I2,r2,q2⟩=>⟨x :: xs,H2,I2,.cons r1 r2,q2⟩
noncomputable def Ie (t:TA):TE:=fun σ H Q=>t σ H fun xs H1=>xs.length<=sizeLine/\∀ p,H1 p=none->Q (.ref p) (upd H1 p (.tup xs))
noncomputable def Ig (t:TA):TE:=fun σ H Q=>t σ H fun xs H1=>xs.length<=sizeLine/\∀ p,H1 p=none->Q (.ref p) (upd H1 p (.lst xs))
theorem EF {x1} (h:PA X es t):PE X (.Tuple es x1 pos) (Ie t):=by
 intro pins s σ H Q I hq
 refine wpAny_Tuple_spliced (thn (h pos pins s σ H _ I hq) fun us s1 ⟨xs,H1,I1,r,z,q⟩=>⟨by rw[← r.length];exact z,?_⟩)
 have hf:H1 s1.heap.objs.size=none:=I1.hok.fresh (N1 _)
 refine ⟨.ref s1.heap.objs.size,upd H1 s1.heap.objs.size (.tup xs),I1.laid (t':=s1.toks) (fun b u e=>NQ _ e) (N1 _) ?_,rfl,q _ hf⟩
 exact ⟨z,us,r,⟨_,N9 _ rfl,rfl,_,rfl⟩⟩
theorem EG (h:PA X es t):PE X (.List es pos) (Ig t):=by
 intro pins s σ H Q I hq
 refine wpAny_List_spliced (thn (h pos pins s σ H _ I hq) fun us s1 ⟨xs,H1,I1,r,z,q⟩=>⟨by rw[← r.length];exact z,?_⟩)
 have hf:H1 s1.heap.objs.size=none:=I1.hok.fresh (N1 _)
 refine ⟨.ref s1.heap.objs.size,upd H1 s1.heap.objs.size (.lst xs),I1.laid (t':=s1.toks) (fun b u e=>NQ _ e) (N1 _) ?_,rfl,q _ hf⟩
 exact ⟨z,us,0,r,N9 _ rfl⟩
end
noncomputable abbrev Sp:=List V->Hp->VK->XK->Prop
noncomputable abbrev CXT:=List Env->Hp->NT->XK->NS->NT->Prop
structure o4 (P:Oc) (w:Oo) (K:NO) (mg:Str->Option NS) (base:Heap) (A:ON) (outer:List Env) (s:NT) (H:Hp):Prop where
 frames:A.frames=some outer
 mod:Mod K mg base
 bs:∀ b o,base.get? b=some o->s.heap.get? b=some o/\H b=none
 bsz:base.objs.size<=s.heap.objs.size
 jE:s.heap.FunFrames base outer
 frf:∀ b∈frs outer,H b=none
 hok:HOk P w H s.heap
 bare:T6 s.gens
inductive CE (outer:List Env) (P:Oc) (w:Oo) (H:Hp) (s:NT) (Q:VK) (u:NS) (s':NT):Prop where
 | mk (v:V) (H':Hp) (os:s'.os=s.os) (b:T6 s'.gens) (un:Un (frs outer) [] H H' s.heap s'.heap) (hk:HOk P w H' s'.heap) (r:RelV v u) (q:Q v H'):CE outer P w H s Q u s'
noncomputable def CR (CX:CXT) (outer:List Env) (P:Oc) (w:Oo) (H:Hp) (s:NT) (Q:VK) (E:XK) (r:Result) (s':NT):Prop :=
 match r with
 | .ok (.ret u)=>CE outer P w H s Q u s'
 | .ok _=>False
 | .error e=>CX outer H s E e s'
structure gP (P:Oc) (w:Oo) (K:NO) (mg:Str->Option NS) (base:Heap) (CX:CXT) (k:Nat) (f:N2) (fd:Pu) (ps:List Str) (sp:Sp):Prop where
 len:∀ vs H Q E,sp vs H Q E->vs.length=ps.length
 run:∀ (A:ON) (outer:List Env) (s:NT) (H:Hp) (args:Args) (us:List NS) (vs:List V) (Q:VK) (E:XK),eV k A->o4 P w K mg base A outer s H->BindsTo s fd args (ps.zip us)->cX vs us->sp vs H Q E →
  codeAny (Oi P w) A (.call (.ref f) args) (CR CX outer P w H s Q E) s
theorem o4.make {P:Oc}{w:Oo}{K:NO}{mg:Str->Option NS}{base:Heap}{A:ON}{outer:List Env}{s:NT}{H:Hp} (e:o4 P w K mg base A outer s H) (C:N2) (us:List NS) (kw:List (Str×NS)) :
 o4 P w K mg base (A.under (.builtin "type.__call__" ⟨.ref C :: us,kw⟩)) outer s H:=⟨by first | exact e.frames | (simpa [Tw,Code.envs,Ue,pushEnvs] using e.frames),e.mod,e.bs,e.bsz,e.jE,e.frf,e.hok,e.bare⟩
section
variable {X:Cx}{pins:List (N2×Obj)}{σ:St}{H:Hp}{s s':NT}
theorem Inv.Ih (I:Inv X pins σ H s):o4 X.prog X.w X.K X.mg X.base X.A X.stack s H :=
 ⟨I.ok.frames,I.ok.mod,I.bs,Om I.ok.bsz I.sz,I.stack,I.uv,I.hok,I.bare⟩
theorem Inv.after {Q:VK}{u:NS} (I:Inv X pins σ H s) (h:CE X.stack X.prog X.w H s Q u s'):EP X pins σ Q u s':=by
 obtain ⟨v,H',os,bare,un,hok,r,q⟩:=h
 obtain ⟨hh,g,d,t,os'⟩:=s'
 obtain rfl:os'=s.os:=os
 exact ⟨v,H',I.call (h':=hh) (g':=g) (d':=d) (t':=t) (ch:=[]) un hok bare (fun b z=>absurd z (by simp)),r,q⟩
end
noncomputable def yd (sp:Sp) (dvs:List V) (E:XK) (t:TA):TE:=fun σ H Q=>t σ H fun vs H1=>sp (vs++dvs) H1 Q E
noncomputable def ye (C:N2) (m:Str) (sp:Sp) (dvs:List V) (E:XK) (ta:TE) (t:TA):TE:=fun σ H Q=>ta σ H fun x H1=>∃ a dx fs,x=.ref a/\H1 a=some (.ins C dx fs)/\fs.lookup m=none ∧
 t σ H1 fun vs H2=>sp (x :: (vs++dvs)) H2 Q E
noncomputable def yf (C:N2) (sp:Sp) (dvs:List V) (E:XK) (t:TA):TE:=fun σ H Q=>t σ H fun vs H1=>∀ x dx,H1 x=none->H1 dx=none->dx≠x →
 sp (.ref x :: (vs++dvs)) (upd (upd H1 dx (.own x)) x (.ins C dx [])) (fun v H2=>v=.non/\Q (.ref x) H2) E
noncomputable def Binds (K:NO) (fd:Pu) (ps:List Str) (ds:List NS):Prop :=
 ∀ (s:NT) (us:List NS),K.In s.heap->(us++ds).length=ps.length->BindsTo s fd ⟨us,[]⟩ (ps.zip (us++ds))
theorem Binds.all {K:NO}{fd:Pu}{ps:List Str} (h:∀ us:List NS,us.length=ps.length->UF fd ⟨us,[]⟩=pure (ps.zip us)):Binds K fd ps []:=fun s us _ hl=>by
 rw[OJ] at hl ⊢
 exact .of_eq (h us hl)
noncomputable def gQ (CX:CXT) (X:Cx) (E:XK):Prop:=∀ (pins:List (N2×Obj)) (σ:St) (H:Hp) (s:NT) (e:NS) (s':NT),Inv X pins σ H s->CX X.stack H s E e s'->X.xe e s'
section
variable {X:Cx}{CX:CXT}{k:Nat}{f C:N2}{fd:Pu}{ps:List Str}{sp:Sp}{dvs:List V}{ds:List NS}{E:XK}{x m:Str}{p pos apos:Pos}{e o:QF}{es:List QF}{ta:TE}{t:TA}
theorem o5 {pins:List (N2×Obj)}{σ:St}{H:Hp}{s:NT}{Q:VK}{us:List NS}{vs:List V} (F:gP X.prog X.w X.K X.mg X.base CX k f fd ps sp) (hr:eV k X.A) (hb:Binds X.K fd ps ds) (hd:cX dvs ds) (hx:gQ CX X E)
 (I:Inv X pins σ H s) (r:cX vs us) (h:sp (vs++dvs) H Q E):wpAny (Oi X.prog X.w) X.A (call (.ref f) us) (EP X pins σ Q) X.xe s:=by
 have r2:cX (vs++dvs) (us++ds):=r.append hd
 have hl:(us++ds).length=ps.length:=by rw[← r2.length];exact F.len _ _ _ _ h
 refine wpAny_call (SY (F.run X.A X.stack s H ⟨us,[]⟩ (us++ds) (vs++dvs) Q E hr I.Ih (hb s us I.kIn hl) r2 h) fun r s' hq=>?_)
 cases r with
 | error e=>exact hx pins σ H s e s' I hq
 | ok fl =>
  cases fl with
  | ret u=>exact I.after hq
  | next=>exact O6 hq
  | brk=>exact O6 hq
  | cont=>exact O6 hq
theorem A5 (F:gP X.prog X.w X.K X.mg X.base CX k f fd ps sp) (hr:eV k X.A) (hg:Gl X x) (hm:X.mg x=some (.ref f)) (hk:OZ X.K (.ref f)=true) (hb:Binds X.K fd ps ds) (hd:cX dvs ds) (hx:gQ CX X E)
 (ha:PA X (e :: es) t) (hdb:(x==("__debug__":Str))=false:=by decide) (he:Ow (e :: es) X.env=(false,eval e X.env) :: Ow es X.env:=by rfl) (hpl:(QC pos (Ow es X.env)).any (·.1)=false:=by rfl) :
 PE X (.Call (.Name x p) (e :: es) [] pos) (yd sp dvs E t):=by
 intro pins s σ H Q I h
 refine PU (jF I hg hm ?_ hdb)
 refine RB (h₀:=X.base) I.ok.mod.kin hk (thn (ha pos pins s σ H _ I h) fun us s1 ⟨vs,H1,I1,r,q⟩=>⟨I1.kIn,?_⟩) he hpl
 exact o5 F hr hb hd hx I1 r q
theorem yh (F:gP X.prog X.w X.K X.mg X.base CX k f fd ps sp) (hr:eV k X.A) (hg:Gl X x) (hm:X.mg x=some (.ref f)) (hk:OZ X.K (.ref f)=true) (hb:Binds X.K fd ps ds) (hd:cX dvs ds) (hx:gQ CX X E)
 (hdb:(x==("__debug__":Str))=false:=by decide):PE X (.Call (.Name x p) [] [] pos) (yd sp dvs E yc):=by
 intro pins s σ H Q I h
 refine PU (jF I hg hm ?_ hdb)
 exact Rt I.kIn hk (o5 (us:=[]) F hr hb hd hx I .nil h)
theorem A6 {pl:Sem Bool} (he:PE X o ta) (c:Cls X.K C) (hm:yb X.K C m f) (F:gP X.prog X.w X.K X.mg X.base CX k f fd ps sp) (hr:eV k X.A) (hb:Binds X.K fd ps ds) (hd:cX dvs ds) (hx:gQ CX X E) (ha:PA X (e :: es) t)
 (hst:Ow (e :: es) X.env=(false,eval e X.env) :: Ow es X.env:=by rfl) (hpl:(QC pos (Ow es X.env)).any (·.1)=false:=by rfl)
 (ht:eval (.Call (.Attribute o m apos) (e :: es) [] pos) X.env=(do
  let ov ← eval o X.env
  TF apos.atName
  let (f,first) ← Ro [ov] (TH ov m pl)
  callWith pos f first (QC pos (Ow (e :: es) X.env)) (Su pos (QV [] X.env))):=by rfl) :
 PE X (.Call (.Attribute o m apos) (e :: es) [] pos) (ye C m sp dvs E ta t):=by
 intro pins s σ H Q I h
 refine Ti (pl:=pl) (thn (he pins s σ H _ I h) fun u s1 ⟨x,H1,I1,rx,a,dx,fs,ex,ea,l,q⟩=>?_) ht
 subst ex
 obtain rfl:u=O8 a:=rx
 refine lX I1 ea c hm l ?_
 refine RB (first:=[.ref a]) (h₀:=X.base) I.ok.mod.kin hm.kp (thn (ha pos pins s1 σ H1 _ I1 q) fun us s2 ⟨vs,H2,I2,r,q2⟩=>⟨I2.kIn,?_⟩) hst hpl
 exact o5 (us:=.ref a :: us) (vs:=.ref a :: vs) F hr hb hd hx I2 (.cons rfl r) q2
theorem yi {pl:Sem Bool} (he:PE X o ta) (c:Cls X.K C) (hm:yb X.K C m f) (F:gP X.prog X.w X.K X.mg X.base CX k f fd ps sp) (hr:eV k X.A) (hb:Binds X.K fd ps ds) (hd:cX dvs ds) (hx:gQ CX X E)
 (ht:eval (.Call (.Attribute o m apos) [] [] pos) X.env=(do
  let ov ← eval o X.env
  TF apos.atName
  let (f,first) ← Ro [ov] (TH ov m pl)
  callWith pos f first (QC pos (Ow [] X.env)) (Su pos (QV [] X.env))):=by rfl) :
 PE X (.Call (.Attribute o m apos) [] [] pos) (ye C m sp dvs E ta yc):=by
 intro pins s σ H Q I h
 refine Ti (pl:=pl) (thn (he pins s σ H _ I h) fun u s1 ⟨x,H1,I1,rx,a,dx,fs,ex,ea,l,q⟩=>?_) ht
 subst ex
 obtain rfl:u=O8 a:=rx
 refine lX I1 ea c hm l ?_
 exact Rt (first:=[.ref a]) I1.kIn hm.kp (o5 (us:=[.ref a]) (vs:=[.ref a]) F hr hb hd hx I1 (.cons rfl .nil) q)
structure Mk (K:NO) (C f:N2):Prop where
 makes:Sd K C=true
 init:Oq K (.ref C) "__init__"=some (some (.ref f))
 fn:RP K (.ref f)=true
 kp:OZ K (.ref C)=true
theorem qK {pins:List (N2×Obj)}{σ:St}{H:Hp}{s:NT}{Q:VK}{us:List NS}{vs:List V} (M:Mk X.K C f) (F:gP X.prog X.w X.K X.mg X.base CX k f fd ps sp) (hr:eV (k+1) X.A) (hb:Binds X.K fd ps ds) (hd:cX dvs ds)
 (hx:gQ CX X E) (I:Inv X pins σ H s) (r:cX vs us)
 (h:∀ x dx,H x=none->H dx=none->dx≠x->sp (.ref x :: (vs++dvs)) (upd (upd H dx (.own x)) x (.ins C dx [])) (fun v H2=>v=.non/\Q (.ref x) H2) E) :
 wpAny (Oi X.prog X.w) X.A (call (.ref C) us) (EP X pins σ Q) X.xe s:=by
 have hq:=h (s.heap.objs.size+1) s.heap.objs.size (I.hok.fresh (QI _)) (I.hok.fresh (N1 _)) (Oh (P6 _))
 have I2:=Inv.made (C:=C) I
 have r2:cX (V.ref (s.heap.objs.size+1) :: (vs++dvs)) (O8 (s.heap.objs.size+1) :: (us++ds)):=.cons rfl (r.append hd)
 have hl:(O8 (s.heap.objs.size+1) :: us++ds).length=ps.length:=by
  have e:=r2.length
  rw[F.len _ _ _ _ hq] at e
  exact e.symm
 refine wpAny_call (ya (f:=f) I.kIn M.makes M.init (beq_iff_eq.mp M.fn) (SY (F.run _ X.stack _ _ ⟨O8 (s.heap.objs.size+1) :: us,[]⟩ (O8 (s.heap.objs.size+1) :: (us++ds)) _ _ E (hr.make C us [])
  (I2.Ih.make C us []) (hb _ (O8 (s.heap.objs.size+1) :: us) I2.kIn hl) r2 hq) fun r s' hq'=>?_))
 cases r with
 | error e=>exact hx pins σ _ _ e s' I2 hq'
 | ok fl =>
  cases fl with
  | ret u =>
   obtain ⟨v,H',I3,rv,ev,q3⟩:=I2.after hq'
   subst ev
   exact ⟨rv,⟨V.ref (s.heap.objs.size+1),H',I3,rfl,q3⟩⟩
  | next=>exact O6 hq'
  | brk=>exact O6 hq'
  | cont=>exact O6 hq'
theorem A7 (M:Mk X.K C f) (F:gP X.prog X.w X.K X.mg X.base CX k f fd ps sp) (hr:eV (k+1) X.A) (hg:Gl X x) (hm:X.mg x=some (.ref C)) (hb:Binds X.K fd ps ds) (hd:cX dvs ds) (hx:gQ CX X E)
 (ha:PA X (e :: es) t) (hdb:(x==("__debug__":Str))=false:=by decide) (he:Ow (e :: es) X.env=(false,eval e X.env) :: Ow es X.env:=by rfl) (hpl:(QC pos (Ow es X.env)).any (·.1)=false:=by rfl) :
 PE X (.Call (.Name x p) (e :: es) [] pos) (yf C sp dvs E t):=by
 intro pins s σ H Q I h
 refine PU (jF I hg hm ?_ hdb)
 refine RB (h₀:=X.base) I.ok.mod.kin M.kp (thn (ha pos pins s σ H _ I h) fun us s1 ⟨vs,H1,I1,r,q⟩=>⟨I1.kIn,?_⟩) he hpl
 exact qK M F hr hb hd hx I1 r q
theorem yj (M:Mk X.K C f) (F:gP X.prog X.w X.K X.mg X.base CX k f fd ps sp) (hr:eV (k+1) X.A) (hg:Gl X x) (hm:X.mg x=some (.ref C)) (hb:Binds X.K fd ps ds) (hd:cX dvs ds) (hx:gQ CX X E)
 (hdb:(x==("__debug__":Str))=false:=by decide):PE X (.Call (.Name x p) [] [] pos) (yf C sp dvs E yc):=by
 intro pins s σ H Q I h
 refine PU (jF I hg hm ?_ hdb)
 exact Rt I.kIn M.kp (qK (us:=[]) M F hr hb hd hx I .nil h)
end
section
variable {X:Cx}{CX:CXT}{k:Nat}{f C:N2}{fd:Pu}{ps ks:List Str}{sp:Sp}{E:XK}{x m:Str}{p pos apos kpos:Pos}{e o:QF}{es:List QF}{kws:List QJ}{te ta:TE}{t tk:TA}{nm:Option Str}
variable {g:List NS->List NS->List NS}{gV:List V->List V->List V}
end
structure fB (N P:List Str) (sc:OS):Prop where
 kind:sc.kind=.function
 co:sc.isCoroutine=false
 gen:sc.isGenerator=false
 nd:N.Nodup
 pre:N.take P.length=P
 par:∀ x∈P,sc.names.lookup x=some .local\/sc.names.lookup x=some .cell
 nofree:∀ y∈sc.names,y.2≠.free
theorem nY {kindOf:Str->Option Qt}{x:Str}:∀ {binds:List (Str×NS)}{m:Str->Option NS},(∀ v,(x,v)∉binds)->bindL kindOf binds m x=m x
 | [],_,_=>rfl
 | (n,v) :: r,m,h=>by
  unfold bindL
  rw[nY fun w hw=>h w (NU _ hw)]
  split
  ·have:x≠n:=by rintro rfl;exact h v NW
   simp[this]
  ·rfl
theorem nZ {kindOf:Str->Option Qt}{x:Str}:∀ {binds:List (Str×NS)}{m:Str->Option NS},(∀ v,(x,v)∉binds)->bindC kindOf binds m x=m x
 | [],_,_=>rfl
 | (n,v) :: r,m,h=>by
  unfold bindC
  rw[nZ fun w hw=>h w (NU _ hw)]
  split
  ·rfl
  ·have:x≠n:=by rintro rfl;exact h v NW
   simp[this]
theorem n5 {kindOf:Str->Option Qt}{x:Str}{v:NS}:∀ {P:List Str}{vs:List NS}{i:Nat}{m:Str->Option NS},P.Nodup->P[i]?=some x->vs[i]?=some v->kindOf x=some .local →
 bindL kindOf (P.zip vs) m x=some v
 | [],_,_,_,_,h,_,_=>by simp at h
 | _ :: _,[],_,_,_,_,h,_=>by simp at h
 | p :: P,w :: vs,0,m,nd,h1,h2,hk=>by
  simp at h1 h2;subst h1;subst h2
  show bindL kindOf ((p,w) :: P.zip vs) m p=_
  unfold bindL
  rw[nY fun v hv=>(List.nodup_cons.mp nd).1 (Rl hv).1,if_pos hk]
  simp
 | p :: P,w :: vs,i+1,m,nd,h1,h2,hk=>by
  show bindL kindOf ((p,w) :: P.zip vs) m x=_
  unfold bindL
  exact n5 (i:=i) (List.nodup_cons.mp nd).2 (by simpa using h1) (by simpa using h2) hk
theorem n6 {kindOf:Str->Option Qt}{x:Str}{v:NS}:∀ {P:List Str}{vs:List NS}{i:Nat}{m:Str->Option NS},P.Nodup->P[i]?=some x->vs[i]?=some v->kindOf x≠some .local →
 bindC kindOf (P.zip vs) m x=some v
 | [],_,_,_,_,h,_,_=>by simp at h
 | _ :: _,[],_,_,_,_,h,_=>by simp at h
 | p :: P,w :: vs,0,m,nd,h1,h2,hk=>by
  simp at h1 h2;subst h1;subst h2
  show bindC kindOf ((p,w) :: P.zip vs) m p=_
  unfold bindC
  rw[nZ fun v hv=>(List.nodup_cons.mp nd).1 (Rl hv).1,if_neg hk]
  simp
 | p :: P,w :: vs,i+1,m,nd,h1,h2,hk=>by
  show bindC kindOf ((p,w) :: P.zip vs) m x=_
  unfold bindC
  exact n6 (i:=i) (List.nodup_cons.mp nd).2 (by simpa using h1) (by simpa using h2) hk
noncomputable def start (N:List Str) (vs:List V):St:=vs.map some++Od (N.length - vs.length) none
noncomputable def sJ (CX:CXT) (P:Oc) (w:Oo) (K:NO) (mg:Str->Option NS) (base:Heap) (N:List Str) (qual:Str) (scope:OS) (f:N2) (cd:NS) (A:ON) (outer:List Env) (s:NT) (H:Hp) (E:XK):Cx where
 prog:=P
 w:=w
 K:=K
 mg:=mg
 base:=base
 A:=A.deeper (TJ qual scope s.heap.objs.size f cd)
 N:=N
 s₀:=s
 H₀:=H
 env:=TJ qual scope s.heap.objs.size f cd
 outer:=outer
 stack:=TJ qual scope s.heap.objs.size f cd :: outer
 ex:=[]
 calm:=true
 fn:=fun _=>true
 pn:=[]
 xe:=fun e s'=>wpAny (Oi P w) (A.deeper (TJ qual scope s.heap.objs.size f cd)) (leaving (TJ qual scope s.heap.objs.size f cd) e) (fun _ s''=>CX outer H s E e s'') (fun e' s''=>CX outer H s E e' s'') s'
theorem qL {sc:OS}{n:Nat}{x:Str} (h:sc.names.lookup x=some .cell):∃ c,(cellsFrom n sc.names []).lookup x=some c:=by
 have q:=S6 sc.names n [] (.inl h)
 exact Option.isSome_iff_exists.mp q
theorem wm {CX:CXT}{P:Oc}{w:Oo}{K:NO}{mg:Str->Option NS}{base:Heap}{N ps:List Str}{qual:Str}{scope:OS}{f:N2}{cd:NS}{A:ON}{outer:List Env}{s s1:NT}{H:Hp}{E:XK}{us:List NS}{vs:List V}
 (S:fB N ps scope) (hd:A.handled=none) (e0:o4 P w K mg base A outer s H) (hl:vs.length=ps.length) (r:cX vs us)
 (x:InCallC s s.heap.objs.size (bindL (TJ qual scope s.heap.objs.size f cd).kindOf (ps.zip us) fun _=>none) (cellsFrom (s.heap.objs.size+1) scope.names []) (bindC (TJ qual scope s.heap.objs.size f cd).kindOf (ps.zip us) fun _=>none) s1) :
 Inv (sJ CX P w K mg base N qual scope f cd A outer s H E) [] (start N vs) H s1:=by
 have hpl:ps.length<=N.length:=by have:=congrArg Uy S.pre;rw[Q8] at this;lia
 obtain ⟨h1,tk,rfl,hk⟩:=x.done
 have noA:∀ b:N2,b∉(sJ CX P w K mg base N qual scope f cd A outer s H E).ex:=fun b z=>absurd (show b∈([]:List N2) from z) (by simp)
 refine ⟨⟨e0.mod,S.kind,rfl,rfl,N1 _,fun y z c h1 h2=>?_,fun y hy=>?_,fun y c _ h=>?_,fun _=>hd,T5 e0.frames,.inr ⟨rfl,rfl⟩,fun b z=>absurd z (noA b),e0.bs,e0.bsz,fun b _ _=>noA b,fun b z=>absurd z (noA b),e0.jE,e0.frf⟩,
  rfl,e0.bare,Un.kept hk,⟨_,x.toInCall.ns,fun i y v h1 h2 h3=>?_⟩,fun y c h=>⟨_,x.cell y c h⟩,e0.hok.fresh (N1 _),fun y c h=>?_,fun p hp=>absurd (show p∈([]:List (N2×Obj)) from hp) (by simp),e0.hok.kept hk,?_⟩
 ·exact name_of_addr x.apart (Pa h1) (Pa h2)
 ·have hy:scope.names.lookup y=some .cell\/scope.names.lookup y=some .free:=hy
  rcases hy with hy | hy
  ·exact qL hy
  ·exact absurd rfl (S.nofree _ (Pa hy))
 ·exact QN (x.above y c (Pa h))
 ·have hi:i < vs.length:=by
   unfold start at h2
   by_cases hi:i < vs.length
   ·exact hi
   ·rw[Os (by simpa using hi)] at h2
    rw[Qf] at h2
    split at h2<;>cases h2
  have ha:vs[i]?=some v:=by
   unfold start at h2
   rw[N6 (by simpa using hi),OE] at h2
   cases e:vs[i]? with
   | none=>rw[e] at h2;cases h2
   | some a=>rw[e] at h2;cases h2;rfl
  obtain ⟨u,hu,rv⟩:=r.get ha
  have hp:ps[i]?=some y:=by
   rw[← S.pre,Tn (by lia)];exact h1
  have ndP:ps.Nodup:=by rw[← S.pre];exact S.nd.sublist (List.take_sublist _ _)
  refine ⟨u,rv,?_⟩
  rcases S.par y (Oe hp) with k | k
  ·exact .inl ⟨k,n5 ndP hp hu k⟩
  ·obtain ⟨c,e⟩:=qL (n:=s.heap.objs.size+1) k
   refine .inr ⟨.inl k,c,e,?_⟩
   have q:=x.cell y c e
   rw[n6 ndP hp hu (by show scope.names.lookup y≠_;rw[k];decide)] at q
   exact q
 ·exact e0.hok.fresh (QN (x.above y c (Pa h)))
 ·unfold start
  show _=N.length
  rw[Oa,N5,Qz]
  lia
theorem Ii {CX:CXT}{P:Oc}{w:Oo}{K:NO}{mg:Str->Option NS}{base:Heap}{k:Nat}{f:N2}{name qual:Str}{params:RO}{body:List Sw}{scope:OS}{dV kV doc pm cdv ct oc:NS}{an od:Option N2}
 {osl:Array (Option NS)}{N ps:List Str}{sp:Sp} (lk:K.lookup f=some ⟨oc,od,.func (Pn name qual params body scope dV kV doc pm an cdv ct),osl⟩) (hcd:Rj K cdv qual=true) (S:fB N ps scope)
 (len:∀ vs H Q E,sp vs H Q E->vs.length=ps.length)
 (hbody:∀ (A:ON) (outer:List Env) (s:NT) (H:Hp) (vs:List V) (Q:VK) (E:XK),eV k (A.deeper (TJ qual scope s.heap.objs.size f cdv))->sp vs H Q E →
  ∃ t,PSs (sJ CX P w K mg base N qual scope f cdv A outer s H E) body t/\t { nx:=fun _ H'=>Q .non H',rt:=Q } (start N vs) H) :
 gP P w K mg base CX (k+1) f (Pn name qual params body scope dV kV doc pm an cdv ct) ps sp:=by
 refine ⟨len,fun A outer s H args us vs Q E hr e0 hb r hsp=>?_⟩
 have hl:=len _ _ _ _ hsp
 have KX:K.In s.heap:=e0.mod.kin.keeps fun b o e=>(e0.bs b o e).1
 have lim:s.heap.NoLimit:=e0.mod.nolimit.keeps fun b o e=>(e0.bs b o e).1
 have hkind:∀ y∈ps.zip us,scope.names.lookup y.1=some .local\/(scope.names.lookup y.1=some .cell/\((cellsFrom (s.heap.objs.size+1) scope.names []).lookup y.1).isSome=true):=fun ⟨n,v⟩ hy=>by
  rcases S.par n (Rl hy).1 with q | q
  ·exact .inl q
  ·exact .inr ⟨q,S6 _ _ _ (.inl q)⟩
 refine codeAny_call_function hr.depth (KX _ _ lk) rfl S.co S.gen rfl (PySem.W.codeRec_of KX hcd) (hb _ _ _ _ ?_)
 refine wpAny_newFunctionEnv_cells S.kind hkind fun env he s1 x=>?_
 subst he
 refine ⟨lim.keeps x.toInCall.keep,codeAny_func ?_⟩
 obtain ⟨t,ht,hq⟩:=hbody A outer s H vs Q E (hr.deeper _) hsp
 have I:Inv (sJ CX P w K mg base N qual scope f cdv A outer s H E) [] (start N vs) H s1:=wm S hr.hd e0 hl r x
 refine P0 (ht [] s1 (start N vs) H _ I hq) (fun fl s' hs=>?_) fun e s' hs=>hs
 have fin:∀ {σ':St}{H':Hp}{v:V}{u:NS},Inv (sJ CX P w K mg base N qual scope f cdv A outer s H E) [] σ' H' s'->RelV v u->Q v H'->CE outer P w H s Q u s' :=
  fun {σ' H' v u} J rv q=>⟨v,H',J.os,J.bare,J.base,J.hok,rv,q⟩
 cases fl with
 | ret u =>
  obtain ⟨v,σ',H',J,rv,q⟩:=hs
  exact fin J rv q
 | next =>
  obtain ⟨σ',H',J,q⟩:=hs
  exact fin (v:=V.non) (u:=Qj) J rfl q
 | brk =>
  obtain ⟨_,_,_,q⟩:=hs
  exact O6 q
 | cont =>
  obtain ⟨_,_,_,q⟩:=hs
  exact O6 q
end L2
namespace L2
open PySem PySem.Spec PyProof.Rows
section
variable {X:Cx}{x:Str}{p pos:Pos}{e:QF}{es:List QF}{t:TA}{id T:String}{r:List V->Hp->VK->Prop}
noncomputable def tCB (r:List V->Hp->VK->Prop) (t:TA):TE:=fun σ H Q=>t σ H fun vs H1=>r vs H1 Q
theorem gA (hc:eH X (.builtin id) r) (hg:Gl X x) (hm:X.mg x=none) (hv:Q4 x=some (.builtin id)) (ha:PA X (e :: es) t) (hn:x≠"__name__":=by decide) (hdb:(x==("__debug__":Str))=false:=by decide)
 (he:Ow (e :: es) X.env=(false,eval e X.env) :: Ow es X.env:=by rfl) (hpl:(QC pos (Ow es X.env)).any (·.1)=false:=by rfl):PE X (.Call (.Name x p) (e :: es) [] pos) (tCB r t):=by
 intro pins s σ H Q I h
 refine PU (jq I hg hm hv ?_ hn hdb)
 exact PyProof.Rows.callWith_builtin1 (thn (ha pos pins s σ H _ I h) fun us s1 ⟨vs,H1,I1,r1,q1⟩=>hc pins s1 σ H1 vs us Q I1 r1 q1) he hpl
theorem fV (hc:eH X (.type T) r) (hg:Gl X x) (hm:X.mg x=none) (hv:Q4 x=some (.type T)) (ha:PA X (e :: es) t) (hn:x≠"__name__":=by decide) (hdb:(x==("__debug__":Str))=false:=by decide)
 (he:Ow (e :: es) X.env=(false,eval e X.env) :: Ow es X.env:=by rfl) (hpl:(QC pos (Ow es X.env)).any (·.1)=false:=by rfl):PE X (.Call (.Name x p) (e :: es) [] pos) (tCB r t):=by
 intro pins s σ H Q I h
 refine PU (jq I hg hm hv ?_ hn hdb)
 exact O5 (thn (ha pos pins s σ H _ I h) fun us s1 ⟨vs,H1,I1,r1,q1⟩=>hc pins s1 σ H1 vs us Q I1 r1 q1) he hpl
end
end L2
namespace HT
open PySem PyProof.Rows
section
open PySem.SeqAt
open PySem.AutoSeq1 (wpAny_loadPart')
open PySem.MeetsSeq PySem.MeetsSeq2 PySem.MeetsSeq3
end
section
variable {prog:Oc}{w:Oo}{A:ON}{E:NS->NT->Prop}{s:NT}
theorem A8 {t b:N2}{vs ws:List NS}{Q:NS->NT->Prop} (ht:IsTup s.heap t vs.toArray) (hb:IsTup s.heap b ws.toArray) (hv:vs≠[])
 (h1:ws=[]->Q (.ref t) s) (h2:ws≠[]->Q (.ref s.heap.objs.size) { s with heap:=s.heap.push { cls:=.type "tuple",data:=.seq (vs++ws).toArray } })
 (hsz:vs.length+ws.length<=sizeLine):wpAny (Oi prog w) A (Pc .Add (.ref t) (.ref b)) Q E s:=by
 obtain ⟨⟨cls,dd,data,sl⟩,ho,hc,n,hd⟩:=id ht
 obtain ⟨⟨cls2,dd2,data2,sl2⟩,ho2,hc2,n2,hd2⟩:=id hb
 simp only at hc hd hc2 hd2
 subst hc hd hc2 hd2
 have e:vs.toArray++ws.toArray=(vs++ws).toArray:=by simp
 by_cases hw:ws=[]
 ·exact concat_meets ⟨_,ho,rfl⟩ ⟨_,ho2,rfl⟩ Tg UB Q0 QY (QL _ _)
   (tuple_addW1 t b vs.toArray ws.toArray n n2 dd dd2 sl sl2 (by simpa using hv) (by simp[hw])) ⟨ho,ho2,h1 hw⟩
 ·refine concat_meets ⟨_,ho,rfl⟩ ⟨_,ho2,rfl⟩ Tg UB Q0 QY (QL _ _)
   (tuple_addW2 t b vs.toArray ws.toArray n n2 dd dd2 sl sl2 (by simpa using hv) (by simpa using hw) (by rw[NV,NV];exact hsz)) ⟨ho,ho2,?_⟩
  rw[e]
  exact h2 hw
noncomputable def sIx (n d:Nat):Option Int->Nat
 | none=>d
 | some v=>if v < 0 then (v+(n:Int)).toNat else min v.toNat n
theorem EI (n d:Nat) (hd:d<=n) (o:Option Int):sIx n d o<=n:=by
 cases o with
 | none=>exact hd
 | some v =>
  show (if v < 0 then (v+(n:Int)).toNat else min v.toNat n)<=n
  by_cases hv:v < 0
  ·rw[if_pos hv];lia
  ·rw[if_neg hv];exact Nat.min_le_right _ _
theorem uE (v:Int) (n d:Nat):(if v < 0 then max (v+(n:Int)) 0 else min v (n:Int))=((sIx n d (some v):Nat):Int):=by
 show (if v < 0 then max (v+(n:Int)) 0 else min v (n:Int))=(((if v < 0 then (v+(n:Int)).toNat else min v.toNat n):Nat):Int)
 by_cases hv:v < 0
 ·simp only[if_pos hv];lia
 ·simp only[if_neg hv];lia
theorem sL (lo hi:Option Int) (n:Nat):OT lo hi 1 (n:Int)=(((sIx n 0 lo:Nat):Int),((sIx n n hi:Nat):Int)):=by
 have h1:¬ ((1:Int) < 0):=by lia
 unfold OT
 simp only[h1,if_false]
 refine Prod.ext ?_ ?_
 ·cases lo with
  | none=>rfl
  | some v=>exact uE v n 0
 ·cases hi with
  | none=>rfl
  | some v=>exact uE v n n
theorem sM (i j:Nat):OB (i:Int) (j:Int) 1=j - i:=by
 unfold OB
 have h1:(1:Int) > 0:=by lia
 simp only[h1,if_true,Int.ediv_one]
 split<;>lia
theorem lZ {v:NS}{o:Option Int}{Q:Option Int->NT->Prop} (p:Tf v o) (h:Q o s):wpAny (Oi prog w) A (Builtin.Slice.slicePartIndex v) Q E s:=by
 cases p with
 | none=>exact RX h
 | int i t=>exact slicePart_int h
theorem gB {sl:N2}{vl vu:NS}{lo hi:Option Int}{n:Nat}{Q:Int×Int×Nat->NT->Prop} (hs:s.heap.IsSliceOf sl vl vu .none) (pl:Tf vl lo) (pu:Tf vu hi)
 (h:Q (((sIx n 0 lo:Nat):Int),1,sIx n n hi - sIx n 0 lo) s):wpAny (Oi prog w) A (Py (.ref sl) (pure (n:Int))) Q E s:=by
 obtain ⟨os,hos,hcs,hds⟩:=id hs
 unfold Py RN
 refine NP (NP (OQ hos hds (x:=vl) rfl (NP (OQ hos hds (x:=vu) rfl (NP (OQ hos hds (x:=.none) rfl (wpAny_pure ?_)))))))
 refine NP (RX ?_)
 show wpAny _ _ (if ((1:Int)==0)=true then _ else _) _ _ s
 rw[if_neg (by decide)]
 refine NP (lZ pl (NP (lZ pu (NP (wpAny_pure ?_)))))
 show wpAny _ _ (match OT lo hi 1 (n:Int) with | (lo,hi)=>pure (lo,(1:Int),OB lo hi 1)) _ _ s
 rw[sL lo hi n]
 show wpAny _ _ (pure (((sIx n 0 lo:Nat):Int),(1:Int),OB ((sIx n 0 lo:Nat):Int) ((sIx n n hi:Nat):Int) 1)) _ _ s
 rw[sM]
 exact wpAny_pure h
theorem yk (xs:Array NS) (i k:Nat):((PJ k).filterMap fun (m:Nat)=>xs[((i:Int)+(m:Int)*1).toNat]?).toArray=((xs.toList.drop i).take k).toArray:=by
 have e:(fun (m:Nat)=>xs[((i:Int)+(m:Int)*1).toNat]?)=fun m=>xs[i+m]?:=by
  funext m
  have:((i:Int)+(m:Int)*1).toNat=i+m:=by lia
  rw[this]
 rw[e]
 have:=pick_run xs i k
 rw[List.filterMap_map] at this
 have e2:((fun x=>xs[x]?) ∘ fun x=>i+x)=fun m=>xs[i+m]?:=rfl
 rw[e2] at this
 rw[this]
theorem jI {t sl:N2}{items:Array NS}{vl vu:NS}{lo hi:Option Int}{Q:NS->NT->Prop} (ht:IsTup s.heap t items) (hs:s.heap.IsSliceOf sl vl vu .none) (pl:Tf vl lo) (pu:Tf vu hi)
 (hw:¬ (sIx items.size 0 lo=0/\sIx items.size items.size hi=items.size))
 (h:Q (.ref s.heap.objs.size) { s with heap:=s.heap.push { cls:=.type "tuple",data:=.seq ((items.toList.drop (sIx items.size 0 lo)).take (sIx items.size items.size hi - sIx items.size 0 lo)).toArray } })
 (hsz:items.size<=sizeLine):wpAny (Oi prog w) A (Q7 (.ref t) (.ref sl)) Q E s:=by
 have htake:sizeOk (.seq ((items.toList.drop (sIx items.size 0 lo)).take (sIx items.size items.size hi - sIx items.size 0 lo)).toArray):=by
  show ((items.toList.drop (sIx items.size 0 lo)).take (sIx items.size items.size hi - sIx items.size 0 lo)).toArray.size<=sizeLine
  rw[NV,Q8,Q9,Pr]
  lia
 have hj:sIx items.size items.size hi<=items.size:=EI _ _ (N1 _) hi
 obtain ⟨os,hos,hcs,hds⟩:=id hs
 have hTs:s.TypeIs (.ref sl) "slice":=⟨os,hos,hcs⟩
 unfold Q7
 try with_reducible refine Qp ?_
 first | refine NP (wpAny_pure ?_) | skip
 refine NP (SH ht.typeIs (by decide) ?_)
 refine NP (OW (name:=NR "__getitem__") ht.typeIs OH
  (PK OH ht.typeIs Sa ?_ (Sv _ _)))
 show wpAny _ _ (Qw (.ref t) >>= _) _ _ s
 refine NP (UA ht ?_)
 refine NP (SW hTs ?_)
 rw[if_pos (by decide)]
 refine NP (gB hs pl pu ?_)
 have hno:¬ ((((sIx items.size 0 lo:Nat):Int)==0&&(1:Int)==1&&(sIx items.size items.size hi - sIx items.size 0 lo)==items.size)=true):=by
  intro q
  rw[NX,NX] at q
  have q1:((sIx items.size 0 lo:Nat):Int)=0:=eq_of_beq q.1.1
  have q2:sIx items.size items.size hi - sIx items.size 0 lo=items.size:=eq_of_beq q.2
  exact hw ⟨by lia,by lia⟩
 show wpAny _ _ (if (((sIx items.size 0 lo:Nat):Int)==0&&(1:Int)==1&&(sIx items.size items.size hi - sIx items.size 0 lo)==items.size)=true then _ else _) _ _ s
 rw[if_neg hno,yk]
 first
  | exact NP (m:=OD _) (OO (wpAny_pure ⟨_,rfl,wpAny_pure h⟩) htake)
  | exact NP (m:=OD _) (OO (NP (wpAny_pure (wpAny_pure ⟨_,rfl,wpAny_pure h⟩))) htake)
  | exact NP (NP (m:=OD _) (OO (wpAny_pure (wpAny_pure ⟨_,rfl,wpAny_pure h⟩)) htake))
  | exact NP (NP (m:=OD _) (OO (wpAny_pure ⟨_,rfl,wpAny_pure h⟩) htake))
end
end HT
namespace L2
open PySem PySem.Spec PyProof.Rows
noncomputable abbrev TO:=St->Hp->(Option Int->Hp->Prop)->Prop
noncomputable def PO (X:Cx) (e:Option QF) (t:TO):Prop :=
 ∀ (pins:List (N2×Obj)) (s:NT) (σ:St) (H:Hp) (Q:Option Int->Hp->Prop),Inv X pins σ H s->t σ H Q →
  wpAny (Oi X.prog X.w) X.A (evalPart e X.env) (fun u s'=>∃ o H',Inv X pins σ H' s'/\Tf u o/\Q o H') X.xe s
noncomputable def A9:TO:=fun _ H Q=>Q none H
noncomputable def Ij (t:TE):TO:=fun σ H Q=>t σ H fun x H1=>∃ i,x=.int i/\Q (some i) H1
section
variable {X:Cx}{e:QF}{te:TE}{lo hi:Option QF}{tl th:TO}{pos p2:Pos}
theorem Ba:PO X none A9:=by
 intro pins s σ H Q I h
 rw[Rp]
 exact wpAny_pure ⟨none,H,I,.none,h⟩
theorem Bb (h:PE X e te):PO X (some e) (Ij te):=by
 intro pins s σ H Q I hw
 rw[Sq]
 refine thn (h pins s σ H _ I hw) fun u s1 zq=>?_
 obtain ⟨x,H1,I1,r1,q1⟩:=zq
 obtain ⟨i,rfl,q⟩:=q1
 obtain ⟨t,rfl⟩:=r1
 exact ⟨some i,H1,I1,.int i t,q⟩
noncomputable def SlR (X:Cx) (r:V->Option Int->Option Int->Hp->VK->Prop):Prop :=
 ∀ (pins:List (N2×Obj)) (s:NT) (σ:St) (H:Hp) (x:V) (v vl vu:NS) (lo hi:Option Int) (sl:N2) (Q:VK),Inv X pins σ H s->RelV x v->s.heap.IsSliceOf sl vl vu .none->Tf vl lo->Tf vu hi->r x lo hi H Q →
  ∃ T id,typeLookup (.type T) "__getitem__"=pure (some (.builtin id))/\s.TypeIs v T/\wpAny (Oi X.prog X.w) X.A (Q7 v (.ref sl)) (EP X pins σ Q) X.xe s
noncomputable def tSl (r:V->Option Int->Option Int->Hp->VK->Prop) (te:TE) (tl th:TO):TE:=fun σ H Q=>te σ H fun x H1=>tl σ H1 fun l H2=>th σ H2 fun u H3=>r x l u H3 Q
theorem yl {r:V->Option Int->Option Int->Hp->VK->Prop} (hr:SlR X r) (he:PE X e te) (hl:PO X lo tl) (hu:PO X hi th):PE X (.Subscript e (.Slice lo hi none p2) pos) (tSl r te tl th):=by
 intro pins s σ H Q I h
 refine SK (thn (he pins s σ H _ I h) fun v s1 zq=>?_)
 obtain ⟨x,H1,I1,r1,q1⟩:=zq
 refine Tz (thn (hl pins s1 σ H1 _ I1 q1) fun vl s2 ⟨l,H2,I2,pl,q2⟩=>thn (hu pins s2 σ H2 _ I2 q2) fun vu s3 zq=>?_)
 obtain ⟨u,H3,I3,pu,q3⟩:=zq
 rw[Rp]
 refine wpAny_pure ?_
 have I4:Inv X pins σ H3 { s3 with heap:=s3.heap.push { cls:=.type "slice",data:=.fields #[vl,vu,.none] } }:=I3.kept (t':=s3.toks) fun b ob q=>NQ _ q
 obtain ⟨T,id,hT,ht,hg⟩:=hr pins { s3 with heap:=s3.heap.push { cls:=.type "slice",data:=.fields #[vl,vu,.none] } } σ H3 x v vl vu l u s3.heap.objs.size Q I4 r1 (Qu ..) pl pu q3
 show wpAny (Oi X.prog X.w) X.A (Rn e (.Slice lo hi none p2) v (.ref s3.heap.objs.size)) (EP X pins σ Q) X.xe { s3 with heap:=s3.heap.push { cls:=.type "slice",data:=.fields #[vl,vu,.none] } }
 exact So (ops:=[.ref s3.heap.objs.size,v]) ht hT hg (by with_unfolding_all rfl)
noncomputable def qM (xs:List V) (lo hi:Option Int):List V:=(xs.drop (HT.sIx xs.length 0 lo)).take (HT.sIx xs.length xs.length hi - HT.sIx xs.length 0 lo)
theorem kX (xs:List V) (lo hi:Option Int):(qM xs lo hi).length<=xs.length:=by
 unfold qM
 rw[Q8,Q9]
 lia
noncomputable def Lu (K:NO):V->Option Int->Option Int->Hp->VK->Prop:=fun x lo hi H Q=>∃ a xs,x=.ref a/\SqT K H a xs ∧
 ¬ (HT.sIx xs.length 0 lo=0/\HT.sIx xs.length xs.length hi=xs.length)/\∀ p,H p=none->Q (.ref p) (upd H p (.tup (qM xs lo hi)))
theorem EJ:SlR X (Lu X.K):=by
 intro pins s σ H x v vl vu lo hi sl Q I rx hs pl pu h
 obtain ⟨a,xs,rfl,hx,hw,q⟩:=h
 cases rx
 obtain ⟨its,r,ht,hz⟩:=I.tuple hx
 have hlen:its.toArray.size=xs.length:=by rw[NV];exact r.length.symm
 refine ⟨"tuple",_,PyProof.Rows.slot_tuple_getitem.lookup,ht.typeIs,?_⟩
 refine HT.jI ht hs pl pu (by rw[hlen];exact hw) ?_ (by rw[hlen];exact hz)
 rw[hlen]
 refine ⟨.ref s.heap.objs.size,_,I.laid (t':=s.toks) (o:=.tup (qM xs lo hi)) (fun b ob q=>NQ _ q) (N1 _) ?_,rfl,q _ (I.hok.fresh (N1 _))⟩
 exact ⟨Om (kX xs lo hi) hz,_,(r.drop (HT.sIx xs.length 0 lo)).take (HT.sIx xs.length xs.length hi - HT.sIx xs.length 0 lo),IsTup.new _ _⟩
noncomputable def Ik (K:NO):R2:=fun x y H Q=>∃ a b xs ys,x=.ref a/\y=.ref b/\SqT K H a xs/\SqT K H b ys/\xs≠[]/\xs.length+ys.length<=sizeLine ∧
 (ys=[]->Q (.ref a) H)/\(ys≠[]->∀ p,H p=none->Q (.ref p) (upd H p (.tup (xs++ys))))
theorem cX.jJ {xs:List V}{us:List NS} (r:cX xs us):us=[]↔xs=[]:=by
 cases r with
 | nil=>simp
 | cons _ _=>simp
theorem Bc:OpR X (Pc .Add) (Ik X.K):=by
 intro pins s σ H x y v u Q I rx ry h
 obtain ⟨a,b,xs,ys,rfl,rfl,ha,hb,hx,hz,q1,q2⟩:=h
 cases rx
 cases ry
 obtain ⟨its,r1,p1,_⟩:=I.tuple ha
 obtain ⟨its2,r2,p2,_⟩:=I.tuple hb
 refine HT.A8 p1 p2 (fun z=>hx (r1.jJ.mp z)) (fun z=>⟨.ref a,H,I,rfl,q1 (r2.jJ.mp z)⟩) (fun z=>?_) (by rw[← r1.length,← r2.length];exact hz)
 refine ⟨.ref s.heap.objs.size,_,I.laid (t':=s.toks) (o:=.tup (xs++ys)) (fun b ob q=>NQ _ q) (N1 _) ?_,rfl,q2 (fun w=>z (r2.jJ.mpr w)) _ (I.hok.fresh (N1 _))⟩
 exact ⟨by rw[Oa];exact hz,_,r1.append r2,IsTup.new _ _⟩
end
end L2
namespace L2
open PySem PySem.Spec PyProof.Rows
noncomputable def ixN (n:Nat) (i:Int):Option Nat:=if 0<=i then (if i < n then some i.toNat else none) else if -(n:Int)<=i then some (i+n).toNat else none
noncomputable def atI {α:Type} (xs:List α) (i:Int):Option α:=(ixN xs.length i).bind fun j=>xs[j]?
theorem uF {n:Nat}{i:Int}{j:Nat} (h:ixN n i=some j):seqIndex? i n=some j/\j < n/\-(n:Int)<=i/\i < n:=by
 unfold ixN at h
 by_cases h0:0<=i
 ·rw[if_pos h0] at h
  by_cases h1:i < n
  ·rw[if_pos h1] at h
   have e:i.toNat=j:=N4 h
   exact ⟨by rw[seqIndex_of h0 h1,e],by lia,by lia,h1⟩
  ·rw[if_neg h1] at h;cases h
 ·rw[if_neg h0] at h
  by_cases h1:-(n:Int)<=i
  ·rw[if_pos h1] at h
   have e:(i+n).toNat=j:=N4 h
   exact ⟨by rw[seqIndex_neg (by lia) h1,e],by lia,h1,by lia⟩
  ·rw[if_neg h1] at h;cases h
theorem o6 {α:Type}{xs:List α}{i:Int}{v:α} (h:atI xs i=some v):∃ j,seqIndex? i xs.length=some j/\xs[j]?=some v/\j < xs.length/\-(xs.length:Int)<=i/\i < xs.length:=by
 unfold atI at h
 cases e:ixN xs.length i with
 | none=>rw[e] at h;cases h
 | some j =>
  rw[e] at h
  obtain ⟨h1,h2,h3,h4⟩:=uF e
  exact ⟨j,h1,h,h2,h3,h4⟩
noncomputable def uG (b:QF):Prop:=∀ o i,subscripted b false o i=operate [o,i] (Q7 o i)
noncomputable def IxR (X:Cx) (r:R2):Prop :=
 ∀ (value slice:QF) (pins:List (N2×Obj)) (s:NT) (σ:St) (H:Hp) (x y:V) (v u:NS) (Q:VK),Inv X pins σ H s->RelV x v->RelV y u->r x y H Q →
  subscripted slice false v u=operate [v,u] (Q7 v u)->wpAny (Oi X.prog X.w) X.A (Rn value slice v u) (EP X pins σ Q) X.xe s
noncomputable def MtR (X:Cx) (id:String) (r:V->List V->Hp->VK->Prop):Prop :=
 ∀ (pins:List (N2×Obj)) (s:NT) (σ:St) (H:Hp) (x:V) (xs:List V) (v:NS) (us:List NS) (Q:VK),Inv X pins σ H s->RelV x v->cX xs us->r x xs H Q →
  wpAny (Oi X.prog X.w) X.A (call (.builtin id) (v :: us)) (EP X pins σ Q) X.xe s
section
variable {X:Cx}{a b:QF}{ta tb:TE}{pos:Pos}
theorem Il {r:R2} (hr:IxR X r) (ha:PE X a ta) (hb:PE X b tb) (hs:uG b):PE X (.Subscript a b pos) (tOp r ta tb):=by
 intro pins s σ H Q I h
 exact SK (Eu ha hb I h fun v u s2 x y H2 I2 rx ry q=>hr a b pins s2 σ H2 x y v u Q I2 rx ry q (hs _ _))
noncomputable def Lv (K:NO):R2:=fun x y H Q=>∃ p xs i v,x=.ref p/\y=.int i/\SqL K H p xs/\atI xs i=some v/\Q v H
noncomputable def Lx (K:NO):R2:=fun x y H Q=>∃ p xs i v,x=.ref p/\y=.int i/\SqT K H p xs/\atI xs i=some v/\Q v H
noncomputable def Ly:R2:=fun x y H Q=>∃ z i c,x=.str z/\y=.int i/\z.length<=sizeLine/\atI z.cps.toList i=some c/\Q (.str ⟨#[c]⟩) H
theorem Bd:IxR X (Lv X.K):=by
 intro value slice pins s σ H x y v u Q I rx ry h hs
 obtain ⟨p,xs,i,z,rfl,rfl,hq,he,q⟩:=h
 cases rx
 obtain ⟨t,rfl⟩:=ry
 obtain ⟨its,r,pl,hz⟩:=I.list hq
 obtain ⟨j,h1,h2,h3,h4,h5⟩:=o6 he
 obtain ⟨w,ew,rw'⟩:=r.get h2
 have hl:=r.length
 have hn:=ko
 have fin:EP X pins σ Q w s:=⟨z,H,I,rw',q⟩
 by_cases h0:0<=i
 ·have hj:i.toNat=j:=by
   rw[seqIndex_of h0 h5] at h1
   exact N4 h1
  exact item_listR pl.isList h0 (by lia) (by rw[hj];simpa using ew) fin hs
 ·have hj:(i+(its.toArray.size:Int)).toNat=j:=by
   rw[seqIndex_neg (by lia) h4] at h1
   rw[NV,← hl]
   exact N4 h1
  exact subscriptTail_builtinR (x:=w) pl.isList.typeIs slot_list_getitem.lookup
   (wpAny_getItem_list_neg (Q:=fun r s'=>r=w/\EP X pins σ Q r s') pl.isList (by lia) (by rw[NV]<;>lia) (by lia) (by rw[hj];simpa using ew) ⟨rfl,fin⟩) hs
theorem EK:IxR X (Lx X.K):=by
 intro value slice pins s σ H x y v u Q I rx ry h hs
 obtain ⟨p,xs,i,z,rfl,rfl,hq,he,q⟩:=h
 cases rx
 obtain ⟨t,rfl⟩:=ry
 obtain ⟨its,r,pl,hz⟩:=I.tuple hq
 obtain ⟨j,h1,h2,h3,h4,h5⟩:=o6 he
 obtain ⟨w,ew,rw'⟩:=r.get h2
 have hl:=r.length
 have hn:=ko
 have fin:EP X pins σ Q w s:=⟨z,H,I,rw',q⟩
 exact subscriptTail_builtinR (x:=w) pl.typeIs slot_tuple_getitem.lookup
  (getItem_tuple (j:=j) (Q:=fun r s'=>r=w/\EP X pins σ Q r s') pl (by lia) (by lia) (by rw[NV,← hl];exact h1) (by simpa using ew) ⟨rfl,fin⟩) hs
theorem EL:IxR X Ly:=by
 intro value slice pins s σ H x y v u Q I rx ry h hs
 obtain ⟨z,i,c,rfl,rfl,hz,he,q⟩:=h
 obtain ⟨t,rfl⟩:=rx
 obtain ⟨t',rfl⟩:=ry
 obtain ⟨j,h1,h2,h3,h4,h5⟩:=o6 he
 have hl:z.cps.toList.length=z.length:=by simp[Str.length]
 rw[hl] at h1 h4 h5
 have hn:=ko
 exact So (typeIs_str s z t) slot_str_getitem.lookup (getItem_str (c:=c) (by
  have e1:decide (i < -(2 ^ 63:Int))=false:=decide_eq_false (by lia)
  have e2:decide (i ≥ 2 ^ 63)=false:=decide_eq_false (by lia)
  rw[e1,e2,Bool.or_false]) (by rw[h1];simpa using h2) ⟨.str ⟨#[c]⟩,H,I.tok _,⟨_,rfl⟩,q⟩) hs
theorem sN (its:List NS) (n j:Nat) (u:NS):Rv (·.setIfInBounds j u) { cls:=.type "list",data:=.seq its.toArray n }={ cls:=.type "list",data:=.seq (its.set j u).toArray n }:=by
 simp[Rv]
theorem Inv.lst {pins:List (N2×Obj)}{σ:St}{H:Hp}{s:NT}{p:N2}{xs:List V} (I:Inv X pins σ H s) (h:H p=some (.lst xs)) :
 ∃ (its:List NS) (n:Nat),cX xs its/\s.heap.get? p=some { cls:=.type "list",data:=.seq its.toArray n }/\xs.length<=sizeLine:=by
 obtain ⟨z,its,n,r,e⟩:=I.hok p _ h
 exact ⟨its,n,r,e,z⟩
theorem Inv.EM {pins:List (N2×Obj)}{σ:St}{H:Hp}{s:NT}{p:N2}{xs ys:List V}{its its':List NS}{n n':Nat}{f:Obj->Obj} (I:Inv X pins σ H s) (h:H p=some (.lst xs))
 (ho:s.heap.get? p=some { cls:=.type "list",data:=.seq its.toArray n }) (hf:f { cls:=.type "list",data:=.seq its.toArray n }={ cls:=.type "list",data:=.seq its'.toArray n' }) (r:cX ys its') (hz:ys.length<=sizeLine) (t:Nat) :
 Inv X pins σ (upd H p (.lst ys)) { s with heap:=s.heap.update p f,toks:=t }:=by
 have e:(s.heap.update p f).get? p=some { cls:=.type "list",data:=.seq its'.toArray n' }:=by
  rw[Ud f ho (by rw[hf]<;>rfl),hf]
 refine I.write (x:=p) (e:=p) (by rw[h];trivial) (.inl rfl) (fun b u hb q=>(TY _ _ (Re hb)).trans q) ⟨_,e⟩ ?_
 exact ⟨hz,its',n',r,e⟩
noncomputable def DH:V->V->V->Hp->(Hp->Prop)->Prop:=fun o i v H Q=>∃ p xs k j,o=.ref p/\i=.int k/\H p=some (.lst xs)/\ixN xs.length k=some j/\Q (upd H p (.lst (xs.set j v)))
theorem set_list:HL X DH:=by
 intro pins s σ H o i v ov iv u Q I ro ri rv h
 obtain ⟨p,xs,k,j,rfl,rfl,hp,hj,q⟩:=h
 cases ro
 obtain ⟨t,rfl⟩:=ri
 obtain ⟨its,n,r,ho,hz⟩:=I.lst hp
 obtain ⟨h1,h2,h3,h4⟩:=uF hj
 have hl:=r.length
 have hn:=ko
 have I':Inv X pins σ (upd H p (.lst (xs.set j v))) { s with heap:=s.heap.update p (Rv (·.setIfInBounds j u)) } :=
  I.EM hp ho (sN its n j u) (r.set rv j) (by rw[List.length_set];exact hz) s.toks
 by_cases h0:0<=k
 ·have hk:k.toNat=j:=by
   rw[seqIndex_of h0 h4] at h1
   exact N4 h1
  exact PySem.W.ki_setAt ho h0 (by lia) (by rw[NV,← hl];exact h4) (by rw[hk];exact ⟨_,I',q⟩)
 ·have hk:(k+(its.toArray.size:Int)).toNat=j:=by
   rw[seqIndex_neg (by lia) h3] at h1
   rw[NV,← hl]
   exact N4 h1
  exact PySem.W.ki_setBack ho (by lia) (by rw[NV,← hl];exact h3) (by lia) (by rw[hk];exact ⟨_,I',q⟩)
theorem o7 (lo hi:Option Int) (n:Nat):(OM lo hi none n).1=((HT.sIx n 0 lo:Nat):Int)/\(OM lo hi none n).2.1=((HT.sIx n n hi:Nat):Int)/\(OM lo hi none n).2.2=1:=by
 refine ⟨?_,?_,rfl⟩
 ·cases lo with
  | none=>simp[OM,HT.sIx]
  | some i =>
   simp only[OM,HT.sIx,UK,show (1:Int) > 0 by decide,if_true]
   by_cases h:i < 0
   ·simp only[h,if_true]<;>lia
   ·simp only[h,if_false]<;>lia
 ·cases hi with
  | none=>simp[OM,HT.sIx]
  | some i =>
   simp only[OM,HT.sIx,UK,show (1:Int) > 0 by decide,if_true]
   by_cases h:i < 0
   ·simp only[h,if_true]<;>lia
   ·simp only[h,if_false]<;>lia
theorem nE (its:List NS) (lo hi:Option Int):slicePick its.toArray lo hi none=((its.drop (HT.sIx its.length 0 lo)).take (HT.sIx its.length its.length hi - HT.sIx its.length 0 lo)).toArray:=by
 obtain ⟨h1,h2,h3⟩:=o7 lo hi its.toArray.size
 unfold slicePick
 rw[h1,h2,h3]
 simp only[sliceRange_one,pick_run,NV]<;>rfl
noncomputable def Lz (K:NO):V->Option Int->Option Int->Hp->VK->Prop:=fun x lo hi H Q=>∃ a xs,x=.ref a/\SqL K H a xs/\∀ p,H p=none->Q (.ref p) (upd H p (.lst (qM xs lo hi)))
theorem Be:SlR X (Lz X.K):=by
 intro pins s σ H x v vl vu lo hi sl Q I rx hs pl pu h
 obtain ⟨a,xs,rfl,hx,q⟩:=h
 cases rx
 obtain ⟨its,r,ht,hz⟩:=I.list hx
 have hlen:=r.length
 refine ⟨"list",_,slot_list_getitem.lookup,ht.isList.typeIs,?_⟩
 refine Uq ht.isList hs pl pu .none (by simp) ?_ (by rw[NV]<;>lia)
 rw[nE,← hlen]
 refine ⟨.ref s.heap.objs.size,_,I.laid (t':=s.toks) (o:=.lst (qM xs lo hi)) (fun b ob q=>NQ _ q) (N1 _) ?_,rfl,q _ (I.hok.fresh (N1 _))⟩
 exact ⟨Om (kX xs lo hi) hz,_,0,(r.drop (HT.sIx xs.length 0 lo)).take (HT.sIx xs.length xs.length hi - HT.sIx xs.length 0 lo),N9 _ rfl⟩
theorem jK:eH X (.builtin "len") (fun xs H Q=>∃ p ys,xs=[.ref p]/\(SqL X.K H p ys\/SqT X.K H p ys)/\Q (.int ys.length) H):=by
 intro pins s σ H xs us Q I r h
 obtain ⟨p,ys,rfl,hq,q⟩:=h
 obtain ⟨u,rfl,rx⟩:=vals1 r
 cases rx
 have hn:=ko
 rcases hq with hq | hq
 ·obtain ⟨its,r',pl,hz⟩:=I.list hq
  have hlen:=r'.length
  exact Calls.call_len_list pl.isList (by simp only[NV]<;>lia) ⟨.int ys.length,H,I.tok _,⟨s.toks+1,by rw[NV,hlen]⟩,q⟩
 ·obtain ⟨its,r',pl,hz⟩:=I.tuple hq
  have hlen:=r'.length
  exact len_tuple pl (by simp only[NV]<;>lia) ⟨.int ys.length,H,I.tok _,⟨s.toks+1,by rw[NV,hlen]⟩,q⟩
theorem o8:eH X (.builtin "len") (fun xs H Q=>∃ z,xs=[.str z]/\z.length<=sizeLine/\Q (.int z.length) H):=by
 intro pins s σ H xs us Q I r h
 obtain ⟨z,rfl,hz,q⟩:=h
 obtain ⟨u,rfl,t,rfl⟩:=vals1 r
 have hn:=ko
 exact len_str (by lia) ⟨.int z.length,H,I.tok _,⟨_,rfl⟩,q⟩
theorem jL:eH X (.type "list") (fun xs H Q=>∃ p ys,xs=[.ref p]/\(SqL X.K H p ys\/SqT X.K H p ys)/\∀ l,H l=none->Q (.ref l) (upd H l (.lst ys))):=by
 intro pins s σ H xs us Q I r h
 obtain ⟨p,ys,rfl,hq,q⟩:=h
 obtain ⟨u,rfl,rx⟩:=vals1 r
 cases rx
 have fin:∀ (its:List NS),cX ys its->ys.length<=sizeLine->∀ (h':Heap) (c':Nat),(∀ b o',s.heap.get? b=some o'->h'.get? b=some o') →
  h'.get? s.heap.objs.size=some { cls:=.type "list",dict:=none,data:=.seq its.toArray c',slots:=#[] }->EP X pins σ Q (.ref s.heap.objs.size) { s with heap:=h' }:=fun its r' hz h' c' kp e =>
  ⟨.ref s.heap.objs.size,_,I.laid (t':=s.toks) kp (N1 _) (show fF X.prog X.w _ h' _ (.lst ys) from ⟨hz,its,c',r',e⟩),rfl,q _ (I.hok.fresh (N1 _))⟩
 rcases hq with hq | hq
 ·obtain ⟨its,r',pl,hz⟩:=I.list hq
  have hlen:=r'.length
  obtain ⟨o,ho,hc,n,hd⟩:=pl.isList
  exact call_list_seq p (.inl rfl) ho hc hd (fun h' c' kp e=>fin its r' hz h' c' kp e) (by simp only[NV]<;>lia)
 ·obtain ⟨its,r',pl,hz⟩:=I.tuple hq
  have hlen:=r'.length
  obtain ⟨o,ho,hc,n,hd⟩:=pl
  exact call_list_seq p (.inr rfl) ho hc hd (fun h' c' kp e=>fin its r' hz h' c' kp e) (by simp only[NV]<;>lia)
theorem jo:eH X (.type "tuple") (fun xs H Q=>∃ p ys,xs=[.ref p]/\((SqL X.K H p ys/\∀ l,H l=none->Q (.ref l) (upd H l (.tup ys)))\/(SqT X.K H p ys/\Q (.ref p) H))):=by
 intro pins s σ H xs us Q I r h
 obtain ⟨p,ys,rfl,h⟩:=h
 obtain ⟨u,rfl,rx⟩:=vals1 r
 cases rx
 rcases h with ⟨hq,q⟩ | ⟨hq,q⟩
 ·obtain ⟨its,r',pl,hz⟩:=I.list hq
  have hlen:=r'.length
  refine call_tuple_list pl.isList (fun h' kp=>?_) (by simp only[NV]<;>lia)
  have I1:Inv X pins σ H { s with heap:=h' }:=I.kept (t':=s.toks) kp
  have I2:Inv X pins σ (upd H h'.objs.size (.tup ys)) { s with heap:=h'.push { cls:=.type "tuple",data:=.seq its.toArray } } :=
   I1.laid (t':=s.toks) (fun b o e=>NQ _ e) (N1 _) (show fF X.prog X.w _ _ _ (.tup ys) from ⟨hz,its,r',IsTup.new _ _⟩)
  exact ⟨.ref h'.objs.size,_,I2,rfl,q _ (I1.hok.fresh (N1 _))⟩
 ·obtain ⟨its,r',pl,hz⟩:=I.tuple hq
  exact call_tuple_same pl ⟨.ref p,H,I,rfl,q⟩
noncomputable def tyV (K:NO) (T:String) (x:V) (H:Hp):Prop:=match x with
 | .str _=>T="str"
 | .int _=>T="int"
 | .ref p=>(T="list"/\∃ xs,SqL K H p xs)\/(T="tuple"/\∃ o,K.lookup p=some o/\o.cls=.type "tuple"/\o.dict=none) ∨
  (T="dict"/\((∃ kvs,H p=some (.dK kvs))\/∃ kvs,H p=some (.dT kvs)))\/(T="set"/\∃ S n,H p=some (.set S n))
 | _=>False
theorem ym {pins:List (N2×Obj)}{σ:St}{H:Hp}{s:NT}{T:String}{x:V}{v:NS} (I:Inv X pins σ H s) (r:RelV x v) (ty:tyV X.K T x H) :
 s.TypeIs v T/\∀ a,v=.ref a->∃ ob,s.heap.get? a=some ob/\ob.dict=none:=by
 cases x with
 | str z =>
  obtain ⟨t,rfl⟩:=r
  cases (show T="str" from ty)
  exact ⟨typeIs_str s z t,fun _ e=>nomatch e⟩
 | int i =>
  obtain ⟨t,rfl⟩:=r
  cases (show T="int" from ty)
  exact ⟨typeIs_int s i t,fun _ e=>nomatch e⟩
 | ref p =>
  cases r
  rcases ty with ⟨rfl,xs,hq⟩ | ⟨rfl,o,hk,hc,hd⟩ | ⟨rfl,hk⟩ | ⟨rfl,S,n,hk⟩
  ·obtain ⟨its,_,pl,_⟩:=I.list hq
   refine ⟨pl.isList.typeIs,fun a e=>?_⟩
   cases e
   obtain ⟨o,n,e,c,hd,_⟩:=pl
   exact ⟨o,e,hd⟩
  ·refine ⟨⟨o,I.kIn p o hk,hc⟩,fun a e=>?_⟩
   cases e
   exact ⟨o,I.kIn _ o hk,hd⟩
  ·have z:∃ o,s.heap.get? p=some o/\o.ExactDict:=by
    rcases hk with ⟨kvs,hk⟩ | ⟨kvs,hk⟩
    ·obtain ⟨_,_,_,_,o,_,_,e,ex,_⟩:=I.hok p _ hk
     exact ⟨o,e,ex⟩
    ·obtain ⟨_,_,_,_,o,_,_,e,ex,_⟩:=I.hok p _ hk
     exact ⟨o,e,ex⟩
   obtain ⟨o,e,ex⟩:=z
   refine ⟨⟨o,e,ex.1⟩,fun a e2=>?_⟩
   cases e2
   exact ⟨o,e,ex.2.1⟩
  ·obtain ⟨o,_,_,_,e,ex,_⟩:=I.hok p _ hk
   refine ⟨⟨o,e,ex.1⟩,fun a e2=>?_⟩
   cases e2
   exact ⟨o,e,ex.2.1⟩
 | _=>exact O6 ty
noncomputable def LC (K:NO) (T:String) (r:V->List V->Hp->VK->Prop) (to:TE):TE:=fun σ H Q=>to σ H fun x H1=>tyV K T x H1/\r x [] H1 Q
noncomputable def tBM (K:NO) (T:String) (r:V->List V->Hp->VK->Prop) (to:TE) (t:TA):TE:=fun σ H Q=>to σ H fun x H1=>tyV K T x H1/\t σ H1 fun xs H2=>r x xs H2 Q
variable {o e:QF}{es:List QF}{to:TE}{t:TA}{name:Str}{apos cpos:Pos}{T id:String}{r:V->List V->Hp->VK->Prop}
theorem EO (pa:Uv T) (slot:Slot T name id) (hty:typeOf (.builtin id)=pure (.type "method_descriptor")) (hm:MtR X id r) (ho:PE X o to)
 (hbase:Rq o name X.env (eval o X.env)=eval o X.env:=by rfl) (hline:(apos.endLine==cpos.line)=true:=by rfl):PE X (.Call (.Attribute o name apos) [] [] cpos) (LC X.K T r to):=by
 intro pins s σ H Q I h
 refine wpAny_Call_method0_late hbase hline (thn (ho pins s σ H _ I h) fun v s1 zq=>?_)
 obtain ⟨x,H1,I1,r1,ty,q1⟩:=zq
 obtain ⟨h1,h2⟩:=ym I1 r1 ty
 exact ⟨T,id,pa,slot,hty,h1,h2,Rc rfl (PySem.evalArgs_none (hm pins s1 σ H1 x [] v [] Q I1 r1 .nil q1))⟩
theorem DI (pa:Uv T) (slot:Slot T name id) (hty:typeOf (.builtin id)=pure (.type "method_descriptor")) (hm:MtR X id r) (ho:PE X o to) (ha:PA X (e :: es) t)
 (hbase:Rq o name X.env (eval o X.env)=eval o X.env:=by rfl)
 (hfew:((QC cpos (Ow (e :: es) X.env)).all (fun x=>!x.1)&&(Su cpos (QV [] X.env)).all (fun x=>x.1.isSome)
 &&decide ((e :: es).length+([]:List QJ).length+(if ([]:List QJ).isEmpty then 0 else 1) < 30))=true:=by rfl)
 (hline:(apos.endLine==cpos.line)=true:=by rfl) (hs:Ow (e :: es) X.env=(false,eval e X.env) :: Ow es X.env:=by rfl) (hplain:(QC cpos (Ow es X.env)).any (·.1)=false:=by rfl) :
 PE X (.Call (.Attribute o name apos) (e :: es) [] cpos) (tBM X.K T r to t):=by
 intro pins s σ H Q I h
 refine wpAny_Call_method_late hbase hfew hline rfl (thn (ho pins s σ H _ I h) fun v s1 zq=>?_)
 obtain ⟨x,H1,I1,r1,ty,q1⟩:=zq
 obtain ⟨h1,h2⟩:=ym I1 r1 ty
 refine ⟨T,id,pa,slot,hty,h1,h2,?_⟩
 have hA:=ha cpos pins s1 σ H1 _ I1 q1
 rw[hs] at hA ⊢
 refine Rc (by show (false||(QC cpos (Ow es X.env)).any (·.1))=false;rw[hplain]<;>rfl) (Ug ?_)
 exact thn hA fun us s2 ⟨vs,H2,I2,r2,q2⟩=>hm pins s2 σ H2 x vs v us Q I2 r1 r2 q2
/- xs.append(e),list.index on a module's tuple .. are MtR facts of 06m -/
end
end L2
namespace L2
open PySem PySem.Spec PyProof.Rows
noncomputable def MtM (X:Cx) (id:String) (r:V->List V->Hp->VK->Prop):Prop :=
 ∀ (pins:List (N2×Obj)) (s:NT) (σ:St) (H:Hp) (x:V) (xs:List V) (v:NS) (us:List NS) (Q:VK),Inv X pins σ H s->RelV x v->cX xs us->r x xs H Q →
  wpAny (Oi X.prog X.w) X.A (call (.builtin id) (v :: us)) (EP X pins σ Q) X.xe s
theorem cX.one {x:V}{us:List NS} (h:cX [x] us):∃ u,us=[u]/\RelV x u:=by
 cases h with | cons r t=>cases t;exact ⟨_,rfl,r⟩
theorem cX.two {x y:V}{us:List NS} (h:cX [x,y] us):∃ u v,us=[u,v]/\RelV x u/\RelV y v:=by
 cases h with | cons r t=>obtain ⟨v,rfl,q⟩:=cX.one t;exact ⟨_,v,rfl,r,q⟩
theorem cX.zero:∀ {us:List NS},cX [] us->us=[]
 | _,.nil=>rfl
theorem cX.dropLast {xs:List V}{us:List NS} (h:cX xs us):cX xs.dropLast us.dropLast:=by
 induction h with
 | nil=>exact .nil
 | cons r t ih =>
  cases t with
  | nil=>exact .nil
  | cons q t'=>exact .cons r ih
theorem cX.rep {xs:List V}{us:List NS} (h:cX xs us):∀ k:Nat,cX (Od k xs).flatten (Od k us).flatten
 | 0=>.nil
 | k+1=>by
  rw[Pb,Pb,O7,O7]
  exact cX.append h (cX.rep h k)
theorem sO {α:Type} (l:List α):l.eraseIdx (l.length - 1)=l.dropLast:=by
 induction l with
 | nil=>rfl
 | cons a r ih =>
  cases r with
  | nil=>rfl
  | cons b r =>
   have e:(a :: b :: r).length - 1=((b :: r).length - 1)+1:=by
    have h1:(a :: b :: r).length=r.length+2:=rfl
    have h2:(b :: r).length=r.length+1:=rfl
    lia
   rw[e,List.eraseIdx_cons_succ,ih]
   all_goals rfl
theorem foldl_rep (its:List NS):∀ (k:Nat) (acc:List NS),
 To (fun x1 x2=>x1++x2) acc.toArray (Od k its.toArray)=(acc++(Od k its).flatten).toArray
 | 0,acc=>by simp
 | k+1,acc=>by
  have e:acc.toArray++its.toArray=(acc++its).toArray:=by simp
  have e2:(acc++its)++(Od k its).flatten=acc++(Od (k+1) its).flatten:=by
   rw[Pb,O7,Ot]
  rw[← e2,← foldl_rep its k (acc++its),← e,Pb,List.foldl_cons]
section
variable {X:Cx}{pins:List (N2×Obj)}{σ:St}{H:Hp}{s:NT}{l b:N2}{xs ys zs:List V}
theorem Inv.Bf {its its':List NS}{n:Nat}{f:Array NS->Array NS}{t':Nat} (I:Inv X pins σ H s) (hH:H l=some (.lst xs))
 (e:s.heap.get? l=some { cls:=.type "list",data:=.seq its.toArray n }) (hf:f its.toArray=its'.toArray) (hv:cX ys its') (hz:ys.length<=sizeLine) :
 Inv X pins σ (upd H l (.lst ys)) { s with heap:=s.heap.update l (Rv f),toks:=t' }:=by
 have q:=PySem.IsL.update e f
 rw[hf] at q
 refine I.write (x:=l) (e:=l) (by rw[hH];exact trivial) (.inl rfl) (fun b' u hb hu=>(TY s.heap (Rv f) (Re hb)).trans hu) ⟨_,q⟩ ?_
 exact ⟨hz,its',_,hv,q⟩
theorem Inv.Im {its:List NS}{t':Nat} (I:Inv X pins σ H s) (hv:cX ys its) (hz:ys.length<=sizeLine) :
 Inv X pins σ (upd H s.heap.objs.size (.lst ys)) { s with heap:=s.heap.push { cls:=.type "list",data:=.seq its.toArray },toks:=t' } :=
 I.laid (fun _ _ q=>NQ _ q) (N1 _) ⟨hz,its,0,hv,N9 _ rfl⟩
theorem Inv.fresh (I:Inv X pins σ H s):H s.heap.objs.size=none:=I.hok.fresh (N1 _)
theorem Inv.Bg (I:Inv X pins σ H s) (hH:H l=some (.lst xs)):xs.length<=sizeLine/\∃ (its:List NS) (n:Nat),cX xs its/\xs.length=its.length/\s.heap.get? l=some { cls:=.type "list",data:=.seq its.toArray n }:=by
 obtain ⟨z,its,n,r,e⟩:=I.hok l _ hH
 exact ⟨z,its,n,r,r.length,e⟩
theorem mh {n:Nat} (h:n<=sizeLine):O0 n=false:=by
 unfold O0
 exact decide_eq_false (by lia)
end
section
variable {X:Cx}
noncomputable def Bh:V->List V->Hp->VK->Prop:=fun x vs H Q=>∃ l xs y,x=.ref l/\vs=[y]/\H l=some (.lst xs)/\xs.length < sizeLine/\Q .non (upd H l (.lst (xs++[y])))
theorem wo:MtM X "list.append" Bh:=by
 intro pins s σ H x vs v us Q I rx rv h
 obtain ⟨l,xs,y,rfl,rfl,hH,hz,q⟩:=h
 cases rx
 obtain ⟨u,rfl,ru⟩:=rv.one
 obtain ⟨z,its,n,r,hl,e⟩:=I.Bg hH
 refine Pj F.slot_list_append ⟨_,e,rfl⟩ F.entry_list_append (F.args_list_append_2 _ _) (PySem.list_append l its.toArray n u (by rw[NV];lia)) ⟨e,?_⟩
 refine ⟨.non,_,I.Bf (its':=its++[u]) hH e (by simp) (r.append (.cons ru .nil)) ?_,rfl,q⟩
 rw[Oa,Rm]
 lia
noncomputable def LD:V->List V->Hp->VK->Prop:=fun x vs H Q=>∃ l xs y,x=.ref l/\vs=[]/\H l=some (.lst xs)/\xs[xs.length - 1]?=some y/\Q y (upd H l (.lst xs.dropLast))
theorem ER:MtM X "list.pop" LD:=by
 intro pins s σ H x vs v us Q I rx rv h
 obtain ⟨l,xs,y,rfl,rfl,hH,hy,q⟩:=h
 cases rx
 have hus:=rv.zero
 subst hus
 obtain ⟨z,its,n,r,hl,e⟩:=I.Bg hH
 obtain ⟨u,hu,ru⟩:=r.get hy
 have hy':its.toArray[its.toArray.size - 1]?=some u:=by
  show its.toArray[its.length - 1]?=some u
  rw[← T4,← hl]
  exact hu
 refine Pj F.slot_list_pop ⟨_,e,rfl⟩ F.entry_list_pop (F.args_list_pop_1 _) (MeetsSeq.list_pop_last l its.toArray n u hy' (by rw[NV];lia)) ⟨e,?_⟩
 refine ⟨y,_,I.Bf (its':=its.dropLast) hH e ?_ r.dropLast ?_,ru,q⟩
 ·show its.toArray.eraseIdxIfInBounds (its.toArray.size - 1)=its.dropLast.toArray
  rw[NV,List.eraseIdxIfInBounds_toArray,sO]
 ·rw[List.length_dropLast]
  lia
theorem len_rep {α:Type} (xs:List α) (k:Nat):(Od k xs).flatten.length=k*xs.length:=by
 induction k with
 | zero=>simp
 | succ k ih=>rw[Pb,O7,Oa,ih,Nat.succ_mul,Nat.add_comm]
end
section
variable {prog:Oc}{w:Oo}{A:ON}{E:NS->NT->Prop}{s:NT}
set_option maxRecDepth 100000 in
end
section
variable {X:Cx}
end
end L2
namespace Att
open PySem PySem.W PySem.Calls PyProof.Rows
theorem lu {P:Params}{h:Heap}:∀ (ns:List Int) (vs:List NS),WellAll P h vs (ns.map WData.int)->IntsAre vs ns:=by
 intro ns
 induction ns with
 | nil =>
  intro vs w
  rw[Qa] at w
  cases w
  exact .nil
 | cons n ns ih =>
  intro vs w
  rw[OA] at w
  cases w with
  | cons a b =>
   cases a
   exact .cons _ _ (ih _ b)
theorem wu {l:OpenLaw}{n:Nat} (hn:l.most=some n) {P:Params}{h:Heap}{args:List WData}{vals:List NS}
 (hpre:l.row.toRowW.claim.pre args=true) (hwl:WellAll P h vals args) :
 ∃ a vs ns,vals=[O8 a]/\args=[WData.list (ns.map WData.int)]/\h.get? a=some { cls:=.type "list",data:=.seq vs.toArray }/\IntsAre vs ns/\ns.length<=n:=by
 have hsh:WShape.hasAll [] args [.list .int]=true:=(pre_splitW hpre).1
 have hc:l.pre.holds [] { args:=args }=true:=(pre_splitW hpre).2
 obtain ⟨d,r,rfl,h1,h2⟩:=hasAllW_cons hsh
 obtain rfl:=hasAllW_nil h2
 obtain ⟨xs,rfl,h3⟩:=hasW_list h1
 obtain ⟨ns,rfl⟩:=items_int h3
 have hlen:ns.length<=n:=by
  unfold OpenLaw.pre at hc
  have h4:(WTm.not (.lt (.lit (.int (n:Int))) (.len (.arg 0)))).holds [] { args:=[.list (ns.map .int)] }=true:=by
   have h4:=(holds_andW hc).1
   rw[hn] at h4
   exact h4
  have h5:=condW_of h4 (w_not (w_lt w_lit (w_len_list (w_arg rfl))))
  rw[N5] at h5
  refine Nat.le_of_not_lt fun q=>?_
  have q':(n:Int) < ((ns.length:Nat):Int):=by lia
  first
   | (rw[decide_eq_true q'] at h5;exact absurd h5 (by decide))
   | (simp at h5;lia)
 cases hwl with
 | cons w1 w2 =>
  cases w2
  cases w1 with
  | list ho hall=>exact ⟨_,_,ns,rfl,rfl,ho,lu ns _ hall,hlen⟩
theorem wA (l:OpenLaw) (args:List WData):l.row.toRowW.claim.post args (.bool true) args=true :=
 postW_of (r:=l.row.toRowW) (X:=(true==true))
  (show WShape.has [] (.bool true) .bool=true by first | rfl | decide | simp[WShape.has,WShape.arms,WShape.armsAll])
  (show (WTm.eq .res (.lit (.bool true))).value [] { args:=args,res:=some (.bool true),after:=args }=some (.bool (true==true)) from w_eq_bool (w_res rfl) w_lit) rfl
theorem qN {l:OpenLaw}{n:Nat}{q:Oc}{loose:List Str}{XP:(Str->Option NS)->Heap->Prop}{YP:Oo->Heap->Prop}{d:DefRec}
 (hn:l.most=some n) (hdf:d.params.defaults=[])
 (call:∀ (w:Oo) (s₀ s₁:NT) (mg mb:Str->Option NS) (fa:N2) (o:Obj) (pm cd doc:NS) (a:N2) (vs:List NS) (ns:List Int),
  Ground q loose [] XP w s₀ mg mb s₁.heap->YP w s₁.heap →
  s₁.heap.get? fa=some o->o.data=.func (docDef d.name d.params d.body d.scope pm cd doc)->s₁.heap.CodeRec cd d.name->mg d.name=some (.ref fa) →
  s₁.heap.get? a=some { cls:=.type "list",data:=.seq vs.toArray }->IntsAre vs ns->ns.length<=n->s₁.gens=#[] →
  codeAny (Oi l.prog w) UE (.call (.ref fa) ⟨[.ref a],[]⟩) (fun r s'=>r=.ok (.ret (.bool true))/\OldK s₁.heap s'.heap/\s'.os=s₁.os/\T6 s'.gens) s₁) :
 WalkO q loose XP YP l.row.toRowW d [] (fun f vs=>UG f vs):=by
 intro w s₀ s₁ mg mb G Y fa o pm cd doc dV kV ho hd hcd hD hmg hg args vals as hpre hlay hrd hwl hlo
 obtain rfl:dV=.none:=Dflts.none hD hdf
 obtain rfl:kV=.none:=Dflts.noKw hD
 obtain ⟨a,vs,ns,rfl,rfl,hobj,hints,hlen⟩:=wu hn hpre hwl
 refine enter_call (SY (call w s₀ s₁ mg mb fa o pm cd doc a vs ns G Y ho (fd_plain hd) hcd hmg hobj hints hlen hg) fun r s' hq=>?_)
 obtain ⟨rfl,h2,h3,h4⟩:=hq
 exact ⟨.inl ⟨.bool true,.bool true,[],rfl,fun _=>rfl,.bool true,wA l _,fun _=>⟨List.Pairwise.nil,fun _ hm=>(nomatch hm)⟩⟩,h2,h3,h4⟩
section
variable {prog:Oc}{w:Oo}{A:ON}{E:NS->NT->Prop}{s:NT}{K:Frag}
noncomputable def ledger (h:Heap) (L d:N2):List (N2×Obj):=(PJ h.objs.size).filterMap fun a=>if a=L\/a=d then none else (h.get? a).map fun o=>(a,o)
end
end Att
namespace L2
open PySem PySem.Spec PyProof.Rows
theorem n8:∀ {vs:List NS}{ns:List Int},IntsAre vs ns->cX (ns.map V.int) vs
 | _,_,.nil=>.nil
 | _,_,.cons n t h=>.cons ⟨t,rfl⟩ (n8 h)
end L2
namespace L2
open PySem PySem.Spec PyProof.Rows
noncomputable abbrev KOf {K:NO}{h:Heap} (_:K.In h):NO:=K
end L2
/- THE LAST THEOREM (shape;LID,My.* are yours):
 My.Adr: a structure of the addresses that your layer names (classes,functions);My.Txt K t: a structure (Prop) of the equations over K;
 My.txt_mk:{K}{implicit addresses ..} (e1:nsIn K Ob "law"=some (some (.ref f))) (e2:K.lookup f=some ⟨oc,od,.func (fnOf "law" "law" params body scope dV kV doc pm an cdv ct),sl⟩) (e3:codeIn K cdv "law"=true) ..:∃ t,My.Txt K t
set_option maxRecDepth 100000 in
set_option maxHeartbeats 0 in
theorem PySem.Challenge.Bj:PySem.Challenge.rw_LID.Holds:=by
 w_on;o_law;k_head;(case hw=>w_witness2)
 k_fill
 refine L2.walk_of (l:=PySem.Challenge.rw_LID) (n:=63) (k:=40) (x:="script") (CX:=fun w=>..) (sp:=fun _=>My.AD) rfl (by decide) rfl ⟨rfl,by decide,by decide⟩ (fun w h Y=>PySem.W.kIn_of Y) ?F ?S ?C
 case F =>
  intro w mg fa h KX G hmg
  have T:∃ t,My.Txt (L2.KOf KX) t:=by
   dsimp only[L2.KOf]                          -- K must stand as «<heap const> w.params» for k_is
   refine' My.txt_mk ?e1 ?e2 ?e3 ..
   (case e1=>PySem.W.k_is)                    -- in the order: a name->its address->its object->its parts
   (case e2=>PySem.W.k_is)
   ..
  obtain ⟨t,T⟩:=T
  have e0:=hmg.symm.trans (PL KX G T.law)
  cases e0                                       -- fa is the law's own address
  exact ⟨_,fun s u=>.of_eq rfl,fun base kb nb=>My.law_fn T kb nb⟩     -- if «.of_eq rfl» comes too early: refine' ⟨_,?b,fun base kb nb=>My.law_fn T kb nb⟩;exact fun s u=>.of_eq rfl
 case S=>exact fun w H a ns hl hO hS=>..
 case C=>exact ..
(the tactic k_is has no namespace: write k_is) -/
namespace L2
open PySem PySem.Spec PyProof.Rows
noncomputable abbrev CX0:CXT:=fun _ _ _ _ _ _=>False
noncomputable abbrev E0:XK:=fun _ _ _=>False
theorem n9 {X:Cx}:gQ CX0 X E0:=fun _ _ _ _ _ _ _ h=>h.elim
inductive Io (K:NO) (x qual:Str) (st:Sw) (f:N2) (fd:Pu):Prop where
 | mk (oc:NS) (od:Option N2) (kV doc pm:NS) (an:Option N2) (cdv ct:NS) (osl:Array (Option NS)) (h1:fd=Pn x qual (fz st) (dM st) (cZ st) .none kV doc pm an cdv ct) (h2:K.lookup f=some ⟨oc,od,.func fd,osl⟩) (h3:Rj K cdv qual=true):Io K x qual st f fd
structure Fun (K:NO) (x qual:Str) (st:Sw) (f:N2) (fd:Pu):Prop where
 ex:Io K x qual st f fd
 kp:OZ K (.ref f)=true
section
variable {P:Oc}{w:Oo}{K:NO}{mg:Str->Option NS}{base:Heap}
theorem Fun.binds {x qual:Str}{st:Sw}{f:N2}{fd:Pu}{ps:List Str} (F:Fun K x qual st f fd)
 (h:∀ (kV doc pm:NS) (an:Option N2) (cdv ct:NS) (us:List NS),us.length=ps.length->UF (Pn x qual (fz st) (dM st) (cZ st) .none kV doc pm an cdv ct) ⟨us,[]⟩=pure (ps.zip us)):Binds K fd ps []:=by
 obtain ⟨oc,od,kV,doc,pm,an,cdv,ct,osl,rfl,lk,hcd⟩:=F.ex
 exact .all (h kV doc pm an cdv ct)
theorem ES {x qual:Str}{st:Sw}{f:N2}{oc:NS}{od an:Option N2}{osl:Array (Option NS)}{kV doc pm cdv ct:NS} (l:K.lookup f=some ⟨oc,od,.func (Pn x qual (fz st) (dM st) (cZ st) .none kV doc pm an cdv ct),osl⟩)
 (c:Rj K cdv qual=true) (k:OZ K (.ref f)=true):Fun K x qual st f (Pn x qual (fz st) (dM st) (cZ st) .none kV doc pm an cdv ct):=⟨⟨oc,od,kV,doc,pm,an,cdv,ct,osl,rfl,l,c⟩,k⟩
end
theorem oh {n:Nat} (h:n<=1000):n < sizeLine:=Nat.lt_of_le_of_lt h (by decide)
section
variable {X:Cx}
end
end L2
end
section
namespace L2
open PySem PySem.Spec PyProof.Rows
section
variable {κ:Type} [DecidableEq κ]
noncomputable def qO (kvs:List (κ×V)) (k:κ):Option V:=(kvs.find? fun kv=>decide (kv.1=k)).map (·.2)
noncomputable def putK (kvs:List (κ×V)) (k:κ) (v:V):List (κ×V) :=
 if (kvs.any fun kv=>decide (kv.1=k))=true then kvs.map (fun kv=>if kv.1=k then (kv.1,v) else kv) else kvs++[(k,v)]
theorem qP {p:κ×V}{r:List (κ×V)}{k:κ} (e:p.1=k):qO (p :: r) k=some p.2:=by simp[qO,Qg,e]
theorem qQ {p:κ×V}{r:List (κ×V)}{k:κ} (e:¬ p.1=k):qO (p :: r) k=qO r k:=by simp[qO,Qg,e]
theorem KV.val {kvs:List (κ×V)}{vs:List (κ×NS)} (r:KV kvs vs) (k:κ):lT (qO kvs k) (valueAt vs k):=by
 unfold KV at r
 induction r with
 | nil=>exact P8
 | @cons p q ps qs h t ih =>
  obtain ⟨h1,h2⟩:=h
  by_cases e:p.1=k
  ·have e':q.1=k:=h1.symm.trans e
   have b:valueAt (q :: qs) k=some q.2:=by simp[valueAt,Qg,e']
   rw[qP e,b];exact h2
  ·have e':¬ q.1=k:=fun z=>e (h1.trans z)
   have b:valueAt (q :: qs) k=valueAt qs k:=by simp[valueAt,Qg,e']
   rw[qQ e,b];exact ih
end
theorem yo {P:Oc}{w:Oo}{k:Key}{u:NS} (r:RelV (kV k) u):(c8 P w).is k u=true:=by
 cases k with
 | inl i=>obtain ⟨t,e⟩:=(show ∃ t,u=RK i t from r);subst e;exact qE P w i t
 | inr x=>obtain ⟨t,e⟩:=(show ∃ t,u=TM x t from r);subst e;exact e9 P w x t
section
variable {P:Oc}{w:Oo}{H:Hp}{h:Heap}{a:N2}
theorem Ip {u:HO} (ok:HOk P w H h) (e:Rd H a u):fF P w H h a u:=e.ok ok
theorem Iq {kvs:List (Key×V)} (ok:HOk P w H h) (e:Rd H a (.dK kvs)):kvs.length<=sizeLine/\(a==P1)=false/\∃ vs,KV kvs vs/\h.DictOf (c8 P w) a vs :=
 show fF P w H h a (.dK kvs) from Ip ok e
end
section
variable {X:Cx}{pins:List (N2×Obj)}{σ:St}{H:Hp}{s:NT}{a:N2}{y v:V}{u r:NS}{o:Option V}{A:ON}{E:NS->NT->Prop}
end
end L2
end
section
namespace BT
open PySem PySem.W PyProof.Rows
noncomputable def Ends {α:Type} (n:Nat) (P:α->Prop):KasT α->Prop
 | .ret a=>P a
 | .ask i j k=>i < n/\j < n/\∀ b,Ends n P (k b)
end BT
end
section
namespace BS
open PySem PySem.W PySem.Spec PyProof.Rows
section
variable {E:NS->NT->Prop}
end
end BS
end
section
namespace BX
open PySem PyProof.Rows
section
variable {prog:Oc}{w:Oo}{A:ON}{E:NS->NT->Prop}{s:NT}
end
section
variable {prog:Oc}{w:Oo}{A:ON}{E:NS->NT->Prop}{R:Result->NT->Prop}
end
section
variable {prog:Oc}{w:Oo}{A:ON}{E:NS->NT->Prop}{s:NT}
end
section
variable {prog:Oc}{w:Oo}{A:ON}{E:NS->NT->Prop}{s:NT}
end
end BX
end
section
namespace BX
open PySem PySem.Spec PyProof.Rows
section
variable {prog:Oc}{w:Oo}{A:ON}{E:NS->NT->Prop}{h:Heap}{g:Array GenState}{d:Drawn}{t:Nat}{os:OsState}{a:N2}{o:Obj}
end
section
variable {prog:Oc}{w:Oo}{K:Type} [DecidableEq K] {knd:KeyKind prog w K}{A:ON}{E:NS->NT->Prop}{s:NT}
end
end BX
end
section
namespace BT
open PySem
theorem dN {P:Prop} (h:false=true):P:=nomatch h
theorem LG {P:Prop} (h:true=false):P:=nomatch h
theorem jr {β:Type}{a:β}{P:Prop} (h:(none:Option β)=some a):P:=nomatch h
inductive D where
 | non | bl (b:Bool) | int (i:Int) | str (x:Str) | tup (xs:List D) | lst (xs:List D)
inductive FK where
 | f (x:Str) | m (c x:Str) | l (i:Nat)
 deriving DecidableEq
instance:Coe String FK:=⟨fun s=>.f (NR s)⟩
inductive Cp where
 | p (d:D) | o (n:Nat)
noncomputable abbrev Ky:=Int ⊕ Str
inductive Kd where
 | t (kvs:List (Str×D)) | l (kvs:List (Ky×D))
inductive W where
 | p (d:D) | r (n:Nat) | k (kvs:Kd) | o (n:Nat) | c (f:FK) (cs:List Cp) | x (c:Str)
noncomputable def Cp.w:Cp->W
 | .p d=>.p d
 | .o n=>.o n
@[simp] theorem Cp.w_p (d:D):Cp.w (.p d)=.p d:=rfl
@[simp] theorem Cp.w_o (n:Nat):Cp.w (.o n)=.o n:=rfl
noncomputable def uH:W->Option Cp
 | .p d=>some (.p d)
 | .o n=>some (.o n)
 | .r _=>none
 | .k _=>none
 | .c _ _=>none
 | .x _=>none
@[simp] theorem Kc (d:D):uH (.p d)=some (.p d):=rfl
@[simp] theorem Ke (n:Nat):uH (.o n)=some (.o n):=rfl
inductive Cl where
 | l (xs:List D) | o (c:Str) (fs:List (Str×W)) | d (kvs:List (Ky×D)) | z
noncomputable abbrev HH:=List Cl
noncomputable abbrev Sl:=List (Option W)
set_option genInjectivity false in
inductive Bin where
 | add | sub | mul | mod | fdiv | pow
set_option genInjectivity false in
inductive Cm where
 | eq | ne | lt | le | gt | ge | isN | notN | mem | nmem
set_option genInjectivity false in
inductive Sr where
 | seq | rng1 | rng2 | rev | enu | zip2 | rng3 | itm | chs | zipG
inductive Bi where
 | len | abs | int | str | bool | list | tuple | all | any | isInt | isBool | isStr | isTuple | isList | min2 | max2
 | sum | sorted | max1 | lzip | nset | sset | maxd | lrng3
set_option genInjectivity false in
inductive Me where
 | append | pop | extend | tindex | sindex | dget | count | lindex
inductive Tx where
 | join | split | str | intS | all | inS | ninS | dget | pre
inductive Dk where
 | of | ks | so | it
set_option genInjectivity false in
mutual
inductive E where
 | var (i:Nat)
 | cst (d:D)
 | glo (x:Str)
 | bin (o:Bin) (a b:E)
 | neg (a:E)
 | not (a:E)
 | and (a b:E)
 | or (a b:E)
 | cmp (o:Cm) (a b:E)
 | chain (o o':Cm) (a b c:E)
 | ite (c a b:E)
 | tup (as:Es)
 | lst (mu:Bool) (as:Es)
 | idx (a i:E)
 | slc (a:E) (lo hi:Es)
 | rvs (a:E)
 | stp (mu:Bool) (k:Int) (a:E)
 | call (f:Str) (as:Es)
 | fld (a:E) (f:Str)
 | meth (o:E) (m:Str) (as:Es)
 | make (c:Str) (as:Es)
 | bi (b:Bi) (mu:Bool) (as:Es)
 | lsr (mu:Bool) (sr:Sr) (as:Es)
 | me (m:Me) (o:E) (as:Es)
 | comp (mu:Bool) (sr:Sr) (sa:Es) (tg:List Str) (fv:List (Nat×Str)) (cond:Es) (elt:E)
 | callv (i:Nat) (as:Es)
 | methL (o:E) (m:Str) (as:Es) (L:Nat) (fv:List (Nat×Str))
 | tx (k:Tx) (as:Es)
 | dlit (kvs:List (Str×D))
inductive Es where
 | nil
 | cons (a:E) (as:Es)
end
set_option genInjectivity false in
inductive S where
 | nil
 | seq (a b:S)
 | set (i:Nat) (e:E)
 | unp (xs:List (Nat×Str)) (e:E)
 | aug (i:Nat) (o:Bin) (e:E)
 | put (i:Nat) (k e:E)
 | setf (o:E) (f:Str) (e:E)
 | augf (o:E) (f:Str) (op:Bin) (e:E)
 | ex (e:E)
 | ret (e:E)
 | ife (c:E) (a b:S)
 | whl (c:E) (b:S)
 | for (tg:List (Nat×Str)) (sr:Sr) (sa:Es) (b:S)
 | brk | cnt
 | bad
 | rai (c:Str) (e:E)
set_option genInjectivity false in
structure Fn where
 ps:List Str
 ns:List Str
 body:S
noncomputable def bnd {α β:Type} (x:Option (α×HH)) (k:α->HH->Option β):Option β :=
 match x with | some (a,h)=>k a h | none=>none
@[simp] theorem dm (a:α) (h:HH) (k:α->HH->Option β):bnd (some (a,h)) k=k a h:=rfl
@[simp] theorem Ir (k:α->HH->Option β):bnd none k=none:=rfl
@[simp] noncomputable def lim:Nat:=100000
mutual
@[simp] noncomputable def eqv:D->D->Bool
 | .non,.non=>true
 | .bl a,.bl b=>a==b
 | .bl a,.int j=>(if a then (1:Int) else 0)==j
 | .int i,.bl b=>i==(if b then (1:Int) else 0)
 | .int i,.int j=>i==j
 | .str x,.str y=>x==y
 | .tup xs,.tup ys=>jt xs ys
 | .lst xs,.lst ys=>jt xs ys
 | _,_=>false
@[simp] noncomputable def jt:List D->List D->Bool
 | [],[]=>true
 | x :: xs,y :: ys=>eqv x y&&jt xs ys
 | _,_=>false
end
noncomputable def qR:Cl->Option (List D)
 | .l xs=>some xs
 | .o _ _=>none
 | .d _=>none
 | .z=>none
noncomputable def qS:Cl->Option (Str×List (Str×W))
 | .l _=>none
 | .o c fs=>some (c,fs)
 | .d _=>none
 | .z=>none
noncomputable def yp:Cl->Option (List (Ky×D))
 | .l _=>none
 | .o _ _=>none
 | .d kvs=>some kvs
 | .z=>none
@[simp] theorem LH (kvs:List (Ky×D)):qR (.d kvs)=none:=rfl
@[simp] theorem LJ (kvs:List (Ky×D)):qS (.d kvs)=none:=rfl
@[simp] theorem LK (kvs:List (Ky×D)):yp (.d kvs)=some kvs:=rfl
@[simp] theorem LM:qR .z=none:=rfl
@[simp] theorem LP:qS .z=none:=rfl
@[simp] theorem LQ:yp .z=none:=rfl
@[simp] theorem LR (xs:List D):yp (.l xs)=none:=rfl
@[simp] theorem LU (c:Str) (fs:List (Str×W)):yp (.o c fs)=none:=rfl
@[simp] theorem LV (xs:List D):qR (.l xs)=some xs:=rfl
@[simp] theorem LW (c:Str) (fs:List (Str×W)):qR (.o c fs)=none:=rfl
@[simp] theorem LY (xs:List D):qS (.l xs)=none:=rfl
@[simp] theorem LZ (c:Str) (fs:List (Str×W)):qS (.o c fs)=some (c,fs):=rfl
noncomputable def lat (h:HH) (n:Nat):Option (List D):=(h[n]?).bind qR
noncomputable def oat (h:HH) (n:Nat):Option (Str×List (Str×W)):=(h[n]?).bind qS
noncomputable def dat (h:HH) (n:Nat):Option (List (Ky×D)):=(h[n]?).bind yp
noncomputable def nF:D->Option Ky
 | .non=>none
 | .bl _=>none
 | .int i=>some (.inl i)
 | .str x=>some (.inr x)
 | .tup _=>none
 | .lst _=>none
@[simp] theorem Iu (i:Int):nF (.int i)=some (.inl i):=rfl
@[simp] theorem Iv (x:Str):nF (.str x)=some (.inr x):=rfl
noncomputable def EU:Ky->D
 | .inl i=>.int i
 | .inr x=>.str x
@[simp] theorem L0 (i:Int):EU (.inl i)=.int i:=rfl
@[simp] theorem L1 (x:Str):EU (.inr x)=.str x:=rfl
noncomputable def fc (kvs:List (Ky×D)) (k:Ky):Option D:=(kvs.find? fun kv=>decide (kv.1=k)).map (·.2)
noncomputable def DJ (kvs:List (Ky×D)) (k:Ky) (v:D):List (Ky×D) :=
 if (kvs.any fun kv=>decide (kv.1=k))=true then kvs.map (fun kv=>if kv.1=k then (kv.1,v) else kv) else kvs++[(k,v)]
noncomputable def rd (w:W) (h:HH):Option D:=match w with
 | .p d=>some d
 | .r n=>(lat h n).map D.lst
 | .k _=>none
 | .o _=>none
 | .c _ _=>none
 | .x _=>none
@[simp] theorem L3 (d:D) (h:HH):rd (.p d) h=some d:=rfl
noncomputable def big (i:Int):Bool:=decide (i.natAbs < 2 ^ 64)
noncomputable def rep (k:Nat) (xs:List D):List D:=(Od k xs).flatten
noncomputable def fZ:Bin->D->D->Option D
 | .add,.int i,.int j=>some (.int (i+j))
 | .add,.str x,.str y=>if x.length+y.length<=lim then some (.str (x++y)) else none
 | .add,.tup xs,.tup ys=>if xs.length+ys.length<=lim then some (.tup (xs++ys)) else none
 | .add,.lst xs,.lst ys=>if xs.length+ys.length<=lim then some (.lst (xs++ys)) else none
 | .sub,.int i,.int j=>some (.int (i - j))
 | .mul,.int i,.int j=>if big i||big j then some (.int (i*j)) else none
 | .mul,.tup xs,.int k=>if 2<=k&&k<=1000&&!xs.isEmpty&&xs.length*k.toNat<=lim then some (.tup (rep k.toNat xs)) else none
 | .mul,.lst xs,.int k=>if -1000<=k&&k<=1000&&xs.length*k.toNat<=lim then some (.lst (rep k.toNat xs)) else none
 | .mod,.int i,.int j=>if 0 < j then some (.int (i % j)) else none
 | .fdiv,.int i,.int j=>if 0 < j&&j < 1073741824 then some (.int (i / j)) else none
 | .pow,.int i,.int j=>if 0<=j&&j<=100&&big i then some (.int (i ^ j.toNat)) else none
 | _,_,_=>none
noncomputable def mj:Bin->D->D->Option D
 | .add,.int i,.int j=>some (.int (i+j))
 | .sub,.int i,.int j=>some (.int (i - j))
 | .mul,.int i,.int j=>if big i||big j then some (.int (i*j)) else none
 | _,_,_=>none
@[simp] theorem Iw (i j:Int):mj .add (.int i) (.int j)=some (.int (i+j)):=rfl
@[simp] theorem Iz (i j:Int):mj .sub (.int i) (.int j)=some (.int (i - j)):=rfl
@[simp] theorem qT (i j:Int):mj .mul (.int i) (.int j)=if big i||big j then some (.int (i*j)) else none:=rfl
@[simp] noncomputable def place (n:Nat) (i:Int):Option Nat :=
 if 0<=i then (if i < n then some i.toNat else none) else if -(n:Int)<=i then some (i+n).toNat else none
@[simp] noncomputable def atP {α:Type} (xs:List α) (i:Int):Option α:=(place xs.length i).bind fun j=>xs[j]?
@[simp] noncomputable def dB (k:Str):List (Str×D)->Option D
 | []=>none
 | (x,d) :: r=>if k=x then some d else dB k r
noncomputable def fq:D->D->Option D
 | .tup xs,.int i=>atP xs i
 | .lst xs,.int i=>atP xs i
 | .str x,.int i=>if x.length<=lim then (atP x.cps.toList i).map fun c=>.str ⟨#[c]⟩ else none
 | _,_=>none
@[simp] noncomputable def clip (n d:Nat):Option Int->Nat
 | none=>d
 | some v=>if v < 0 then (v+(n:Int)).toNat else if v<=(n:Int) then v.toNat else n
@[simp] noncomputable def cut (xs:List D) (lo hi:Option Int):List D:=(xs.drop (clip xs.length 0 lo)).take (clip xs.length xs.length hi - clip xs.length 0 lo)
@[simp] noncomputable def o9:List D->Option (Option Int)
 | []=>some none
 | [.int i]=>some (some i)
 | _=>none
noncomputable def pq (x:D) (lo hi:Option Int):Option D:=match x with
 | .tup xs=>some (.tup (cut xs lo hi))
 | .lst xs=>some (.lst (cut xs lo hi))
 | _=>none
noncomputable def dok:Nat->D->Bool
 | _,.non=>true
 | _,.bl _=>true
 | _,.int _=>true
 | _,.str _=>true
 | 0,.tup _=>false
 | 0,.lst _=>false
 | n+1,.tup xs=>xs.all (dok n)
 | n+1,.lst xs=>xs.all (dok n)
@[simp] theorem Kf (n:Nat):dok n .non=true:=by cases n<;>rfl
@[simp] theorem L4 (n:Nat) (b:Bool):dok n (.bl b)=true:=by cases n<;>rfl
@[simp] theorem Kg (n:Nat) (i:Int):dok n (.int i)=true:=by cases n<;>rfl
@[simp] theorem Bk (n:Nat) (x:Str):dok n (.str x)=true:=by cases n<;>rfl
@[simp] theorem pA (n:Nat) (xs:List D):dok (n+1) (.tup xs)=xs.all (dok n):=rfl
@[simp] theorem Bl (n:Nat) (xs:List D):dok (n+1) (.lst xs)=xs.all (dok n):=rfl
noncomputable def dY (x y:D):Bool:=dok 100 x||dok 100 y
@[simp] theorem qU (x:D) (y:Str):dY x (.str y)=true:=by simp[dY]
@[simp] theorem yq (x:D) (y:Int):dY x (.int y)=true:=by simp[dY]
@[simp] theorem G3 (x:D) (y:Str):dY (.str y) x=true:=by simp[dY]
@[simp] theorem G4 (x:D) (y:Int):dY (.int y) x=true:=by simp[dY]
@[simp] theorem G5 (x:D):dY x (.tup [])=true:=by simp[dY,dok]
@[simp] theorem G6 (x:D):dY x (.lst [])=true:=by simp[dY,dok]
@[simp] theorem Bm (x:D) (b:Bool):dY x (.bl b)=true:=by simp[dY]
theorem mq (h:dok 100 y=true):dY x y=true:=by simp[dY,h]
noncomputable def iK:D->Bool
 | .non=>true
 | .bl _=>false
 | .int _=>false
 | .str _=>false
 | .tup _=>false
 | .lst _=>false
@[simp] theorem G7:iK .non=true:=rfl
@[simp] theorem IA (z:Bool):iK (.bl z)=false:=rfl
@[simp] theorem G8 (z:Int):iK (.int z)=false:=rfl
@[simp] theorem G9 (z:Str):iK (.str z)=false:=rfl
@[simp] theorem Hf (z:List D):iK (.tup z)=false:=rfl
@[simp] theorem Hg (z:List D):iK (.lst z)=false:=rfl
noncomputable def pB (b:Bool):D->Bool
 | .non=>false
 | .bl c=>c==b
 | .int _=>false
 | .str _=>false
 | .tup _=>false
 | .lst _=>false
@[simp] theorem IB (b:Bool):pB b .non=false:=rfl
@[simp] theorem Kl (b z:Bool):pB b (.bl z)=(z==b):=rfl
@[simp] theorem IC (b:Bool) (z:Int):pB b (.int z)=false:=rfl
@[simp] theorem ID (b:Bool) (z:Str):pB b (.str z)=false:=rfl
@[simp] theorem IE (b:Bool) (z:List D):pB b (.tup z)=false:=rfl
@[simp] theorem IF (b:Bool) (z:List D):pB b (.lst z)=false:=rfl
noncomputable def eS:Cm->D->D->Option Bool
 | .eq,x,y=>if dY x y then some (eqv x y) else none
 | .ne,x,y=>if dY x y then some (!eqv x y) else none
 | .lt,.int i,.int j=>some (decide (i < j))
 | .le,.int i,.int j=>some (decide (i<=j))
 | .gt,.int i,.int j=>some (decide (j < i))
 | .ge,.int i,.int j=>some (decide (j<=i))
 | .isN,x,.non=>some (iK x)
 | .notN,x,.non=>some (!iK x)
 | .notN,x,.bl b=>some (!pB b x)
 | .mem,x,.tup ys=>if ys.all fun y=>dY y x then some (ys.any fun y=>eqv y x) else none
 | .mem,x,.lst ys=>if ys.all fun y=>dY y x then some (ys.any fun y=>eqv y x) else none
 | .nmem,x,.tup ys=>if ys.all fun y=>dY y x then some (!ys.any fun y=>eqv y x) else none
 | .nmem,x,.lst ys=>if ys.all fun y=>dY y x then some (!ys.any fun y=>eqv y x) else none
 | _,_,_=>none
@[simp] noncomputable def intsOf:List D->Option (List Int)
 | []=>some []
 | .int i :: r=>(intsOf r).map (i :: ·)
 | _=>none
@[simp] noncomputable def allB:List D->Option Bool
 | []=>some true
 | .bl b :: r=>if b then allB r else some false
 | _=>none
@[simp] noncomputable def anyB:List D->Option Bool
 | []=>some false
 | .bl b :: r=>if b then some true else anyB r
 | _=>none
noncomputable def isI:D->Bool
 | .non=>false
 | .bl _=>true
 | .int _=>true
 | .str _=>false
 | .tup _=>false
 | .lst _=>false
@[simp] theorem Km:isI .non=false:=rfl
@[simp] theorem L5 (z:Bool):isI (.bl z)=true:=rfl
@[simp] theorem Kn (z:Int):isI (.int z)=true:=rfl
@[simp] theorem Ko (z:Str):isI (.str z)=false:=rfl
@[simp] theorem Kp (z:List D):isI (.tup z)=false:=rfl
@[simp] theorem Kq (z:List D):isI (.lst z)=false:=rfl
noncomputable def isB:D->Bool
 | .non=>false
 | .bl _=>true
 | .int _=>false
 | .str _=>false
 | .tup _=>false
 | .lst _=>false
@[simp] theorem Kr:isB .non=false:=rfl
@[simp] theorem L6 (z:Bool):isB (.bl z)=true:=rfl
@[simp] theorem Ks (z:Int):isB (.int z)=false:=rfl
@[simp] theorem Ku (z:Str):isB (.str z)=false:=rfl
@[simp] theorem Kv (z:List D):isB (.tup z)=false:=rfl
@[simp] theorem Kw (z:List D):isB (.lst z)=false:=rfl
noncomputable def isS:D->Bool
 | .non=>false
 | .bl _=>false
 | .int _=>false
 | .str _=>true
 | .tup _=>false
 | .lst _=>false
@[simp] theorem Kx:isS .non=false:=rfl
@[simp] theorem L7 (z:Bool):isS (.bl z)=false:=rfl
@[simp] theorem Kz (z:Int):isS (.int z)=false:=rfl
@[simp] theorem KA (z:Str):isS (.str z)=true:=rfl
@[simp] theorem KB (z:List D):isS (.tup z)=false:=rfl
@[simp] theorem KC (z:List D):isS (.lst z)=false:=rfl
noncomputable def isT:D->Bool
 | .non=>false
 | .bl _=>false
 | .int _=>false
 | .str _=>false
 | .tup _=>true
 | .lst _=>false
@[simp] theorem KG:isT .non=false:=rfl
@[simp] theorem L8 (z:Bool):isT (.bl z)=false:=rfl
@[simp] theorem KH (z:Int):isT (.int z)=false:=rfl
@[simp] theorem KI (z:Str):isT (.str z)=false:=rfl
@[simp] theorem KJ (z:List D):isT (.tup z)=true:=rfl
@[simp] theorem KM (z:List D):isT (.lst z)=false:=rfl
noncomputable def isL:D->Bool
 | .non=>false
 | .bl _=>false
 | .int _=>false
 | .str _=>false
 | .tup _=>false
 | .lst _=>true
@[simp] theorem KN:isL .non=false:=rfl
@[simp] theorem Ma (z:Bool):isL (.bl z)=false:=rfl
@[simp] theorem KO (z:Int):isL (.int z)=false:=rfl
@[simp] theorem KP (z:Str):isL (.str z)=false:=rfl
@[simp] theorem KQ (z:List D):isL (.tup z)=false:=rfl
@[simp] theorem KR (z:List D):isL (.lst z)=true:=rfl
noncomputable def sortI (ns:List Int):List Int:=ns.mergeSort fun a b=>decide (a<=b)
noncomputable def IG:List Int->Option Int
 | []=>none
 | n :: ns=>some (ns.foldl max n)
@[simp] noncomputable def gC:List D->List D->List D
 | x :: xs,y :: ys=>.tup [x,y] :: gC xs ys
 | _,_=>[]
noncomputable def ded (ns:List Int):List Int:=ns.foldl (fun σ v=>if σ.any (·==v) then σ else σ++[v]) []
noncomputable def II (a b c:Int):Nat:=if a < b then ((b - a - 1) / c+1).toNat else 0
noncomputable def stepI (a c:Int) (n:Nat):List Int:=(PJ n).map fun (k:Nat)=>a+(k:Int)*c
noncomputable def biD:Bi->List D->Option D
 | .len,[.tup xs]=>some (.int xs.length)
 | .len,[.lst xs]=>some (.int xs.length)
 | .len,[.str x]=>if x.length<=lim then some (.int x.length) else none
 | .abs,[.int i]=>some (.int (if i < 0 then -i else i))
 | .int,[.int i]=>some (.int i)
 | .int,[.bl b]=>some (.int (if b then 1 else 0))
 | .str,[.int i]=>if big i then some (.str (toString i)) else none
 | .tuple,[.lst xs]=>some (.tup xs)
 | .tuple,[.tup xs]=>some (.tup xs)
 | .list,[.lst xs]=>some (.lst xs)
 | .list,[.tup xs]=>some (.lst xs)
 | .all,[.lst xs]=>(allB xs).map .bl
 | .any,[.lst xs]=>(anyB xs).map .bl
 | .isInt,[x]=>some (.bl (isI x))
 | .isBool,[x]=>some (.bl (isB x))
 | .isStr,[x]=>some (.bl (isS x))
 | .isTuple,[x]=>some (.bl (isT x))
 | .isList,[x]=>some (.bl (isL x))
 | .min2,[.int i,.int j]=>some (.int (if j < i then j else i))
 | .max2,[.int i,.int j]=>some (.int (if j > i then j else i))
 | .sorted,[.lst xs]=>(intsOf xs).bind fun ns=>if ns.length < 64 then some (.lst ((sortI ns).map .int)) else none
 | .max1,[.lst xs]=>(intsOf xs).bind fun ns=>(IG ns).map .int
 | .sum,[.lst xs]=>(intsOf xs).map fun ns=>.int ns.sum
 | .nset,[.lst xs]=>(intsOf xs).bind fun ns=>if ns.length < 1000 then some (.int ((ded ns).length:Nat)) else none
 | .sset,[.lst xs]=>(intsOf xs).bind fun ns=>if ns.length < 64 then some (.lst ((sortI (ded ns)).map .int)) else none
 | .lzip,[.tup xs,.tup ys]=>if 0 < xs.length/\xs.length=ys.length then some (.lst (gC xs ys)) else none
 | .maxd,[.lst xs,.int d]=>(intsOf xs).map fun ns=>.int ((IG ns).getD d)
 | .lrng3,[.int a,.int b,.int c]=>if 0 < c&&c<=100000&&-100000<=a&&a<=100000&&-100000<=b&&b<=100000 then some (.lst ((stepI a c (II a b c)).map .int)) else none
 | _,_=>none
@[simp] noncomputable def kr:Nat->List D->List D
 | _,[]=>[]
 | k,x :: r=>.tup [.int k,x] :: kr (k+1) r
noncomputable def pC:D->Option (List D)
 | .tup xs=>some xs
 | .lst xs=>some xs
 | _=>none
noncomputable def upto (lo:Int) (n:Nat):List D:=(PJ n).map fun (k:Nat)=>D.int (lo+(k:Int))
noncomputable def down (a:Int) (n:Nat):List D:=(PJ n).map fun i=>.int (a - (i:Nat))
noncomputable def nG (x:Str):List D:=x.cps.toList.map fun c=>.str ⟨#[c]⟩
noncomputable def yr:D->Option (List D)
 | .tup xs=>some xs
 | .lst xs=>some xs
 | .str x=>some (nG x)
 | _=>none
noncomputable def fK:Sr->List D->Option (List D)
 | .seq,[x]=>pC x
 | .rng1,[.int n]=>if -100000<=n&&n<=100000 then some (upto 0 n.toNat) else none
 | .rng2,[.int a,.int b]=>if -100000<=a&&a<=100000&&-100000<=b&&b<=100000 then some (upto a (b - a).toNat) else none
 | .rev,[.lst xs]=>some xs.reverse
 | .enu,[.lst xs]=>some (kr 0 xs)
 | .zip2,[.lst xs,.lst ys]=>some (gC xs ys)
 | .itm,[.lst xs]=>some xs
 | .chs,[.str x]=>some (nG x)
 | .zipG,[x,y]=>(yr x).bind fun xs=>(yr y).map (gC xs)
 | .rng3,[.int a,.int b,.int c]=>if c=-1/\-100000<=a/\a<=100000/\-100000<=b/\b<=100000 then some (down a (a - b).toNat) else none
 | _,_=>none
@[simp] noncomputable def iL (x:D):List D->Nat->Option Nat
 | [],_=>none
 | y :: r,k=>if eqv y x then some k else iL x r (k+1)
@[simp] noncomputable def IJ (c:Nat):List Nat->Nat->Option Nat
 | [],_=>none
 | y :: r,k=>if y=c then some k else IJ c r (k+1)
@[simp] noncomputable def dj:List W->Option (List D)
 | []=>some []
 | .p d :: r=>(dj r).map (d :: ·)
 | .r _ :: _=>none
 | .k _ :: _=>none
 | .o _ :: _=>none
 | .c _ _ :: _=>none
 | .x _ :: _=>none
noncomputable def meD:Me->D->List D->Option D
 | .tindex,.tup xs,[x]=>if xs.all fun y=>dY y x then (iL x xs 0).map fun (q:Nat)=>D.int (q:Int) else none
 | .sindex,.str x,[.str y]=>match O4 x y 0 x.length 1 with
  | i :: _=>some (.int (i:Int))
  | []=>none
 | .count,.lst xs,[x]=>if xs.all fun y=>dY y x then some (.int ((xs.countP fun y=>eqv y x:Nat):Int)) else none
 | .lindex,.lst xs,[x]=>if xs.all fun y=>dY y x then (iL x xs 0).map fun (q:Nat)=>D.int (q:Int) else none
 | _,_,_=>none
theorem EV:meD .count (.lst xs) [x]=if xs.all fun y=>dY y x then some (.int ((xs.countP fun y=>eqv y x:Nat):Int)) else none:=rfl
theorem EW:meD .lindex (.lst xs) [x]=if xs.all fun y=>dY y x then (iL x xs 0).map fun (q:Nat)=>D.int (q:Int) else none:=rfl
theorem EX:meD .tindex (.tup xs) [x]=if xs.all fun y=>dY y x then (iL x xs 0).map fun (q:Nat)=>D.int (q:Int) else none:=rfl
theorem EY:meD .sindex (.str x) [.str y]=match O4 x y 0 x.length 1 with
 | i :: _=>some (.int (i:Int))
 | []=>none:=rfl
noncomputable def meW (m:Me) (o:W) (as:List W) (h:HH):Option (W×HH):=match m,o,as with
 | .append,.r n,[.p d]=>match lat h n with
  | some xs=>if xs.length < lim then some (.p .non,h.set n (.l (xs++[d]))) else none
  | none=>none
 | .pop,.r n,[]=>match lat h n with
  | some xs=>match xs.getLast? with
   | some d=>some (.p d,h.set n (.l xs.dropLast))
   | none=>none
  | none=>none
 | .extend,.r n,[w]=>match lat h n,(rd w h).bind pC with
  | some xs,some ys=>if xs.length+ys.length<=lim then some (.p .non,h.set n (.l (xs++ys))) else none
  | _,_=>none
 | .dget,.k (.t kvs),[.p (.str x)]=>some (.p ((dB x kvs).getD .non),h)
 | .dget,.k (.t _),[.p .non]=>some (.p .non,h)
 | .dget,.k (.t kvs),[.p (.str x),.p d]=>some (.p ((dB x kvs).getD d),h)
 | m,.p d,as=>match dj as with
  | some ds=>(meD m d ds).map fun x=>(.p x,h)
  | none=>none
 | _,_,_=>none
section
variable (n:Nat) (d:D) (h:HH) (kvs:List (Str×D)) (x:Str) (as:List W)
@[simp] theorem sP:meW .append (.r n) [.p d] h=match lat h n with
 | some xs=>if xs.length < lim then some (.p .non,h.set n (.l (xs++[d]))) else none
 | none=>none:=rfl
@[simp] theorem Bo:meW .pop (.r n) [] h=match lat h n with
 | some xs=>match xs.getLast? with
  | some d=>some (.p d,h.set n (.l xs.dropLast))
  | none=>none
 | none=>none:=rfl
@[simp] theorem sR (w:W):meW .extend (.r n) [w] h=match lat h n,(rd w h).bind pC with
 | some xs,some ys=>if xs.length+ys.length<=lim then some (.p .non,h.set n (.l (xs++ys))) else none
 | _,_=>none:=rfl
@[simp] theorem IK:meW .dget (.k (.t kvs)) [.p (.str x)] h=some (.p ((dB x kvs).getD .non),h):=rfl
@[simp] theorem EZ:meW .dget (.k (.t kvs)) [.p .non] h=some (.p .non,h):=rfl
@[simp] theorem Hh:meW .dget (.k (.t kvs)) [.p (.str x),.p d] h=some (.p ((dB x kvs).getD d),h):=rfl
@[simp] theorem mw:meW .tindex (.p d) as h=match dj as with
 | some ds=>(meD .tindex d ds).map fun x=>(.p x,h)
 | none=>none:=rfl
@[simp] theorem wB:meW .count (.p d) as h=match dj as with
 | some ds=>(meD .count d ds).map fun x=>(.p x,h)
 | none=>none:=rfl
@[simp] theorem sU:meW .lindex (.p d) as h=match dj as with
 | some ds=>(meD .lindex d ds).map fun x=>(.p x,h)
 | none=>none:=rfl
@[simp] theorem mz:meW .sindex (.p d) as h=match dj as with
 | some ds=>(meD .sindex d ds).map fun x=>(.p x,h)
 | none=>none:=rfl
end
noncomputable def new (mu:Bool) (xs:List D) (h:HH):W×HH:=if mu then (.r h.length,h++[.l xs]) else (.p (.lst xs),h)
@[simp] theorem Nn (xs:List D) (h:HH):new false xs h=(.p (.lst xs),h):=rfl
@[simp] theorem Np (xs:List D) (h:HH):new true xs h=(.r h.length,h++[.l xs]):=rfl
@[simp] noncomputable def rds (ws:List W) (h:HH):Option (List D):=match ws with
 | []=>some []
 | w :: r=>(rd w h).bind fun d=>(rds r h).map (d :: ·)
noncomputable def unpack (n:Nat):D->Option (List D)
 | .tup xs=>if xs.length=n then some xs else none
 | .lst xs=>if xs.length=n then some xs else none
 | _=>none
noncomputable def target (n:Nat) (d:D):Option (List D):=if n=1 then some [d] else unpack n d
section
variable (i j k a b:Int) (c:Bool) (x y:Str) (xs ys:List D) (kvs:List (Str×D)) (d e:D) (lo hi:Option Int)
@[simp] theorem qV:fZ .add (.int i) (.int j)=some (.int (i+j)):=rfl
@[simp] theorem dF:fZ .add (.str x) (.str y)=if x.length+y.length<=lim then some (.str (x++y)) else none:=rfl
@[simp] theorem gR:fZ .add (.tup xs) (.tup ys)=if xs.length+ys.length<=lim then some (.tup (xs++ys)) else none:=rfl
@[simp] theorem mC:fZ .add (.lst xs) (.lst ys)=if xs.length+ys.length<=lim then some (.lst (xs++ys)) else none:=rfl
@[simp] theorem mD:fZ .sub (.int i) (.int j)=some (.int (i - j)):=rfl
@[simp] theorem qW:fZ .mul (.int i) (.int j)=if big i||big j then some (.int (i*j)) else none:=rfl
@[simp] theorem mE:fZ .mul (.tup xs) (.int k)=if 2<=k&&k<=1000&&!xs.isEmpty&&xs.length*k.toNat<=lim then some (.tup (rep k.toNat xs)) else none:=rfl
@[simp] theorem mF:fZ .mul (.lst xs) (.int k)=if -1000<=k&&k<=1000&&xs.length*k.toNat<=lim then some (.lst (rep k.toNat xs)) else none:=rfl
@[simp] theorem mG:fZ .mod (.int i) (.int j)=if 0 < j then some (.int (i % j)) else none:=rfl
@[simp] theorem ku:fZ .fdiv (.int i) (.int j)=if 0 < j&&j < 1073741824 then some (.int (i / j)) else none:=rfl
@[simp] theorem mH:fZ .pow (.int i) (.int j)=if 0<=j&&j<=100&&big i then some (.int (i ^ j.toNat)) else none:=rfl
@[simp] theorem sV:fq (.tup xs) (.int i)=atP xs i:=rfl
@[simp] theorem ef:fq (.lst xs) (.int i)=atP xs i:=rfl
@[simp] theorem iM:fq (.str x) (.int i)=if x.length<=lim then (atP x.cps.toList i).map fun c=>.str ⟨#[c]⟩ else none:=rfl
@[simp] theorem yt:pq (.tup xs) lo hi=some (.tup (cut xs lo hi)):=rfl
@[simp] theorem yu:pq (.lst xs) lo hi=some (.lst (cut xs lo hi)):=rfl
@[simp] theorem gf:eS .eq d e=if dY d e then some (eqv d e) else none:=rfl
@[simp] theorem fC:eS .ne d e=if dY d e then some (!eqv d e) else none:=rfl
@[simp] theorem lD:eS .lt (.int i) (.int j)=some (decide (i < j)):=rfl
@[simp] theorem lE:eS .le (.int i) (.int j)=some (decide (i<=j)):=rfl
@[simp] theorem lF:eS .gt (.int i) (.int j)=some (decide (j < i)):=rfl
@[simp] theorem lG:eS .ge (.int i) (.int j)=some (decide (j<=i)):=rfl
@[simp] theorem jM:eS .isN d .non=some (iK d):=rfl
@[simp] theorem iZ:eS .notN d .non=some (!iK d):=rfl
@[simp] theorem wC {b:Bool}:eS .notN d (.bl b)=some (!pB b d):=rfl
@[simp] theorem eY:eS .mem d (.tup ys)=if ys.all fun y=>dY y d then some (ys.any fun y=>eqv y d) else none:=rfl
@[simp] theorem gS:eS .mem d (.lst ys)=if ys.all fun y=>dY y d then some (ys.any fun y=>eqv y d) else none:=rfl
@[simp] theorem gi:eS .nmem d (.tup ys)=if ys.all fun y=>dY y d then some (!ys.any fun y=>eqv y d) else none:=rfl
@[simp] theorem gj:eS .nmem d (.lst ys)=if ys.all fun y=>dY y d then some (!ys.any fun y=>eqv y d) else none:=rfl
@[simp] theorem oi:biD .len [.tup xs]=some (.int xs.length):=rfl
@[simp] theorem oj:biD .len [.lst xs]=some (.int xs.length):=rfl
@[simp] theorem kB:biD .len [.str x]=if x.length<=lim then some (.int x.length) else none:=rfl
@[simp] theorem KS:biD .abs [.int i]=some (.int (if i < 0 then -i else i)):=rfl
@[simp] theorem KU:biD .int [.int i]=some (.int i):=rfl
@[simp] theorem Hi:biD .int [.bl c]=some (.int (if c then 1 else 0)):=rfl
@[simp] theorem KW:biD .str [.int i]=if big i then some (.str (toString i)) else none:=rfl
@[simp] theorem DK:biD .tuple [.lst xs]=some (.tup xs):=rfl
@[simp] theorem DL:biD .tuple [.tup xs]=some (.tup xs):=rfl
@[simp] theorem E4:biD .list [.lst xs]=some (.lst xs):=rfl
@[simp] theorem E5:biD .list [.tup xs]=some (.lst xs):=rfl
@[simp] theorem KY:biD .all [.lst xs]=(allB xs).map .bl:=rfl
@[simp] theorem KZ:biD .any [.lst xs]=(anyB xs).map .bl:=rfl
@[simp] theorem Hj:biD .isInt [d]=some (.bl (isI d)):=rfl
@[simp] theorem E6:biD .isBool [d]=some (.bl (isB d)):=rfl
@[simp] theorem Hl:biD .isStr [d]=some (.bl (isS d)):=rfl
@[simp] theorem DM:biD .isTuple [d]=some (.bl (isT d)):=rfl
@[simp] theorem E7:biD .isList [d]=some (.bl (isL d)):=rfl
@[simp] theorem K0:biD .min2 [.int i,.int j]=some (.int (if j < i then j else i)):=rfl
@[simp] theorem K1:biD .max2 [.int i,.int j]=some (.int (if j > i then j else i)):=rfl
@[simp] theorem Mb:pC (.tup xs)=some xs:=rfl
@[simp] theorem Mc:pC (.lst xs)=some xs:=rfl
@[simp] theorem yv:fK .seq [d]=pC d:=rfl
@[simp] theorem wD:fK .rng1 [.int a]=if -100000<=a&&a<=100000 then some (upto 0 a.toNat) else none:=rfl
@[simp] theorem Ho:fK .rng2 [.int a,.int b]=if -100000<=a&&a<=100000&&-100000<=b&&b<=100000 then some (upto a (b - a).toNat) else none:=rfl
theorem wF {c:Int}:fK .rng3 [.int a,.int b,.int c]=if c=-1/\-100000<=a/\a<=100000/\-100000<=b/\b<=100000 then some (down a (a - b).toNat) else none:=rfl
@[simp] theorem IM:fK .rev [.lst xs]=some xs.reverse:=rfl
@[simp] theorem IP {x:Str}:fK .chs [.str x]=some (nG x):=rfl
@[simp] theorem fW {x y:D}:fK .zipG [x,y]=(yr x).bind fun xs=>(yr y).map (gC xs):=rfl
@[simp] theorem IQ:fK .itm [.lst xs]=some xs:=rfl
@[simp] theorem IR:fK .enu [.lst xs]=some (kr 0 xs):=rfl
@[simp] theorem IS:fK .zip2 [.lst xs,.lst ys]=some (gC xs ys):=rfl
@[simp] theorem E8:meD .tindex (.tup xs) [d]=if xs.all fun y=>dY y d then (iL d xs 0).map fun (q:Nat)=>D.int (q:Int) else none:=rfl
@[simp] theorem qX (n:Nat):unpack n (.lst xs)=if xs.length=n then some xs else none:=rfl
@[simp] theorem qY (n:Nat):unpack n (.tup xs)=if xs.length=n then some xs else none:=rfl
end
@[simp] theorem qZ (d:D):target 1 d=some [d]:=rfl
@[simp] theorem IT (d:D):target 2 d=unpack 2 d:=rfl
noncomputable def uI (o:Option D) (out:List D) (h:HH):Option (List D×HH):=some (match o with | some x=>x :: out | none=>out,h)
noncomputable def mJ (r:HH->Option (List D×HH)) (o:Option D) (h:HH):Option (List D×HH):=bnd (r h) (uI o)
@[simp] theorem IU (o:Option D) (out:List D) (h:HH):uI o out h=some (match o with | some x=>x :: out | none=>out,h):=rfl
@[simp] theorem i6 (r:HH->Option (List D×HH)) (o:Option D) (h:HH):mJ r o h=bnd (r h) (uI o):=rfl
noncomputable def c9 (f:List D->HH->Option (Option D×HH)) (n:Nat):List D->HH->Option (List D×HH)
 | [],h=>some ([],h)
 | d :: r,h=>match target n d with
  | some ds=>bnd (f ds h) (mJ (c9 f n r))
  | none=>none
noncomputable def gz (d:D):Option W:=some (.p d)
noncomputable abbrev EH:=HH->Option (W×HH)
noncomputable abbrev OpW:=W->W->HH->Option (W×HH)
@[simp] noncomputable def k2 (eb:EH) (op:OpW) (x:W) (h:HH):Option (W×HH):=bnd (eb h) (op x)
@[simp] noncomputable def nH (o:Bin) (x y:W) (h:HH):Option (W×HH):=match rd x h,rd y h with
 | some d,some e=>(fZ o d e).map fun z=>(.p z,h)
 | _,_=>none
noncomputable def inT (o:Cm) (x:W) (kvs:List (Str×D)):Option Bool:=match o,x with
 | .mem,.p (.str s)=>some (dB s kvs).isSome
 | .nmem,.p (.str s)=>some (!(dB s kvs).isSome)
 | _,_=>none
noncomputable def inL (o:Cm) (x:W) (kvs:List (Ky×D)):Option Bool:=match o,x with
 | .mem,.p d=>(nF d).map fun k=>(fc kvs k).isSome
 | _,_=>none
noncomputable def inK (o:Cm) (x:W) (q:Kd):Option Bool:=match q with
 | .t kvs=>inT o x kvs
 | .l kvs=>inL o x kvs
noncomputable def memC:Cm->Bool
 | .mem=>true
 | .nmem=>true
 | _=>false
theorem mK {o:Cm}{x:W}{q:Kd}{b:Bool} (h:memC o=false):¬ inK o x q=some b:=by
 intro e
 cases o<;>first | exact LG h | exact jr e | (cases q<;>first | exact jr e | (cases x<;>exact jr e))
@[simp] noncomputable def ju (o:Cm) (x y:W) (h:HH):Option (W×HH):=match y with
 | .k kvs=>(inK o x kvs).map fun z=>(.p (.bl z),h)
 | y=>match rd x h,rd y h with
  | some d,some e=>(eS o d e).map fun z=>(.p (.bl z),h)
  | _,_=>none
noncomputable def atT (kvs:List (Str×D)) (y:W):Option D:=match y with
 | .p (.str s)=>dB s kvs
 | _=>none
noncomputable def atL (kvs:List (Ky×D)) (y:W):Option D:=match y with
 | .p d=>(nF d).bind (fc kvs)
 | _=>none
noncomputable def atK (q:Kd) (y:W):Option D:=match q with
 | .t kvs=>atT kvs y
 | .l kvs=>atL kvs y
@[simp] theorem Nq (kvs:List (Str×D)) (x:Str):atK (.t kvs) (.p (.str x))=dB x kvs:=rfl
@[simp] theorem Nr (kvs:List (Ky×D)) (i:Int):atK (.l kvs) (.p (.int i))=fc kvs (.inl i):=rfl
@[simp] theorem Nt (kvs:List (Str×D)) (x:Str):inK .mem (.p (.str x)) (.t kvs)=some (dB x kvs).isSome:=rfl
@[simp] theorem Nu (kvs:List (Str×D)) (x:Str):inK .nmem (.p (.str x)) (.t kvs)=some (!(dB x kvs).isSome):=rfl
@[simp] theorem Nv (kvs:List (Ky×D)) (i:Int):inK .mem (.p (.int i)) (.l kvs)=some (fc kvs (.inl i)).isSome:=rfl
@[simp] noncomputable def Bp (x y:W) (h:HH):Option (W×HH):=match x with
 | .k kvs=>(atK kvs y).map fun z=>(.p z,h)
 | x=>match rd x h,rd y h with
  | some d,some e=>(fq d e).map fun z=>(.p z,h)
  | _,_=>none
@[simp] noncomputable def Bq (x:W) (h:HH):Option (W×HH):=match x with | .p (.int i)=>some (.p (.int (-i)),h) | _=>none
@[simp] noncomputable def Br (x:W) (h:HH):Option (W×HH):=match x with | .p (.bl b)=>some (.p (.bl (!b)),h) | _=>none
@[simp] noncomputable def Bs (eb:EH) (x:W) (h:HH):Option (W×HH):=match x with | .p (.bl c)=>if c then eb h else some (.p (.bl false),h) | _=>none
@[simp] noncomputable def kOr (eb:EH) (x:W) (h:HH):Option (W×HH):=match x with | .p (.bl c)=>if c then some (.p (.bl true),h) else eb h | _=>none
@[simp] noncomputable def Bt (ea eb:EH) (x:W) (h:HH):Option (W×HH):=match x with | .p (.bl c)=>if c then ea h else eb h | _=>none
@[simp] noncomputable def IV (o':Cm) (e:D) (z:W) (h:HH):Option (W×HH):=match rd z h with
 | some f=>(eS o' e f).map fun r=>(.p (.bl r),h)
 | none=>none
@[simp] noncomputable def oCh (o o':Cm) (ec:EH) (x y:W) (h:HH):Option (W×HH):=match rd x h,y with
 | some d,.p e=>match eS o d e with
  | some true=>bnd (ec h) (IV o' e)
  | some false=>some (.p (.bl false),h)
  | none=>none
 | _,_=>none
@[simp] noncomputable def E9 (ws:List W) (h:HH):Option (W×HH):=match dj ws with | some ds=>if ds.length<=lim then some (.p (.tup ds),h) else none | none=>none
@[simp] noncomputable def Fb (mu:Bool) (ws:List W) (h:HH):Option (W×HH):=match dj ws with | some ds=>if ds.length<=lim then some (new mu ds h) else none | none=>none
@[simp] noncomputable def IW (x:W) (l u:List W) (h:HH):Option (W×HH):=match rd x h,(dj l).bind o9,(dj u).bind o9 with
 | some d,some l',some u'=>(pq d l' u').map fun z=>(.p z,h)
 | _,_,_=>none
@[simp] noncomputable def IX (eu:HH->Option (List W×HH)) (x:W) (l:List W) (h:HH):Option (W×HH):=bnd (eu h) (IW x l)
@[simp] noncomputable def IY (el eu:HH->Option (List W×HH)) (x:W) (h:HH):Option (W×HH):=bnd (el h) (IX eu x)
@[simp] noncomputable def Mf (x:W) (h:HH):Option (W×HH):=match x with
 | .p (.tup xs)=>some (.p (.tup xs.reverse),h)
 | _=>none
noncomputable def yw (k:Int) (xs:List D):List D:=(Ur (OM none none (some k) xs.length).1 (OM none none (some k) xs.length).2.1 (OM none none (some k) xs.length).2.2).filterMap fun i=>xs[i]?
@[simp] noncomputable def Fc (mu:Bool) (k:Int) (x:W) (h:HH):Option (W×HH):=match rd x h with
 | some (.lst xs)=>some (new mu (yw k xs) h)
 | _=>none
@[simp] noncomputable def kBi (b:Bi) (mu:Bool) (ws:List W) (h:HH):Option (W×HH):=match rds ws h with
 | some ds=>match biD b ds with
  | some d=>if mu then (match d with | .lst xs=>some (new true xs h) | _=>none) else some (.p d,h)
  | none=>none
 | none=>none
noncomputable def nI (x:W) (h:HH):Bool:=match x with
 | .r n=>(lat h n).isSome
 | .k (.l _)=>false
 | _=>true
@[simp] theorem Mg (n:Nat) (h:HH):nI (.r n) h=(lat h n).isSome:=rfl
@[simp] theorem Mh (d:D) (h:HH):nI (.p d) h=true:=rfl
@[simp] theorem Mi (d:List (Str×D)) (h:HH):nI (.k (.t d)) h=true:=rfl
@[simp] noncomputable def kMe (m:Me) (ea:HH->Option (List W×HH)) (x:W) (h:HH):Option (W×HH):=if nI x h then bnd (ea h) (meW m x) else none
@[simp] noncomputable def kLs (mu:Bool) (sr:Sr) (ws:List W) (h:HH):Option (W×HH):=match (rds ws h).bind (fK sr) with
 | some ds=>if ds.length<=lim then some (new mu ds h) else none
 | none=>none
@[simp] noncomputable def jv (w:W) (h:HH):Option (Option D×HH):=match w with | .p d=>some (some d,h) | _=>none
noncomputable def uJ (ee:EH) (cs:List W) (h:HH):Option (Option D×HH):=match cs with
 | []=>bnd (ee h) jv
 | [.p (.bl true)]=>bnd (ee h) jv
 | [.p (.bl false)]=>some (none,h)
 | _=>none
@[simp] theorem K2 (ee:EH) (h:HH):uJ ee [] h=bnd (ee h) jv:=rfl
@[simp] theorem K3 (ee:EH) (h:HH):uJ ee [.p (.bl true)] h=bnd (ee h) jv:=rfl
@[simp] theorem K4 (ee:EH) (h:HH):uJ ee [.p (.bl false)] h=some (none,h):=rfl
@[simp] noncomputable def dP (ec:Sl->HH->Option (List W×HH)) (ee:Sl->EH) (fs:Sl) (xs:List D) (h:HH):Option (Option D×HH) :=
 bnd (ec (xs.map gz++fs) h) (uJ (ee (xs.map gz++fs)))
@[simp] noncomputable def gD (mu:Bool) (out:List D) (h:HH):Option (W×HH):=if out.length<=lim then some (new mu out h) else none
noncomputable def iH (f:Str):List (Str×W)->Option W
 | []=>none
 | (x,w) :: r=>if f=x then some w else iH f r
noncomputable def eB (f:Str) (w:W):List (Str×W)->List (Str×W)
 | []=>[(f,w)]
 | (x,u) :: r=>if f=x then (f,w) :: r else (x,u) :: eB f w r
@[simp] theorem IZ (f:Str):iH f []=none:=rfl
@[simp] theorem om (f x:Str) (w:W) (r:List (Str×W)):iH f ((x,w) :: r)=if f=x then some w else iH f r:=rfl
@[simp] theorem I0 (f:Str) (w:W):eB f w []=[(f,w)]:=rfl
@[simp] theorem wG (f x:Str) (w u:W) (r:List (Str×W)):eB f w ((x,u) :: r)=if f=x then (f,w) :: r else (x,u) :: eB f w r:=rfl
noncomputable def attrOk:W->Bool
 | .p _=>true
 | .r _=>true
 | .k _=>false
 | .o _=>true
 | .c _ _=>false
 | .x _=>false
@[simp] theorem Ja (d:D):attrOk (.p d)=true:=rfl
@[simp] theorem Jb (n:Nat):attrOk (.r n)=true:=rfl
@[simp] theorem Jc (n:Nat):attrOk (.o n)=true:=rfl
noncomputable def Bu (f:Str) (x:W) (h:HH):Option (W×HH):=match x with
 | .o n=>match oat h n with
  | some (_,fs)=>(iH f fs).map fun w=>(w,h)
  | none=>none
 | _=>none
@[simp] theorem Fd (f:Str) (n:Nat) (h:HH):Bu f (.o n) h=match oat h n with
 | some (_,fs)=>(iH f fs).map fun w=>(w,h)
 | none=>none:=rfl
noncomputable def sW (F:FK->List W->HH->Option (W×HH)) (q:FK) (n:Nat) (ws:List W) (h:HH):Option (W×HH):=F q (.o n :: ws) h
@[simp] theorem Hq (F:FK->List W->HH->Option (W×HH)) (q:FK) (n:Nat) (ws:List W) (h:HH):sW F q n ws h=F q (.o n :: ws) h:=rfl
noncomputable def yx (F:FK->List W->HH->Option (W×HH)) (m:Str) (ea:HH->Option (List W×HH)) (x:W) (h:HH):Option (W×HH):=match x with
 | .o n=>match oat h n with
  | some (c,fs)=>if (iH m fs).isNone then bnd (ea h) (sW F (.m c m) n) else none
  | none=>none
 | _=>none
@[simp] theorem Bv (F:FK->List W->HH->Option (W×HH)) (m:Str) (ea:HH->Option (List W×HH)) (n:Nat) (h:HH):yx F m ea (.o n) h=match oat h n with
 | some (c,fs)=>if (iH m fs).isNone then bnd (ea h) (sW F (.m c m) n) else none
 | none=>none:=rfl
noncomputable def uK (n:Nat) (x:W) (h:HH):Option (W×HH):=match x with
 | .p .non=>some (.o n,h)
 | _=>none
@[simp] theorem K5 (n:Nat) (h:HH):uK n (.p .non) h=some (.o n,h):=rfl
noncomputable def DN (F:FK->List W->HH->Option (W×HH)) (c:Str) (ws:List W) (h:HH):Option (W×HH):=bnd (F (.m c "__init__") (.o h.length :: ws) (h++[.o c []])) (uK h.length)
@[simp] theorem yy (F:FK->List W->HH->Option (W×HH)) (c:Str) (ws:List W) (h:HH):DN F c ws h=bnd (F (.m c "__init__") (.o h.length :: ws) (h++[.o c []])) (uK h.length):=rfl
noncomputable def jn:List W->Bool
 | []=>true
 | .p _ :: r=>jn r
 | _=>false
open Classical in
noncomputable def chk (q:Nat) (ds:List D) (f:List D->HH->Option (Option D×HH)) (xs:List D) (h:HH):Option (Option D×HH):=match f xs h with
 | some (o,h')=>if lat h' q=some ds then some (o,h') else none
 | none=>none
noncomputable def sX (mu:Bool) (sr:Sr) (n:Nat) (f:List D->HH->Option (Option D×HH)) (ws:List W) (ds:List D) (h:HH):Option (W×HH):=match ws,sr with
 | [.r q],.seq=>bnd (c9 (chk q ds f) n ds h) (gD mu)
 | _,_=>none
theorem yz (mu:Bool) (n:Nat) (f:List D->HH->Option (Option D×HH)) (q:Nat) (ds:List D) (h:HH):sX mu .seq n f [.r q] ds h=bnd (c9 (chk q ds f) n ds h) (gD mu):=rfl
@[simp] noncomputable def oq (mu:Bool) (sr:Sr) (n:Nat) (fs:Option Sl) (ec:Sl->HH->Option (List W×HH)) (ee:Sl->EH) (ws:List W) (h:HH):Option (W×HH) :=
 match (rds ws h).bind (fK sr),fs with
 | some ds,some fs=>if jn ws then bnd (c9 (dP ec ee fs) n ds h) (gD mu) else sX mu sr n (dP ec ee fs) ws ds h
 | _,_=>none
@[simp] noncomputable def gT (w:W) (ws:List W) (h:HH):Option (List W×HH):=some (w :: ws,h)
@[simp] noncomputable def mL (er:HH->Option (List W×HH)) (w:W) (h:HH):Option (List W×HH):=bnd (er h) (gT w)
@[simp] noncomputable def frees (s:Sl):List (Nat×Str)->Option Sl
 | []=>some []
 | q :: r=>match s[q.1]? with
  | some w=>(frees s r).map (w :: ·)
  | none=>none
noncomputable def caps (s:Sl):List (Nat×Str)->Option (List Cp)
 | []=>some []
 | q :: r=>match s[q.1]? with
  | some (some w)=>(uH w).bind fun x=>(caps s r).map (x :: ·)
  | _=>none
@[simp] theorem Jd (s:Sl):caps s []=some []:=rfl
@[simp] theorem Hr (s:Sl) (q:Nat×Str) (r:List (Nat×Str)):caps s (q :: r)=match s[q.1]? with
 | some (some w)=>(uH w).bind fun x=>(caps s r).map (x :: ·)
 | _=>none:=rfl
noncomputable def noC:List W->Bool
 | []=>true
 | .p _ :: r=>noC r
 | .r _ :: r=>noC r
 | .k _ :: _=>false
 | .o _ :: r=>noC r
 | .c _ _ :: _=>false
 | .x _ :: _=>false
@[simp] theorem K6:noC []=true:=rfl
@[simp] theorem Nx (d:D) (r:List W):noC (.p d :: r)=noC r:=rfl
@[simp] theorem Ny (d:Nat) (r:List W):noC (.r d :: r)=noC r:=rfl
@[simp] theorem Nz (d:Nat) (r:List W):noC (.o d :: r)=noC r:=rfl
noncomputable def yC (F:FK->List W->HH->Option (W×HH)) (o:Option (Option W)) (ws:List W) (h:HH):Option (W×HH):=match o with
 | some (some (.c k cs))=>if noC ws then F k (ws++cs.map Cp.w) h else none
 | _=>none
@[simp] theorem Je (F:FK->List W->HH->Option (W×HH)) (k:FK) (cs:List Cp) (ws:List W) (h:HH):yC F (some (some (.c k cs))) ws h=if noC ws then F k (ws++cs.map Cp.w) h else none:=rfl
noncomputable def yD (w:W) (h:HH):Option (W×HH):=match w with
 | .c _ _=>none
 | .x _=>none
 | .k _=>none
 | w=>some (w,h)
@[simp] theorem Mj (d:D) (h:HH):yD (.p d) h=some (.p d,h):=rfl
@[simp] theorem Ml (n:Nat) (h:HH):yD (.r n) h=some (.r n,h):=rfl
@[simp] theorem Mm (n:Nat) (h:HH):yD (.o n) h=some (.o n,h):=rfl
noncomputable def pF (F:FK->List W->HH->Option (W×HH)) (q:FK) (n:Nat) (L:Nat) (cs:Option (List Cp)) (ws:List W) (h:HH):Option (W×HH):=match cs with
 | some cs=>bnd (F q (.o n :: (ws++[.c (.l L) cs])) h) yD
 | none=>none
@[simp] theorem Hs (F:FK->List W->HH->Option (W×HH)) (q:FK) (n:Nat) (L:Nat) (cs:List Cp) (ws:List W) (h:HH):pF F q n L (some cs) ws h=bnd (F q (.o n :: (ws++[.c (.l L) cs])) h) yD:=rfl
noncomputable def yE (F:FK->List W->HH->Option (W×HH)) (m:Str) (ea:HH->Option (List W×HH)) (L:Nat) (cs:Option (List Cp)) (x:W) (h:HH):Option (W×HH):=match x with
 | .o n=>match oat h n with
  | some (c,fs)=>if (iH m fs).isNone then bnd (ea h) (pF F (.m c m) n L cs) else none
  | none=>none
 | _=>none
@[simp] theorem Jf (F:FK->List W->HH->Option (W×HH)) (m:Str) (ea:HH->Option (List W×HH)) (L:Nat) (cs:Option (List Cp)) (n:Nat) (h:HH):yE F m ea L cs (.o n) h=match oat h n with
 | some (c,fs)=>if (iH m fs).isNone then bnd (ea h) (pF F (.m c m) n L cs) else none
 | none=>none:=rfl
noncomputable def Fe (c cn:Str):Bool:=cn==c||cn=="TapeError"||cn=="ValueError"
noncomputable def Mn (cn:Str) (x:W) (h:HH):Option (W×HH):=match x with
 | .x c=>some (.p (.bl (Fe c cn)),h)
 | _=>none
@[simp] theorem Mp (cn c:Str) (h:HH):Mn cn (.x c) h=some (.p (.bl (Fe c cn)),h):=rfl
noncomputable def strsOf:List D->Option (List Str)
 | []=>some []
 | .str x :: r=>(strsOf r).map (x :: ·)
 | _=>none
noncomputable def boolsOf:List D->Option (List Bool)
 | []=>some []
 | .bl b :: r=>(boolsOf r).map (b :: ·)
 | _=>none
noncomputable def txD:Tx->List D->Option D
 | .join,[.str x,.lst ys]=>(strsOf ys).bind fun ts=>if ts.length<=1000/\x.length<=10/\∀ t∈ts,t.length<=1000 then some (.str (NZ x ts)) else none
 | .split,[.str x,.str y]=>if y.length=1/\x.length<=lim then some (.lst ((Txt.split x y).map .str)) else none
 | .str,[.int i]=>if big i then some (.str (toString i)) else none
 | .str,[.str x]=>some (.str x)
 | .intS,[.str x]=>if x.length<=640 then (Qm x).map .int else none
 | .all,[.lst xs]=>(boolsOf xs).map fun bs=>.bl (bs.all id)
 | .inS,[.str x,.str y]=>some (.bl (Txt.contains y x))
 | .ninS,[.str x,.str y]=>some (.bl (!Txt.contains y x))
 | .pre,[.str x,.int i]=>if 0<=i/\x.length<=lim then some (.str ⟨x.cps.extract 0 i.toNat⟩) else none
 | _,_=>none
noncomputable def yF (kvs:List (Str×D)) (as:List W) (h:HH):Option (W×HH):=match as with
 | [.p (.str x)]=>some (.p ((dB x kvs).getD .non),h)
 | [.p (.str x),.p d]=>some (.p ((dB x kvs).getD d),h)
 | _=>none
noncomputable def sY (kvs:List (Ky×D)) (as:List W) (h:HH):Option (W×HH):=match as with
 | [.p (.str x)]=>some (.p ((fc kvs (.inr x)).getD .non),h)
 | [.p (.str x),.p d]=>some (.p ((fc kvs (.inr x)).getD d),h)
 | _=>none
noncomputable def kTx (k:Tx) (ws:List W) (h:HH):Option (W×HH):=match k,ws with
 | .dget,.k (.t kvs) :: as=>yF kvs as h
 | .dget,.k (.l kvs) :: as=>sY kvs as h
 | k,ws=>(rds ws h).bind fun ds=>(txD k ds).map fun d=>(.p d,h)
section
variable (F:FK->List W->HH->Option (W×HH)) (G:Str->Option W)
mutual
@[simp] noncomputable def ev:E->Sl->HH->Option (W×HH)
 | .var i,s,h=>match s[i]? with | some (some w)=>some (w,h) | _=>none
 | .cst d,_,h=>some (.p d,h)
 | .glo x,_,h=>(G x).map fun w=>(w,h)
 | .bin o a b,s,h=>bnd (ev a s h) (k2 (ev b s) (nH o))
 | .neg a,s,h=>bnd (ev a s h) Bq
 | .not a,s,h=>bnd (ev a s h) Br
 | .and a b,s,h=>bnd (ev a s h) (Bs (ev b s))
 | .or a b,s,h=>bnd (ev a s h) (kOr (ev b s))
 | .cmp o a b,s,h=>bnd (ev a s h) (k2 (ev b s) (ju o))
 | .chain o o' a b c,s,h=>bnd (ev a s h) (k2 (ev b s) (oCh o o' (ev c s)))
 | .ite c a b,s,h=>bnd (ev c s h) (Bt (ev a s) (ev b s))
 | .tup as,s,h=>bnd (evs as s h) E9
 | .lst mu as,s,h=>bnd (evs as s h) (Fb mu)
 | .idx a i,s,h=>bnd (ev a s h) (k2 (ev i s) Bp)
 | .slc a lo hi,s,h=>bnd (ev a s h) (IY (evs lo s) (evs hi s))
 | .rvs a,s,h=>bnd (ev a s h) Mf
 | .stp mu k a,s,h=>bnd (ev a s h) (Fc mu k)
 | .call f as,s,h=>bnd (evs as s h) (F (.f f))
 | .fld a f,s,h=>bnd (ev a s h) (Bu f)
 | .meth o m as,s,h=>bnd (ev o s h) (yx F m (evs as s))
 | .make c as,s,h=>bnd (evs as s h) (DN F c)
 | .bi b mu as,s,h=>bnd (evs as s h) (kBi b mu)
 | .lsr mu sr as,s,h=>bnd (evs as s h) (kLs mu sr)
 | .me m o as,s,h=>bnd (ev o s h) (kMe m (evs as s))
 | .comp mu sr sa tg fv cond elt,s,h=>bnd (evs sa s h) (oq mu sr tg.length (frees s fv) (evs cond) (ev elt))
 | .callv i as,s,h=>bnd (evs as s h) (yC F s[i]?)
 | .methL o m as L fv,s,h=>bnd (ev o s h) (yE F m (evs as s) L (caps s fv))
 | .tx k as,s,h=>bnd (evs as s h) (kTx k)
 | .dlit kvs,_,h=>some (.k (.l (kvs.map fun p=>(.inr p.1,p.2))),h)
@[simp] noncomputable def evs:Es->Sl->HH->Option (List W×HH)
 | .nil,_,h=>some ([],h)
 | .cons a as,s,h=>bnd (ev a s h) (mL (evs as s))
end
inductive Fl where
 | nx (s:Sl) (h:HH) | rt (w:W) (h:HH) | bk (s:Sl) (h:HH) | ct (s:Sl) (h:HH)
noncomputable def Jg (k:Bool->HH->Option Fl) (w:W) (h:HH):Option Fl:=match w with | .p (.bl b)=>k b h | _=>none
noncomputable def tst (x:Option (W×HH)) (k:Bool->HH->Option Fl):Option Fl:=bnd x (Jg k)
@[simp] theorem sZ (b:Bool) (h:HH) (k:Bool->HH->Option Fl):tst (some (.p (.bl b),h)) k=k b h:=rfl
noncomputable def oz (x:Option Fl) (k:Sl->HH->Option Fl):Option Fl:=match x with
 | some (.nx s h)=>k s h
 | y=>y
@[simp] theorem Jh (s:Sl) (h:HH) (k:Sl->HH->Option Fl):oz (some (.nx s h)) k=k s h:=rfl
@[simp] theorem Ji (w:W) (h:HH) (k:Sl->HH->Option Fl):oz (some (.rt w h)) k=some (.rt w h):=rfl
@[simp] theorem Jj (s:Sl) (h:HH) (k:Sl->HH->Option Fl):oz (some (.bk s h)) k=some (.bk s h):=rfl
@[simp] theorem Jk (s:Sl) (h:HH) (k:Sl->HH->Option Fl):oz (some (.ct s h)) k=some (.ct s h):=rfl
@[simp] theorem Ff (k:Sl->HH->Option Fl):oz none k=none:=rfl
noncomputable def iG (x:Option Fl) (k:Sl->HH->Option Fl):Option Fl:=match x with
 | some (.nx s h)=>k s h
 | some (.ct s h)=>k s h
 | some (.bk s h)=>some (.nx s h)
 | y=>y
@[simp] theorem eW (s:Sl) (h:HH) (k:Sl->HH->Option Fl):iG (some (.nx s h)) k=k s h:=rfl
@[simp] theorem Jl (s:Sl) (h:HH) (k:Sl->HH->Option Fl):iG (some (.ct s h)) k=k s h:=rfl
@[simp] theorem Jm (s:Sl) (h:HH) (k:Sl->HH->Option Fl):iG (some (.bk s h)) k=some (.nx s h):=rfl
@[simp] theorem Jo (w:W) (h:HH) (k:Sl->HH->Option Fl):iG (some (.rt w h)) k=some (.rt w h):=rfl
@[simp] theorem Fg (k:Sl->HH->Option Fl):iG none k=none:=rfl
@[simp] noncomputable def sets:List (Nat×Str)->List D->Sl->Sl
 | (i,_) :: r,d :: ds,s=>sets r ds (s.set i (some (.p d)))
 | _,_,s=>s
noncomputable def Fi (b:Sl->HH->Option Fl) (again:Sl->HH->Option Fl) (s:Sl) (t:Bool) (h:HH):Option Fl:=if t then iG (b s h) again else some (.nx s h)
@[simp] theorem pG (b again:Sl->HH->Option Fl) (s:Sl) (h:HH):Fi b again s true h=iG (b s h) again:=rfl
@[simp] theorem Fj (b again:Sl->HH->Option Fl) (s:Sl) (h:HH):Fi b again s false h=some (.nx s h):=rfl
noncomputable def fG (c:Sl->HH->Option (W×HH)) (b:Sl->HH->Option Fl):Nat->Sl->HH->Option Fl
 | 0,_,_=>none
 | n+1,s,h=>tst (c s h) (Fi b (fG c b n) s)
@[simp] noncomputable def d8 (b:Sl->HH->Option Fl) (tg:List (Nat×Str)):List D->Sl->HH->Option Fl
 | [],s,h=>some (.nx s h)
 | d :: r,s,h=>match target tg.length d with
  | some ds=>iG (b (sets tg ds s) h) (d8 b tg r)
  | none=>none
noncomputable def turns:Nat:=100000
@[simp] noncomputable def yG (s:Sl) (i:Nat) (w:W) (h:HH):Option Fl:=some (.nx (s.set i (some w)) h)
@[simp] noncomputable def Fk (s:Sl) (xs:List (Nat×Str)) (w:W) (h:HH):Option Fl:=match w with
 | .p d=>match unpack xs.length d with | some ds=>some (.nx (sets xs ds s) h) | none=>none
 | _=>none
@[simp] noncomputable def Jp (s:Sl) (i:Nat) (o:Bin) (w:W) (h:HH):Option Fl:=match s[i]?,w with
 | some (some (.p d)),.p d'=>(mj o d d').map fun z=>.nx (s.set i (some (.p z))) h
 | _,_=>none
@[simp] noncomputable def DO (s:Sl) (n:Nat) (d:D) (q:W) (h:HH):Option Fl:=match q,lat h n with
 | .p (.int j),some xs=>match place xs.length j with
  | some m=>some (.nx s (h.set n (.l (xs.set m d))))
  | none=>none
 | _,_=>none
@[simp] noncomputable def Fo (ek:EH) (s:Sl) (i:Nat) (w:W) (h:HH):Option Fl:=match w,s[i]? with
 | .p d,some (some (.r n))=>bnd (ek h) (DO s n d)
 | _,_=>none
noncomputable def yH (s:Sl) (n:Nat) (d:D) (q:W) (h:HH):Option Fl:=match q with
 | .p k=>(dat h n).bind fun kvs=>(nF k).bind fun y=>if kvs.length < lim then some (.nx s (h.set n (.d (DJ kvs y d)))) else none
 | _=>none
@[simp] theorem Jq (s:Sl) (n:Nat) (d k:D) (h:HH):yH s n d (.p k) h=(dat h n).bind fun kvs=>(nF k).bind fun y=>if kvs.length < lim then some (.nx s (h.set n (.d (DJ kvs y d)))) else none:=rfl
noncomputable def NB (ek:EH) (s:Sl) (i:Nat) (w:W) (h:HH):Option Fl:=match w,s[i]? with
 | .p d,some (some (.r n))=>bnd (ek h) (yH s n d)
 | _,_=>none
noncomputable def pH (s:Sl) (f:Str) (v:W) (x:W) (h:HH):Option Fl:=match x with
 | .o n=>match oat h n with
  | some (c,fs)=>if attrOk v&&fs.length < 1000 then some (.nx s (h.set n (.o c (eB f v fs)))) else none
  | none=>none
 | _=>none
@[simp] theorem yI (s:Sl) (f:Str) (v:W) (n:Nat) (h:HH):pH s f v (.o n) h=match oat h n with
 | some (c,fs)=>if attrOk v&&fs.length < 1000 then some (.nx s (h.set n (.o c (eB f v fs)))) else none
 | none=>none:=rfl
noncomputable def yJ (eo:EH) (s:Sl) (f:Str) (v:W) (h:HH):Option Fl:=bnd (eo h) (pH s f v)
@[simp] theorem yK (eo:EH) (s:Sl) (f:Str) (v:W) (h:HH):yJ eo s f v h=bnd (eo h) (pH s f v):=rfl
noncomputable def pI (s:Sl) (f:Str) (op:Bin) (n:Nat) (c:Str) (d:D) (v:W) (h:HH):Option Fl:=match v,oat h n with
 | .p e,some (c',fs)=>match mj op d e with
  | some z=>if c'=c/\fs.length < 1000 then some (.nx s (h.set n (.o c' (eB f (.p z) fs)))) else none
  | none=>none
 | _,_=>none
@[simp] theorem yL (s:Sl) (f:Str) (op:Bin) (n:Nat) (c:Str) (d e:D) (h:HH):pI s f op n c d (.p e) h=match oat h n with
 | some (c',fs)=>match mj op d e with
  | some z=>if c'=c/\fs.length < 1000 then some (.nx s (h.set n (.o c' (eB f (.p z) fs)))) else none
  | none=>none
 | none=>none:=by unfold pI;cases oat h n<;>rfl
noncomputable def uL (ee:EH) (s:Sl) (f:Str) (op:Bin) (x:W) (h:HH):Option Fl:=match x with
 | .o n=>match oat h n with
  | some (c,fs)=>match iH f fs with
   | some (.p d)=>bnd (ee h) (pI s f op n c d)
   | _=>none
  | none=>none
 | _=>none
@[simp] theorem Bw (ee:EH) (s:Sl) (f:Str) (op:Bin) (n:Nat) (h:HH):uL ee s f op (.o n) h=match oat h n with
 | some (c,fs)=>match iH f fs with
  | some (.p d)=>bnd (ee h) (pI s f op n c d)
  | _=>none
 | none=>none:=rfl
@[simp] noncomputable def kEx (s:Sl) (_:W) (h:HH):Option Fl:=some (.nx s h)
@[simp] noncomputable def Fp (w:W) (h:HH):Option Fl:=some (.rt w h)
@[simp] noncomputable def kIf (fa fb:HH->Option Fl) (t:Bool) (h:HH):Option Fl:=if t then fa h else fb h
@[simp] noncomputable def kFor (b:Sl->HH->Option Fl) (tg:List (Nat×Str)) (sr:Sr) (s:Sl) (ws:List W) (h:HH):Option Fl:=match (rds ws h).bind (fK sr) with
 | some ds=>if jn ws then d8 b tg ds s h else none
 | none=>none
@[simp] noncomputable def evS:S->Sl->HH->Option Fl
 | .nil,s,h=>some (.nx s h)
 | .seq a b,s,h=>oz (evS a s h) (evS b)
 | .set i e,s,h=>bnd (ev F G e s h) (yG s i)
 | .unp xs e,s,h=>bnd (ev F G e s h) (Fk s xs)
 | .aug i o e,s,h=>bnd (ev F G e s h) (Jp s i o)
 | .put i k e,s,h=>bnd (ev F G e s h) (Fo (ev F G k s) s i)
 | .setf o f e,s,h=>bnd (ev F G e s h) (yJ (ev F G o s) s f)
 | .augf o f op e,s,h=>bnd (ev F G o s h) (uL (ev F G e s) s f op)
 | .ex e,s,h=>bnd (ev F G e s h) (kEx s)
 | .ret e,s,h=>bnd (ev F G e s h) Fp
 | .ife c a b,s,h=>tst (ev F G c s h) (kIf (evS a s) (evS b s))
 | .whl c b,s,h=>fG (ev F G c) (evS b) turns s h
 | .for tg sr sa b,s,h=>bnd (evs F G sa s h) (kFor (evS b) tg sr s)
 | .brk,s,h=>some (.bk s h)
 | .cnt,s,h=>some (.ct s h)
 | .bad,_,_=>none
 | .rai _ _,_,_=>none
open Classical in
noncomputable def fin (h:HH) (w:W) (h':HH):Option (W×HH) :=
 if h'.length=h.length then some (w,h')
 else if h'.take h.length=h then (match w with
  | .p d=>some (.p d,h)
  | .r n=>if n < h.length then some (.r n,h) else (lat h' n).map fun xs=>(.p (.lst xs),h)
  | .o n=>if n < h.length then some (.o n,h) else some (.o n,h')
  | .k _=>none
  | .c _ _=>none
  | .x _=>none)
 else some (w,h')
@[simp] noncomputable def gU (n:Nat) (ws:List W):Sl:=ws.map some++Od (n - ws.length) none
noncomputable def tw (x:Option Fl) (k:W->HH->Option (W×HH)):Option (W×HH):=match x with
 | some (.rt w h)=>k w h
 | some (.nx _ h)=>k (.p .non) h
 | _=>none
@[simp] theorem K7 (w:W) (h:HH) (k:W->HH->Option (W×HH)):tw (some (.rt w h)) k=k w h:=rfl
@[simp] theorem K8 (s:Sl) (h:HH) (k:W->HH->Option (W×HH)):tw (some (.nx s h)) k=k (.p .non) h:=rfl
@[simp] theorem Hu (k:W->HH->Option (W×HH)):tw none k=none:=rfl
end
section
variable (T:FK->Option Fn) (G:Str->Option W)
noncomputable def runN:Nat->FK->List W->HH->Option (W×HH)
 | 0,_,_,_=>none
 | k+1,f,ws,h=>match T f with
  | some fn=>if ws.length=fn.ps.length then tw (evS (runN k) G fn.body (gU fn.ns.length ws) h) (fin h) else none
  | none=>none
theorem run_eq {T:FK->Option Fn}{G:Str->Option W}{f:FK}{fn:Fn}{ws:List W}{h:HH}{k:Nat} (hT:T f=some fn) (hl:ws.length=fn.ps.length) :
 runN T G (k+1) f ws h=tw (evS (runN T G k) G fn.body (gU fn.ns.length ws) h) (fin h):=by
 rw[runN,hT];exact if_pos hl
end
noncomputable def Mq:Fn:=⟨["state","thing"],["state","thing"],.ret (.call "worth_in" (.cons (.var 0) (.cons (.var 1) .nil)))⟩
noncomputable def Mr:Fn:=⟨["state","thing","worth"],["state","thing","worth"],.ret (.cmp .ne (.call "worth_in" (.cons (.var 0) (.cons (.var 1) .nil))) (.var 2))⟩
noncomputable def Ms:Fn:=⟨["state","thing","worth"],["state","thing","worth"],.ret (.cmp .ne (.call "worth_in" (.cons (.var 0) (.cons (.var 1) .nil))) (.var 2))⟩
noncomputable def Mt:Fn:=⟨["state","term"],["state","term"],.ret (.call "reckoned" (.cons (.var 1) (.cons (.var 0) .nil)))⟩
noncomputable def Mu:Fn:=⟨["state","term"],["state","term"],.ret (.cmp .ne (.call "reckoned" (.cons (.var 1) (.cons (.var 0) .nil))) (.cst (.int 0)))⟩
noncomputable def Mv:Fn:=⟨["state","term"],["state","term"],.ret (.cmp .ne (.call "reckoned" (.cons (.var 1) (.cons (.var 0) .nil))) (.cst (.int 0)))⟩
noncomputable def Mw:Fn:=⟨["state"],["state"],.ret (.idx (.var 0) (.glo "ROW"))⟩
noncomputable def Mx:Fn:=⟨["state","row"],["state","row"],.ret (.cmp .eq (.idx (.var 0) (.glo "ROW")) (.var 1))⟩
noncomputable def Mz:Fn:=⟨["state","number"],["state","number"],.ret (.cmp .gt (.bi .len false (.cons (.idx (.var 0) (.glo "SAID")) .nil)) (.var 1))⟩
noncomputable def MA:Fn:=⟨["state","bound"],["state","bound"],.ret (.cmp .le (.call "open_in" (.cons (.var 0) .nil)) (.var 1))⟩
noncomputable def Jr:Fn:=⟨["state","bound"],["state","bound"],.ret (.cmp .le (.call "open_in" (.cons (.var 0) .nil)) (.var 1))⟩
noncomputable def Js:Fn:=⟨["state","wanted"],["state","wanted"],.ret (.and (.cmp .eq (.idx (.var 0) (.glo "NAMES")) (.idx (.var 1) (.glo "NAMES"))) (.cmp .eq (.idx (.var 0) (.glo "CELLS")) (.idx (.var 1) (.glo "CELLS"))))⟩
noncomputable def Jt:Fn:=⟨["state","tape","thing"],["state","tape","thing"],.ret (.cmp .eq (.call "written_next" (.cons (.var 1) (.cons (.var 0) .nil))) (.var 2))⟩
noncomputable def Ju:Fn:=⟨[],[],.ret (.cst .non)⟩
noncomputable def Jv:Fn:=⟨[],[],.ret (.cst .non)⟩
noncomputable def tE (i:Nat):Option Fn:=([Mq,Mr,Ms,Mt,Mu,Mv,Mw,Mx,Mz,MA,Jr,Js,Jt,Ju,Jv]:List Fn)[i]?
noncomputable def gk:List Str:=["worths_of","last_change","next_change","moments_so","last_so","next_so","visits","last_visit","when_said","next_within","last_within","first_other","writer_of","judged","remade"]
noncomputable def DP (i:Nat):Str:=gk.getD i ""
noncomputable def f6 (x:Str):Str:="<"++x++">"
end BT
end
section
namespace BS
open PySem PySem.Spec PyProof.Rows L2
theorem c6 {β:Type}{c:Prop} [Decidable c] {a b:β} (h:(if c then some a else none)=some b):c/\a=b:=by
 by_cases z:c
 ·rw[if_pos z] at h;exact ⟨z,N4 h⟩
 ·rw[if_neg z] at h;exact nomatch h
theorem cR {β:Type}{a:β}{P:Prop} (h:(none:Option β)=some a):P:=nomatch h
noncomputable def attrName (f:Str):Bool:=(["program","asked","gap","most","kept","farthest","front","now","origins","branches","tape","named"]:List Str).contains f
noncomputable def q8:BT.Bi->Option (String×(BT.D->Bool))
 | .isInt=>some ("int",BT.isI)
 | .isBool=>some ("bool",BT.isB)
 | .isStr=>some ("str",BT.isS)
 | .isTuple=>some ("tuple",BT.isT)
 | .isList=>some ("list",BT.isL)
 | _=>none
noncomputable def q9 (sc:OS) (x:Str):Bool:=match sc.names.lookup x with
 | some .local=>true
 | some .cell=>true
 | some .free=>true
 | _=>false
noncomputable def dR (sc:OS) (x:Str):Bool:=sc.names.lookup x==some .globalImplicit
noncomputable def fu (x:Str):Bool:=!(x=="__debug__")&&!(x=="__classdict__")&&!(x=="__name__")
noncomputable def noStar:NY->Bool
 | .Starred _ _=>false
 | _=>true
noncomputable def lH:NY->Bool
 | .Slice _ _ _ _=>false
 | _=>true
noncomputable def dh:NY->Bool
 | .Name _ _=>true
 | .Constant _ _ _=>true
 | .Subscript _ _ _=>true
 | .Attribute _ _ _=>true
 | .Call (.Attribute _ _ _) _ _ _=>true
 | _=>false
noncomputable def Jw:BT.Bin->Q5
 | .add=>.Add
 | .sub=>.Sub
 | .mul=>.Mult
 | .mod=>.Mod
 | .fdiv=>.FloorDiv
 | .pow=>.Pow
noncomputable def DQ (o:BT.Bin) (op:Q5):Bool:=decide (op=Jw o)
noncomputable def MB:BT.Cm->CmpOp
 | .eq=>.Eq
 | .ne=>.NotEq
 | .lt=>.Lt
 | .le=>.LtE
 | .gt=>.Gt
 | .ge=>.GtE
 | .isN=>.Is
 | .notN=>.IsNot
 | .mem=>.In
 | .nmem=>.NotIn
noncomputable def Bx (o:BT.Cm) (op:CmpOp):Bool:=decide (op=MB o)
noncomputable def DR:BT.D->Const->Bool
 | .non,.none=>true
 | .bl a,.bool b=>a==b
 | .int i,.int j=>i==j
 | .str x,.str y=>x==y&&PyData.strOk x
 | _,_=>false
noncomputable def yM:BT.Bi->Bool->Option Str
 | .len,false=>some "len"
 | .abs,false=>some "abs"
 | .int,false=>some "int"
 | .list,_=>some "list"
 | .tuple,false=>some "tuple"
 | _,_=>none
noncomputable def DS (b:BT.Bi) (mu:Bool) (x:Str):Bool:=yM b mu==some x
noncomputable def yN:BT.Bi->Str->Bool
 | .min2,x=>x=="min"
 | .max2,x=>x=="max"
 | _,_=>false
noncomputable def By:NY->Option Const
 | .Constant c _ _=>some c
 | _=>none
noncomputable def cInt:Const->Option Int
 | .int j=>some j
 | _=>none
noncomputable def unE:NY->Option NY
 | .UnaryOp o e _=>if o=.USub then some e else none
 | _=>none
noncomputable def pJ (k:Int) (e:NY):Bool:=((By e).bind cInt==some k&&decide (0 < k))||(((unE e).bind By).bind cInt==some (-k)&&decide (k < 0))
noncomputable def yO:BT.Me->Str
 | .append=>"append"
 | .pop=>"pop"
 | .extend=>"extend"
 | .tindex=>"index"
 | .sindex=>"index"
 | .dget=>"get"
 | .count=>"count"
 | .lindex=>"index"
noncomputable def tF:BT.E->Bool
 | .glo _=>true
 | _=>false
noncomputable def Fq (m:BT.Me) (o:BT.E):Bool:=match m with
 | .append=>true
 | .pop=>true
 | .extend=>true
 | .sindex=>true
 | .tindex=>tF o
 | .dget=>false
 | .count=>true
 | .lindex=>true
noncomputable def DT (c:Str):Bool:=(["NoMoment","NoThing","NoRun","NoText"]:List Str).contains c
noncomputable def NC (cn:Str):Bool:=DT cn||cn=="ValueError"
noncomputable def gm (N:List Str):Bool:=!N.contains "_law_flags"
noncomputable def tOK:BT.E->Bool
 | .ite _ _ _=>false
 | .not a=>tOK a
 | .and a b=>tOK a&&tOK b
 | .or a b=>tOK a&&tOK b
 | .tup _=>false
 | .lst _ _=>false
 | .comp _ _ _ _ _ _ _=>false
 | _=>true
noncomputable def jw:NY->Bool
 | .Set _ _ _=>false
 | _=>true
noncomputable def oA:BT.Sr->NY->Bool
 | .zip2,.Tuple _ _ _=>true
 | .enu,.Tuple _ _ _=>true
 | .itm,.Tuple _ _ _=>true
 | .zipG,.Tuple _ _ _=>true
 | .zip2,_=>false
 | .enu,_=>false
 | .itm,_=>false
 | .zipG,_=>false
 | _,_=>true
noncomputable def dQ (scope sc:OS):OS :=
 { scope with names:=scope.names.map fun (n,k)=>if (k==.free&&sc.kind==.function&&sc.names.lookup n==some .cell) then (n,.cell) else (n,k) }
noncomputable def nmE:NY->Option Str
 | .Name y _=>some y
 | _=>none
noncomputable def Ft:NY->List NY
 | .Tuple xs _ _=>xs
 | _=>[]
noncomputable def rf (sc:OS) (tg:List Str) (te:NY):Bool:=((tg.map some==[nmE te])||(Nat.ble 2 tg.length&&tg.map some==(Ft te).map nmE))&&tg.all fun x=>sc.names.lookup x==some .local
noncomputable def jx:List Str->Bool
 | []=>true
 | x :: r=>!r.contains x&&jx r
noncomputable def jy (sc:OS) (N:List Str) (tg:List Str) (fv:List (Nat×Str)) (scope:OS):Bool :=
 scope.kind==.function&&sc.kind==.function&&scope.names.all (fun y=>!(y.2==.cell))&&scope.names.all (fun y=>!(y.2==.local)||scope.names.lookup y.1==some .local) &&
 scope.names.all (fun y=>!(y.2==.free)||sc.names.lookup y.1==some .cell) &&
 fv.all (fun q=>N[q.1]?==some q.2&&scope.names.contains (q.2,.free)&&sc.names.lookup q.2==some .cell&&(dQ scope sc).names.lookup q.2==some .cell)&&jx (tg++fv.map (·.2))
inductive Tq where
 | e (a:BT.E) (x:NY) | es (as:BT.Es) (xs:List NY) | o (as:BT.Es) (x:Option NY) | c (as:BT.Es) (xs:List NY) | i (sr:BT.Sr) (sa:BT.Es) (x:NY)
set_option autoImplicit true in
class inductive CQ:OS->List Str->Tq->Prop where
 | var (h1:N[i]?=some x) (h2:q9 sc x=true) (h3:fu x=true):CQ sc N (.e (.var i) (.Name x p))
 | cst (h:DR d c=true):CQ sc N (.e (.cst d) (.Constant c k p))
 | glo (h2:dR sc x=true) (h3:fu x=true):CQ sc N (.e (.glo x) (.Name x p))
 | bin (h:DQ o op=true) (ha:CQ sc N (.e a l)) (hb:CQ sc N (.e b r)):CQ sc N (.e (.bin o a b) (.BinOp l op r p))
 | neg (ha:CQ sc N (.e a x)):CQ sc N (.e (.neg a) (.UnaryOp .USub x p))
 | not (ha:CQ sc N (.e a x)):CQ sc N (.e (.not a) (.UnaryOp .Not x p))
 | and2 (ha:CQ sc N (.e a x)) (hb:CQ sc N (.e b y)):CQ sc N (.e (.and a b) (.BoolOp .And [x,y] p))
 | and3 (ha:CQ sc N (.e a x)) (hb:CQ sc N (.e b (.BoolOp .And (y :: z :: r) p))):CQ sc N (.e (.and a b) (.BoolOp .And (x :: y :: z :: r) p))
 | or2 (ha:CQ sc N (.e a x)) (hb:CQ sc N (.e b y)):CQ sc N (.e (.or a b) (.BoolOp .Or [x,y] p))
 | or3 (ha:CQ sc N (.e a x)) (hb:CQ sc N (.e b (.BoolOp .Or (y :: z :: r) p))):CQ sc N (.e (.or a b) (.BoolOp .Or (x :: y :: z :: r) p))
 | cmp (h:Bx o op=true) (ha:CQ sc N (.e a l)) (hb:CQ sc N (.e b r)) (hm:Ss op r=false):CQ sc N (.e (.cmp o a b) (.Compare l [op] [r] p))
 | chain (h:Bx o op=true) (h':Bx o' op'=true) (ha:CQ sc N (.e a l)) (hb:CQ sc N (.e b r)) (hc:CQ sc N (.e c r')) (hm:lastMarks [op,op'] [r,r']=false):CQ sc N (.e (.chain o o' a b c) (.Compare l [op,op'] [r,r'] p))
 | ite (h:tOK c=true) (hc:CQ sc N (.e c t)) (ha:CQ sc N (.e a x)) (hb:CQ sc N (.e b y)):CQ sc N (.e (.ite c a b) (.IfExp t x y p))
 | tup (h:CQ sc N (.es as es)):CQ sc N (.e (.tup as) (.Tuple es k p))
 | lst (h:CQ sc N (.es as es)):CQ sc N (.e (.lst mu as) (.List es p))
 | idx (ha:CQ sc N (.e a x)) (hi:CQ sc N (.e i sl)) (hs:lH sl=true):CQ sc N (.e (.idx a i) (.Subscript x sl p))
 | slc {lo:BT.Es} (ha:CQ sc N (.e a x)) (hl:CQ sc N (.o lo l)) (hu:CQ sc N (.o hi u)):CQ sc N (.e (.slc a lo hi) (.Subscript x (.Slice l u none p2) p))
 | call (hg:dR sc f=true) (hn:fu f=true) (ha:CQ sc N (.es as es)):CQ sc N (.e (.call f as) (.Call (.Name f np) es [] p))
 | bi (hu:gm N=true) (hb:DS b mu x=true) (hg:dR sc x=true) (hs:noStar e=true) (ha:CQ sc N (.e a e)):CQ sc N (.e (.bi b mu (.cons a .nil)) (.Call (.Name x np) [e] [] p))
 | inst (hb:q8 b=some (c,f)) (hg:dR sc "isinstance"=true) (hg2:dR sc (NR c)=true) (hs:noStar e=true) (ha:CQ sc N (.e a e)) :
  CQ sc N (.e (.bi b false (.cons a .nil)) (.Call (.Name "isinstance" np) [e,.Name (NR c) p2] [] p))
 | me (h1:Fq m o=true) (h2:name=yO m) (h3:dh oe=true) (h6:(apos.endLine==cpos.line)=true) (h7:es.length < 20) (ho:CQ sc N (.e o oe)) (ha:CQ sc N (.es as es)) :
  CQ sc N (.e (.me m o as) (.Call (.Attribute oe name apos) es [] cpos))
 | comp {cond:BT.Es}
  (hu:gm N=true) (hk:jy sc N tg fv scope=true) (ht:rf (dQ scope sc) tg te=true) (hz:oA sr te=true) (hs:jw iter=true) (hi:CQ sc N (.i sr sa iter))
  (hc:CQ (dQ scope sc) (tg++fv.map (·.2)) (.c cond ifs)) (he:CQ (dQ scope sc) (tg++fv.map (·.2)) (.e elt elt')):CQ sc N (.e (.comp mu sr sa tg fv cond elt) (.ListComp elt' [⟨te,iter,ifs,0⟩] scope pos))
 | fld (hb:dh x=true) (hf:attrName f=true) (ha:CQ sc N (.e a x)):CQ sc N (.e (.fld a f) (.Attribute x f p))
 | meth (h3:dh oe=true) (h6:(apos.endLine==cpos.line)=true) (h7:es.length < 20) (ho:CQ sc N (.e o oe)) (ha:CQ sc N (.es as es)) :
  CQ sc N (.e (.meth o m as) (.Call (.Attribute oe m apos) es [] cpos))
 | stp (hk:pJ k se=true) (ha:CQ sc N (.e a x)):CQ sc N (.e (.stp mu k a) (.Subscript x (.Slice none none (some se) p2) p))
 | bi2 (hu:gm N=true) (hb:yN b x=true) (hg:dR sc x=true) (hs1:noStar e1=true) (hs2:noStar e2=true) (h1:CQ sc N (.e a1 e1)) (h2:CQ sc N (.e a2 e2)) :
  CQ sc N (.e (.bi b false (.cons a1 (.cons a2 .nil))) (.Call (.Name x np) [e1,e2] [] p))
 | make (hg:dR sc c=true) (hn:fu c=true) (ha:CQ sc N (.es as es)):CQ sc N (.e (.make c as) (.Call (.Name c np) es [] p))
 | rvs (ha:CQ sc N (.e a x)):CQ sc N (.e (.rvs a) (.Subscript x (.Slice none none (some (.UnaryOp .USub (.Constant (.int 1) c p1) p3)) p2) p))
 | xjoin (h3:dh oe=true) (h6:(apos.endLine==cpos.line)=true) (hs:noStar e=true) (ho:CQ sc N (.e o oe)) (ha:CQ sc N (.e a e)):CQ sc N (.e (.tx .join (.cons o (.cons a .nil))) (.Call (.Attribute oe "join" apos) [e] [] cpos))
 | xsplit (h3:dh oe=true) (h6:(apos.endLine==cpos.line)=true) (hs:noStar e=true) (ho:CQ sc N (.e o oe)) (ha:CQ sc N (.e a e)):CQ sc N (.e (.tx .split (.cons o (.cons a .nil))) (.Call (.Attribute oe "split" apos) [e] [] cpos))
 | xget1 (h3:dh oe=true) (h6:(apos.endLine==cpos.line)=true) (hs:noStar e=true) (ho:CQ sc N (.e o oe)) (ha:CQ sc N (.e a e)):CQ sc N (.e (.tx .dget (.cons o (.cons a .nil))) (.Call (.Attribute oe "get" apos) [e] [] cpos))
 | xget2 (h3:dh oe=true) (h6:(apos.endLine==cpos.line)=true) (hs:noStar e=true) (hs2:noStar e2=true) (ho:CQ sc N (.e o oe)) (ha:CQ sc N (.e a e)) (hb:CQ sc N (.e b e2)):CQ sc N (.e (.tx .dget (.cons o (.cons a (.cons b .nil)))) (.Call (.Attribute oe "get" apos) [e,e2] [] cpos))
 | xstr (hg:dR sc "str"=true) (hs:noStar e=true) (ha:CQ sc N (.e a e)):CQ sc N (.e (.tx .str (.cons a .nil)) (.Call (.Name "str" np) [e] [] p))
 | xint (hg:dR sc "int"=true) (hs:noStar e=true) (ha:CQ sc N (.e a e)):CQ sc N (.e (.tx .intS (.cons a .nil)) (.Call (.Name "int" np) [e] [] p))
 | xall (hu:gm N=true) (hg:dR sc "all"=true) (hs:noStar e=true) (ha:CQ sc N (.e a e)):CQ sc N (.e (.tx .all (.cons a .nil)) (.Call (.Name "all" np) [e] [] p))
 | xin (ha:CQ sc N (.e a l)) (hb:CQ sc N (.e b r)) (hm:Ss .In r=false):CQ sc N (.e (.tx .inS (.cons a (.cons b .nil))) (.Compare l [.In] [r] p))
 | xpre (ha:CQ sc N (.e a x)) (hb:CQ sc N (.e b y)):CQ sc N (.e (.tx .pre (.cons a (.cons b .nil))) (.Subscript x (.Slice none (some y) none p2) p))
 | es_nil:CQ sc N (.es .nil [])
 | es_cons (hs:noStar e=true) (ha:CQ sc N (.e a e)) (hr:CQ sc N (.es as es)):CQ sc N (.es (.cons a as) (e :: es))
 | o_nil:CQ sc N (.o .nil none)
 | o_one (ha:CQ sc N (.e a e)):CQ sc N (.o (.cons a .nil) (some e))
 | c_nil:CQ sc N (.c .nil [])
 | c_one (ht:tOK a=true) (ha:CQ sc N (.e a e)):CQ sc N (.c (.cons a .nil) [e])
 | rng1 (hg:dR sc "range"=true) (hs:noStar e=true) (h:CQ sc N (.e a e)):CQ sc N (.i .rng1 (.cons a .nil) (.Call (.Name "range" p) [e] [] pos))
 | rng3 (hg:dR sc "range"=true) (hs:noStar x=true) (hs2:noStar y=true) (hs3:noStar z=true) (ha:CQ sc N (.e a x)) (hb:CQ sc N (.e b y)) (hc:CQ sc N (.e c z)):CQ sc N (.i .rng3 (.cons a (.cons b (.cons c .nil))) (.Call (.Name "range" p) [x,y,z] [] pos))
 | rev (hg:dR sc "reversed"=true) (hs:noStar e=true) (h:CQ sc N (.e a e)):CQ sc N (.i .rev (.cons a .nil) (.Call (.Name "reversed" p) [e] [] pos))
 | chs (h:CQ sc N (.e a x)):CQ sc N (.i .chs (.cons a .nil) x)
 | zipG (hg:dR sc "zip"=true) (hs:noStar x=true) (hs2:noStar y=true) (ha:CQ sc N (.e a x)) (hb:CQ sc N (.e b y)):CQ sc N (.i .zipG (.cons a (.cons b .nil)) (.Call (.Name "zip" p) [x,y] [] pos))
 | seq (h:CQ sc N (.e a x)):CQ sc N (.i .seq (.cons a .nil) x)
noncomputable abbrev CE' (sc:OS) (N:List Str) (a:BT.E) (x:NY):Prop:=CQ sc N (.e a x)
noncomputable abbrev CEs (sc:OS) (N:List Str) (as:BT.Es) (xs:List NY):Prop:=CQ sc N (.es as xs)
noncomputable abbrev CC (sc:OS) (N:List Str) (as:BT.Es) (xs:List NY):Prop:=CQ sc N (.c as xs)
noncomputable abbrev CI (sc:OS) (N:List Str) (sr:BT.Sr) (sa:BT.Es) (x:NY):Prop:=CQ sc N (.i sr sa x)
inductive LPa:RO->List Str->Prop where
 | one {p:Pos}:LPa ⟨[],[⟨"state",none,p⟩],none,[],[],none,[]⟩ ["state"]
 | two {p q:Pos}:LPa ⟨[],[⟨"row",none,p⟩,⟨"state",none,q⟩],none,[],[],none,[]⟩ ["row","state"]
noncomputable def rg (ps fs:List Str) (sc:OS):Bool :=
 sc.kind==.function&&!sc.isCoroutine&&!sc.isGenerator&&sc.names.all (fun y=>!(y.2==.cell))&&ps.all (fun x=>sc.names.lookup x==some .local) &&
 fs.all (fun x=>sc.names.lookup x==some .free&&sc.names.contains (x,.free))&&sc.names.all (fun y=>!(y.2==.free)||fs.contains y.1)&&jx (ps++fs)
noncomputable def Jx (sc:OS) (N:List Str) (fv:List (Nat×Str)):Bool:=fv.all fun q=>N[q.1]?==some q.2&&sc.names.lookup q.2==some .cell
inductive CL (sc:OS) (N:List Str):BT.E->Str->BT.Es->Nat->List (Nat×Str)->NY->Prop where
 | zero {o bt:BT.E}{m:Str}{L:Nat}{fv:List (Nat×Str)}{oe be:NY}{apos cpos lp:Pos}{pa:RO}{scope:OS}{ns ps:List Str} (hl:BT.tE L=some ⟨ns,ns,.ret bt⟩) (hp:LPa pa ps) (hn:ns=ps++fv.map (·.2)) (hk:rg ps (fv.map (·.2)) scope=true) (hv:Jx sc N fv=true)
  (ht:N.contains (BT.f6 (BT.DP L))=true) (hc:CE' scope ns bt be) (h3:dh oe=true) (h6:(apos.endLine==cpos.line)=true) (ho:CE' sc N o oe):CL sc N o m .nil L fv (.Call (.Attribute oe m apos) [.Lambda pa be scope lp] [] cpos)
 | one {o bt a:BT.E}{m:Str}{L:Nat}{fv:List (Nat×Str)}{oe be e:NY}{apos cpos lp:Pos}{pa:RO}{scope:OS}{ns ps:List Str} (hl:BT.tE L=some ⟨ns,ns,.ret bt⟩) (hp:LPa pa ps) (hn:ns=ps++fv.map (·.2)) (hk:rg ps (fv.map (·.2)) scope=true) (hv:Jx sc N fv=true)
  (ht:N.contains (BT.f6 (BT.DP L))=true) (hc:CE' scope ns bt be) (h3:dh oe=true) (h6:(apos.endLine==cpos.line)=true) (ho:CE' sc N o oe) (hs:noStar e=true) (ha:CE' sc N a e):CL sc N o m (.cons a .nil) L fv (.Call (.Attribute oe m apos) [e,.Lambda pa be scope lp] [] cpos)
noncomputable def KT (K:NO) (a:N2) (xs:List V):Prop :=
 ∃ (o:Obj) (its:Array NS) (n:Nat),(K.lookup a=some o/\o.cls=.type "tuple"/\o.data=.seq its n/\its.size<=sizeLine/\cX xs its.toList)/\o.dict=none
noncomputable def KL (K:NO) (a:N2) (xs:List V):Prop:=∃ (its:List NS) (n:Nat),K.lookup a=some { cls:=.type "list",data:=.seq its.toArray n }/\its.length<=sizeLine/\cX xs its
noncomputable def LL (K:NO) (H:Hp) (a:N2) (xs:List V):Prop:=Rd H a (.lst xs)\/KL K a xs
theorem LL.sq {K:NO} (h:LL K H a xs):SqL K H a xs:=by
 rcases h with h | ⟨its,n,h1,h2,h3⟩
 ·exact .inl h
 ·exact .inr ⟨_,its.toArray,n,h1,rfl,rfl,rfl,by simpa using h2,by simpa using h3⟩
noncomputable def KD (P:Oc) (w:Oo) (K:NO) (a:N2) (es:List (Str×V)):Prop :=
 (a==P1)=false/\∃ vs:List (Key×NS),KV (es.map fun q=>(Sum.inr q.1,q.2)) vs/\∀ h:Heap,K.In h->h.DictOf (c8 P w) a vs
mutual
inductive RD (K:NO) (m:List N2) (H:Hp):V->BT.D->Prop where
 | non:RD K m H .non .non
 | bl (b:Bool):RD K m H (.bl b) (.bl b)
 | int (i:Int):RD K m H (.int i) (.int i)
 | str (x:Str) (h:PyData.strOk x=true):RD K m H (.str x) (.str x)
 | tup {a:N2}{vs:List V}{ds:List BT.D} (h:(Rd H a (.tup vs)/\a∉m)\/KT K a vs) (r:RDs K m H vs ds):RD K m H (.ref a) (.tup ds)
 | lst {a:N2}{vs:List V}{ds:List BT.D} (h:(Rd H a (.lst vs)/\a∉m)\/KL K a vs) (r:RDs K m H vs ds):RD K m H (.ref a) (.lst ds)
inductive RDs (K:NO) (m:List N2) (H:Hp):List V->List BT.D->Prop where
 | nil:RDs K m H [] []
 | cons {v:V}{d:BT.D}{vs:List V}{ds:List BT.D} (r:RD K m H v d) (t:RDs K m H vs ds):RDs K m H (v :: vs) (d :: ds)
end
inductive RDk (K:NO):List (Str×V)->List (Str×BT.D)->Prop where
 | nil:RDk K [] []
 | cons {x:Str}{v:V}{d:BT.D}{es:List (Str×V)}{kvs:List (Str×BT.D)} (r:∀ m H,RD K m H v d) (t:RDk K es kvs):RDk K ((x,v) :: es) ((x,d) :: kvs)
inductive RA (K:NO) (m:List N2) (H:Hp):V->BT.W->Prop where
 | p {v:V}{d:BT.D} (r:RD K m H v d):RA K m H v (.p d)
 | r {a:N2}{n:Nat} (h:m[n]?=some a):RA K m H (.ref a) (.r n)
 | o {a:N2}{n:Nat} (h:m[n]?=some a):RA K m H (.ref a) (.o n)
noncomputable def Tr (m:List N2) (H:Hp) (a:N2) (o:Obj):Prop:=H a=some (.frz o (.own 0))/\a∉m
noncomputable def MC (x:Str):Str:=x++".<locals>."++"<lambda>"
inductive iN (m:List N2) (H:Hp) (cl:List (Str×N2)):List Str->List V->Prop where
 | nil:iN m H cl [] []
 | cons {x:Str}{c:N2}{o:Obj}{u:NS}{v:V}{xs:List Str}{vs:List V} (h1:cl.lookup x=some c) (h2:Tr m H c o) (h3:o.data=.cell (some u)) (r:RelV v u) (t:iN m H cl xs vs):iN m H cl (x :: xs) (v :: vs)
inductive jN (m:List N2) (H:Hp) (f:N2) (L:Nat) (vs:List V):Prop where
 | mk (bt:_) (ps:_) (fs:_) (pa:_) (be:_) (sc:_) (cl:_) (pm:_) (ctv:_) (c':_) (oc:_) (os:_) (t:_) (q:_) (h1:BT.tE L=some ⟨ps++fs,ps++fs,.ret bt⟩) (h2:LPa pa ps) (h3:rg ps fs sc=true) (h4:CE' sc (ps++fs) bt be) (h5:(∀ x y c,cl.lookup x=some c->cl.lookup y=some c->x=y)) (h6:(∀ x c,cl.lookup x=some c->x∈fs)) (h7:Tr m H f (UI "<lambda>" q pa be sc cl pm c' ctv)) (h8:Tr m H c' oc) (h9:oc.data=.fields os) (h10:os[1]?=some (.str q t)) (h11:iN m H cl fs vs):jN m H f L vs
inductive RCs (K:NO) (m:List N2) (H:Hp):List V->List BT.Cp->Prop where
 | nil:RCs K m H [] []
 | cons {v:V}{x:BT.Cp}{vs:List V}{xs:List BT.Cp} (r:RA K m H v x.w) (t:RCs K m H vs xs):RCs K m H (v :: vs) (x :: xs)
noncomputable def TB (K:NO) (H:Hp):Prop:=∀ x∈BT.gk,∀ c P,Pe K x=some (c,P)->∃ ps,H P=some (.tbl ps)/\TriplesOk ps.toList ∧
 ∀ pos v,codeAmong pos ps.toList=some v->∃ c' oc os t,v=.ref c'/\H c'=some (.frz oc (.own 0))/\oc.data=.fields os/\os[1]?=some (.str (MC x) t)
theorem TB.mono {K:NO} (h:TB K H) (h1:∀ P ps,H P=some (.tbl ps)->H' P=some (.tbl ps)) (h2:∀ a o vs,o.data=.fields vs->H a=some (.frz o (.own 0))->H' a=some (.frz o (.own 0))):TB K H':=fun x hx c P e=>by
 obtain ⟨ps,e1,e2,e3⟩:=h x hx c P e
 refine ⟨ps,h1 _ _ e1,e2,fun pos v q=>?_⟩
 obtain ⟨c',oc,os,t,q1,q2,q3⟩:=e3 pos v q
 exact ⟨c',oc,os,t,q1,h2 _ _ _ q3.1 q2,q3⟩
noncomputable def CN (K:NO) (c:Str) (C:N2):Prop:=Oz K Ob c=some (some (.ref C))
structure XT (K:NO) (c:Str) (C:N2):Prop where
 ga:Oq K (.ref C) "__getattribute__"=some (some (.builtin "BaseException.__getattribute__"))
 nga:Oq K (.ref C) "__getattr__"=some none
 mrb:Rz K C (.type "BaseException")=some true
 dct:PM K C=true
 fnd:Oq K (.ref C) "__class__"=some (some (.builtin "object.__class__"))
 spc:Uj K (.builtin "object.__class__") "__get__"=some (some (.builtin "getset_descriptor.__get__"))
 tak:UH K (.builtin "object.__class__")=some true
 mro:Rz K C (.type "object")=some true
 own:∀ cn,DT cn=true->∃ D,CN K cn D/\Pf K (.ref C) (.ref D)=some (BT.Fe c cn)
 val:Pf K (.ref C) (.type "ValueError")=some true
noncomputable def excAt (K:NO) (c:Str) (a:N2):Heap->Prop:=fun h=>∃ o C,CN K c C/\XT K c C/\h.get? a=some o/\o.cls=.ref C
inductive RKs (K:NO) (m:List N2) (H:Hp):List (Key×V)->List (BT.Ky×BT.D)->Prop where
 | nil:RKs K m H [] []
 | cons {k:Key}{v:V}{d:BT.D}{vs:List (Key×V)}{kvs:List (BT.Ky×BT.D)} (hk:RD K m H (kV k) (BT.EU k)) (r:RD K m H v d) (t:RKs K m H vs kvs):RKs K m H ((k,v) :: vs) ((k,d) :: kvs)
inductive RW (P:Oc) (w:Oo) (K:NO) (m:List N2) (H:Hp):V->BT.W->Prop where
 | p {v:V}{d:BT.D} (r:RD K m H v d):RW P w K m H v (.p d)
 | r {a:N2}{n:Nat} (h:m[n]?=some a):RW P w K m H (.ref a) (.r n)
 | k {a:N2}{es:List (Str×V)}{kvs:List (Str×BT.D)} (h:KD P w K a es) (r:RDk K es kvs):RW P w K m H (.ref a) (.k (.t kvs))
 | kl {a:N2}{o:Obj}{vs:List (Key×V)}{kvs:List (BT.Ky×BT.D)} (h:H a=some (.frz o (.dK vs))/\a∉m) (r:RKs K m H vs kvs):RW P w K m H (.ref a) (.k (.l kvs))
 | o {a:N2}{n:Nat} (h:m[n]?=some a):RW P w K m H (.ref a) (.o n)
 | c {f:N2}{L:Nat}{vs:List V}{cs:List BT.Cp} (h:jN m H f L vs) (r:RCs K m H vs cs):RW P w K m H (.ref f) (.c (.l L) cs)
 | x {a:N2}{c:Str} (h:H a=some (.ext (excAt K c a))) (n:a∉m) (xt:∃ C,XT K c C):RW P w K m H (.ref a) (.x c)
 | g {f:N2}{x:Str} (h:Oz K Ob x=some (some (.ref f))) (r:OZ K (.ref f)=true):RW P w K m H (.ref f) (.c (.f x) [])
inductive RFs (K:NO) (m:List N2) (H:Hp):List (Str×V)->List (Str×BT.W)->Prop where
 | nil:RFs K m H [] []
 | cons {f:Str}{v:V}{x:BT.W}{vs:List (Str×V)}{fs:List (Str×BT.W)} (r:RA K m H v x) (t:RFs K m H vs fs):RFs K m H ((f,v) :: vs) ((f,x) :: fs)
theorem CN.inj {K:NO} (h:CN K c C) (h':CN K c C'):C=C':=by
 have e:=h.symm.trans h'
 simpa using e
structure oB (K:NO) (c:Str) (C:N2):Prop where
 cn:CN K c C
 cls:Cls K C
 no:∀ f,attrName f=true->iJ K C f
noncomputable def iO (K:NO) (m:List N2) (H:Hp) (a:N2):BT.Cl->Prop
 | .l xs=>∃ vs,H a=some (.lst vs)/\RDs K m H vs xs
 | .o c fs=>∃ C dx vs,H a=some (.ins C dx vs)/\oB K c C/\RFs K m H vs fs
 | .d kvs=>∃ vs,H a=some (.dK vs)/\RKs K m H vs kvs
 | .z=>∃ ob vs,H a=some (.frz ob (.dK vs))
inductive RWs (P:Oc) (w:Oo) (K:NO) (m:List N2) (H:Hp):List V->List BT.W->Prop where
 | nil:RWs P w K m H [] []
 | cons {v:V}{x:BT.W}{vs:List V}{xs:List BT.W} (r:RW P w K m H v x) (t:RWs P w K m H vs xs):RWs P w K m H (v :: vs) (x :: xs)
structure RH (K:NO) (m:List N2) (H:Hp) (h:BT.HH):Prop where
 nd:m.Nodup
 len:m.length=h.length
 cl:∀ (i:Nat) (a:N2) (c:BT.Cl),m[i]?=some a->h[i]?=some c->iO K m H a c
 tb:TB K H
theorem yP (e:BT.lat h n=some xs):h[n]?=some (.l xs):=by
 unfold BT.lat at e
 cases g:h[n]? with
 | none=>rw[g] at e;exact cR e
 | some c=>rw[g] at e;cases c<;>simp[BT.qR] at e;rw[e]
theorem yQ (e:BT.oat h n=some (c,fs)):h[n]?=some (.o c fs):=by
 unfold BT.oat at e
 cases g:h[n]? with
 | none=>rw[g] at e;exact cR e
 | some c=>rw[g] at e;cases c<;>simp[BT.qS] at e;rw[e.1,e.2]
theorem RH.cell {K:NO} (R:RH K m H h) (i:Nat) (a:N2) (xs:List BT.D) (e:m[i]?=some a) (g:BT.lat h i=some xs):∃ vs,H a=some (.lst vs)/\RDs K m H vs xs:=R.cl i a _ e (yP g)
inductive OC (K:NO) (m:List N2) (H:Hp) (a:N2) (c:Str) (fs:List (Str×BT.W)):Prop where
 | mk (C:N2) (dx:_) (vs:_) (h1:H a=some (.ins C dx vs)) (h2:oB K c C) (h3:RFs K m H vs fs):OC K m H a c fs
theorem RH.rj {K:NO} (R:RH K m H h) (i:Nat) (a:N2) (c:Str) (fs:List (Str×BT.W)) (e:m[i]?=some a) (g:BT.oat h i=some (c,fs)):OC K m H a c fs:=by
 obtain ⟨C,dx,vs,h1,h2,h3⟩:=R.cl i a _ e (yQ g)
 exact ⟨C,dx,vs,h1,h2,h3⟩
structure RS (P:Oc) (w:Oo) (K:NO) (m:List N2) (H:Hp) (σ:L2.St) (s:BT.Sl):Prop where
 len:σ.length=s.length
 get:∀ (i:Nat) (x:BT.W),s[i]?=some (some x)->∃ v,σ[i]?=some (some v)/\RW P w K m H v x
noncomputable def DU:HO->Bool
 | .tbl _=>true
 | _=>false
structure Ext (m:List N2) (H:Hp) (m':List N2) (H':Hp):Prop where
 pre:∃ e,m'=m++e/\∀ a∈e,H a=none
 keep:∀ a o,H a=some o->a∉m->DU o=false->H' a=some o
 live:∀ a,H' a=none->H a=none
 frz:∀ a ob vs,H a=some (.frz ob (.dK vs))->H' a=some (.frz ob (.dK vs))
theorem Ext.refl (m:List N2) (H:Hp):Ext m H m H:=⟨⟨[],by simp,by simp⟩,fun _ _ h _ _=>h,fun _ h=>h,fun _ _ _ h=>h⟩
theorem Ext.iP (x:Ext m H m' H') (h:H a=some o) (n:a∉m):a∉m':=by
 obtain ⟨e,rfl,he⟩:=x.pre
 intro q
 rcases List.mem_append.mp q with q | q
 ·exact n q
 ·rw[he a q] at h;exact cR h
theorem Ext.trans (x:Ext m H m1 H1) (y:Ext m1 H1 m2 H2):Ext m H m2 H2:=by
 obtain ⟨e,rfl,he⟩:=x.pre
 obtain ⟨e',rfl,he'⟩:=y.pre
 refine ⟨⟨e++e',by rw[Ot],fun a ha=>?_⟩,fun a o h n t=>y.keep a o (x.keep a o h n t) (x.iP h n) t,fun a h=>x.live a (y.live a h),fun a ob vs h=>y.frz a ob vs (x.frz a ob vs h)⟩
 rcases List.mem_append.mp ha with q | q
 ·exact he a q
 ·exact x.live a (he' a q)
theorem Rd.ext (x:Ext m H m' H') (h:Rd H a u) (n:a∉m) (t:DU u=false:=by rfl):Rd H' a u/\a∉m':=by
 rcases h with h | ⟨o,h⟩
 ·exact ⟨.inl (x.keep _ _ h n t),x.iP h n⟩
 ·exact ⟨.inr ⟨o,x.keep _ _ h n rfl⟩,x.iP h n⟩
theorem Tr.ext (x:Ext m H m' H') (h:Tr m H a o):Tr m' H' a o:=⟨x.keep _ _ h.1 h.2 rfl,x.iP h.1 h.2⟩
theorem iN.ext (x:Ext m H m' H') (r:iN m H cl xs vs):iN m' H' cl xs vs:=by
 induction r with
 | nil=>exact .nil
 | cons h1 h2 h3 r t ih=>exact .cons h1 (h2.ext x) h3 r ih
theorem jN.ext (x:Ext m H m' H') (h:jN m H f L vs):jN m' H' f L vs:=by
 obtain ⟨bt,ps,fs,pa,be,sc,cl,pm,ctv,c',oc,os,t,q,h0,h1,h2,h3,h4,h5,h6,h7,h8,h9,h10⟩:=h
 exact ⟨bt,ps,fs,pa,be,sc,cl,pm,ctv,c',oc,os,t,q,h0,h1,h2,h3,h4,h5,h6.ext x,h7.ext x,h8,h9,h10.ext x⟩
section
variable {K:NO}
mutual
theorem RD.ext (x:Ext m H m' H'):∀ {v:V}{d:BT.D},RD K m H v d->RD K m' H' v d
 | _,_,.non=>.non
 | _,_,.bl b=>.bl b
 | _,_,.int i=>.int i
 | _,_,.str y h=>.str y h
 | _,_,.tup h r=>.tup (h.elim (fun q=>.inl (Rd.ext x q.1 q.2)) .inr) (RDs.ext x r)
 | _,_,.lst h r=>.lst (h.elim (fun q=>.inl (Rd.ext x q.1 q.2)) .inr) (RDs.ext x r)
theorem RDs.ext (x:Ext m H m' H'):∀ {vs:List V}{ds:List BT.D},RDs K m H vs ds->RDs K m' H' vs ds
 | _,_,.nil=>.nil
 | _,_,.cons r t=>.cons (RD.ext x r) (RDs.ext x t)
end
theorem RA.rw (r:RA K m H v d):RW P w K m H v d:=by
 cases r with
 | p r=>exact .p r
 | r h=>exact .r h
 | o h=>exact .o h
theorem RW.ra (r:RW P w K m H v d) (h0:BT.attrOk d=true):RA K m H v d:=by
 cases r with
 | p r=>exact .p r
 | r h=>exact .r h
 | o h=>exact .o h
 | k _ _=>exact BT.dN h0
 | kl _ _=>exact BT.dN h0
 | c _ _=>exact BT.dN h0
 | x _=>exact BT.dN h0
 | g _ _=>exact BT.dN h0
theorem Ext.ix (x:Ext m H m' H') {n:Nat} (h:m[n]?=some a):m'[n]?=some a:=by
 obtain ⟨e,rfl,_⟩:=x.pre
 rw[N6 (by rcases OU _ m.length with q | q;exact q;rw[Og q] at h;exact cR h)]
 exact h
theorem RA.ext (x:Ext m H m' H') (r:RA K m H v d):RA K m' H' v d:=by
 cases r with
 | p r=>exact .p (r.ext x)
 | r h=>exact .r (x.ix h)
 | o h=>exact .o (x.ix h)
theorem RCs.ext (x:Ext m H m' H') (r:RCs K m H vs cs):RCs K m' H' vs cs:=by
 induction r with
 | nil=>exact .nil
 | cons r t ih=>exact .cons (r.ext x) ih
theorem RKs.ext (x:Ext m H m' H') (r:RKs K m H vs kvs):RKs K m' H' vs kvs:=by
 induction r with
 | nil=>exact .nil
 | cons hk r t ih=>exact .cons (hk.ext x) (r.ext x) ih
theorem RW.ext (x:Ext m H m' H') (r:RW P w K m H v d):RW P w K m' H' v d:=by
 cases r with
 | p r=>exact .p (r.ext x)
 | r h =>
  obtain ⟨e,rfl,_⟩:=x.pre
  refine .r ?_
  rw[N6 (by rcases OU _ m.length with q | q;exact q;rw[Og q] at h;exact cR h)]
  exact h
 | k h r=>exact .k h r
 | kl h r=>exact .kl ⟨x.keep _ _ h.1 h.2 rfl,x.iP h.1 h.2⟩ (r.ext x)
 | c h r=>exact .c (h.ext x) (r.ext x)
 | g h r=>exact .g h r
 | x h n xt=>exact .x (x.keep _ _ h n rfl) (x.iP h n) xt
 | o h =>
  obtain ⟨e,rfl,_⟩:=x.pre
  refine .o ?_
  rw[N6 (by rcases OU _ m.length with q | q;exact q;rw[Og q] at h;exact cR h)]
  exact h
theorem RFs.ext (x:Ext m H m' H') (r:RFs K m H vs fs):RFs K m' H' vs fs:=by
 induction r with
 | nil=>exact .nil
 | cons r t ih=>exact .cons (r.ext x) ih
theorem iO.ext (x:Ext m H m' H') (e:H' a=H a) (r:iO K m H a c):iO K m' H' a c:=by
 cases c with
 | l xs=>obtain ⟨vs,h1,h2⟩:=r;exact ⟨vs,e.trans h1,h2.ext x⟩
 | o c fs=>obtain ⟨C,dx,vs,h1,h2,h3⟩:=r;exact ⟨C,dx,vs,e.trans h1,h2,h3.ext x⟩
 | d kvs=>obtain ⟨vs,h1,h2⟩:=r;exact ⟨vs,e.trans h1,h2.ext x⟩
 | z=>obtain ⟨ob,vs,h1⟩:=r;exact ⟨ob,vs,e.trans h1⟩
theorem iO.some (r:iO K m H a c):∃ o,H a=some o:=by
 cases c with
 | l xs=>obtain ⟨vs,h1,h2⟩:=r;exact ⟨_,h1⟩
 | o c fs=>obtain ⟨C,dx,vs,h1,h2,h3⟩:=r;exact ⟨_,h1⟩
 | d kvs=>obtain ⟨vs,h1,h2⟩:=r;exact ⟨_,h1⟩
 | z=>obtain ⟨ob,vs,h1⟩:=r;exact ⟨_,h1⟩
theorem RWs.ext (x:Ext m H m' H') (r:RWs P w K m H vs ds):RWs P w K m' H' vs ds:=by
 induction r with
 | nil=>exact .nil
 | cons r t ih=>exact .cons (r.ext x) ih
theorem RS.ext (x:Ext m H m' H') (r:RS P w K m H σ s):RS P w K m' H' σ s :=
 ⟨r.len,fun i y e=>by obtain ⟨v,h,q⟩:=r.get i y e;exact ⟨v,h,q.ext x⟩⟩
theorem RDs.length:∀ {vs:List V}{ds:List BT.D},RDs K m H vs ds->vs.length=ds.length
 | _,_,.nil=>rfl
 | _,_,.cons _ t=>by rw[N7,N7,RDs.length t]
theorem RWs.length:∀ {vs:List V}{ds:List BT.W},RWs P w K m H vs ds->vs.length=ds.length
 | _,_,.nil=>rfl
 | _,_,.cons _ t=>by rw[N7,N7,RWs.length t]
theorem RDs.get:∀ {vs:List V}{ds:List BT.D}{i:Nat}{d:BT.D},RDs K m H vs ds->ds[i]?=some d->∃ v,vs[i]?=some v/\RD K m H v d
 | _,_,_,_,.nil,e=>by simp at e
 | _,_,0,_,.cons r _,e=>by simp at e;subst e;exact ⟨_,rfl,r⟩
 | _,_,i+1,d,.cons _ t,e=>by
  obtain ⟨u,h1,h2⟩:=RDs.get (i:=i) (d:=d) t (by simpa using e)
  exact ⟨u,by simpa using h1,h2⟩
theorem RDs.append:∀ {vs ws:List V}{ds es:List BT.D},RDs K m H vs ds->RDs K m H ws es->RDs K m H (vs++ws) (ds++es)
 | _,_,_,_,.nil,s=>s
 | _,_,_,_,.cons r t,s=>.cons r (RDs.append t s)
theorem RDs.take:∀ {vs:List V}{ds:List BT.D} (n:Nat),RDs K m H vs ds->RDs K m H (vs.take n) (ds.take n)
 | _,_,0,_=>.nil
 | _,_,_+1,.nil=>.nil
 | _,_,n+1,.cons r t=>.cons r (RDs.take n t)
theorem RDs.drop:∀ {vs:List V}{ds:List BT.D} (n:Nat),RDs K m H vs ds->RDs K m H (vs.drop n) (ds.drop n)
 | _,_,0,r=>r
 | _,_,_+1,.nil=>.nil
 | _,_,n+1,.cons _ t=>RDs.drop n t
theorem RDs.set (r:RD K m H v d):∀ {vs:List V}{ds:List BT.D} (i:Nat),RDs K m H vs ds->RDs K m H (vs.set i v) (ds.set i d)
 | _,_,_,.nil=>.nil
 | _,_,0,.cons _ t=>.cons r t
 | _,_,i+1,.cons q t=>.cons q (RDs.set r i t)
theorem RDs.pick (r:RDs K m H vs ds):∀ l:List Nat,RDs K m H (l.filterMap fun i=>vs[i]?) (l.filterMap fun i=>ds[i]?)
 | []=>.nil
 | i :: l=>by
  rw[O1,O1]
  cases g:ds[i]? with
  | none =>
   have:vs[i]?=none:=by
    have h:=r.length
    rw[Td] at g ⊢
    lia
   rw[this]
   exact RDs.pick r l
  | some d =>
   obtain ⟨v,e,q⟩:=r.get g
   rw[e]
   exact .cons q (RDs.pick r l)
theorem RDs.dropLast:∀ {vs:List V}{ds:List BT.D},RDs K m H vs ds->RDs K m H vs.dropLast ds.dropLast
 | _,_,.nil=>.nil
 | _,_,.cons _ .nil=>.nil
 | _,_,.cons r (.cons q t)=>.cons r (RDs.dropLast (.cons q t))
theorem RDs.rep (r:RDs K m H vs ds):∀ k:Nat,RDs K m H (Od k vs).flatten (Od k ds).flatten
 | 0=>.nil
 | k+1=>by
  rw[Pb,Pb,O7,O7]
  exact RDs.append r (RDs.rep r k)
theorem oE {N:List N2} (hN:N.Nodup) {i j:Nat}{x:N2} (a:N[i]?=some x) (b:N[j]?=some x):i=j:=by
 have hi:i < N.length:=by
  rcases OU i N.length with z | z
  ·exact z
  ·rw[Og z] at a;exact cR a
 have hj:j < N.length:=by
  rcases OU j N.length with z | z
  ·exact z
  ·rw[Og z] at b;exact cR b
 rw[N8 hi] at a
 rw[N8 hj] at b
 exact (List.getElem_inj hN).mp ((N4 a).trans (N4 b).symm)
inductive RR (K:NO) (m:List N2) (H:Hp):V->BT.D->Prop where
 | d {v:V}{d:BT.D} (r:RD K m H v d):RR K m H v d
 | l {a:N2}{vs:List V}{ds:List BT.D} (h:H a=some (.lst vs)) (r:RDs K m H vs ds):RR K m H (.ref a) (.lst ds)
theorem dD (RHh:RH K m H h) (r:RW P w K m H v x) (e:BT.rd x h=some d):RR K m H v d:=by
 cases r with
 | p r=>cases e;exact .d r
 | @r a n q =>
  simp only[BT.rd] at e
  cases g:BT.lat h n with
  | none=>rw[g] at e;exact cR e
  | some xs =>
   rw[g] at e
   cases e
   obtain ⟨vs,h1,h2⟩:=RHh.cell n a xs q g
   exact .l h1 h2
 | k _ _=>exact cR e
 | kl _ _=>exact cR e
 | o _=>exact cR e
 | c _ _=>exact cR e
 | x _=>exact cR e
 | g _ _=>exact cR e
inductive RLs (K:NO) (m:List N2) (H:Hp) (v:V) (ds:List BT.D):Prop where
 | mk (a:N2) (vs:List V) (e:v=.ref a) (l:LL K H a vs) (r:RDs K m H vs ds):RLs K m H v ds
inductive RTs (K:NO) (m:List N2) (H:Hp) (v:V) (ds:List BT.D):Prop where
 | mk (a:N2) (vs:List V) (e:v=.ref a) (l:SqT K H a vs) (r:RDs K m H vs ds):RTs K m H v ds
theorem RR.lst {v:V}{ds:List BT.D} (r:RR K m H v (.lst ds)):RLs K m H v ds:=by
 cases r with
 | d r=>cases r with | lst h r=>exact ⟨_,_,rfl,h.elim (fun q=>.inl q.1) .inr,r⟩
 | l h r=>exact ⟨_,_,rfl,.inl (.inl h),r⟩
theorem RR.tup {v:V}{ds:List BT.D} (r:RR K m H v (.tup ds)):RTs K m H v ds:=by
 cases r with
 | d r=>cases r with | tup h r=>exact ⟨_,_,rfl,h.elim (fun q=>.inl q.1) (fun ⟨o,its,n,q,_⟩=>.inr ⟨o,its,n,q⟩),r⟩
theorem RR.int {v:V}{i:Int} (r:RR K m H v (.int i)):v=.int i:=by
 cases r with | d r=>cases r;rfl
theorem RR.str {v:V}{x:Str} (r:RR K m H v (.str x)):v=.str x/\PyData.strOk x=true:=by
 cases r with | d r=>cases r with | str _ h=>exact ⟨rfl,h⟩
theorem RR.bl {v:V}{b:Bool} (r:RR K m H v (.bl b)):v=.bl b:=by
 cases r with | d r=>cases r;rfl
theorem RR.non (r:RR K m H v .non):v=.non:=by
 cases r with | d r=>cases r;rfl
theorem TB.new (hp:H p=none) {K:NO} (h:TB K H):TB K (upd H p o) :=
 h.mono (fun P ps e=>by rw[c5 (dz e hp)];exact e) fun a o _ _ e=>by rw[c5 (dz e hp)];exact e
theorem gW (hp:H p=none):Ext m H m (upd H p o) :=
 ⟨⟨[],by simp,by simp⟩,fun a q h _ _=>by rw[c5 (dz h hp)];exact h,fun a h=>by
  by_cases e:a=p
  ·rw[e];exact hp
  ·rw[c5 e] at h;exact h,fun a ob vs h=>by rw[c5 (dz h hp)];exact h⟩
theorem RH.iP (R:RH K m H h) (hp:H p=none):p∉m:=by
 intro q
 obtain ⟨i,hi⟩:=Pk q
 have hl:i < h.length:=by
  rw[← R.len]
  rcases OU i m.length with z | z
  ·exact z
  ·rw[Og z] at hi;exact cR hi
 obtain ⟨o,e⟩:=(R.cl i p h[i] hi (N8 hl)).some
 rw[e] at hp;cases hp
noncomputable def Le (H H':Hp):Prop:=∀ a u,H a=some u->H' a=some u
theorem Le.tb (q:Le H H') {K:NO} (t:TB K H):TB K H':=t.mono (fun _ _ e=>q _ _ e) fun _ _ _ _ e=>q _ _ e
theorem yR (hp:H p=none):Le H (upd H p o):=fun a u e=>by rw[c5 (dz e hp)];exact e
theorem RH.ext (R:RH K m H h) (x:Ext m H m H') (k:Le H H'):RH K m H' h :=
 ⟨R.nd,R.len,fun i a c e1 e2=>by
  obtain ⟨o,e⟩:=(R.cl i a c e1 e2).some
  exact (R.cl i a c e1 e2).ext x (by rw[e];exact k _ _ e),k.tb R.tb⟩
noncomputable def Jy:HO->Bool
 | .lst _=>true
 | .ins _ _ _=>true
 | .dK _=>true
 | _=>false
noncomputable def Fv:HO->Bool
 | .frz _ (.dK _)=>true
 | .lst _=>true
 | .ins _ _ _=>true
 | .dK _=>true
 | _=>false
theorem RH.mu (R:RH K m H h) (ha:a∈m):∃ o,H a=some o/\Fv o=true:=by
 obtain ⟨i,hi⟩:=Pk ha
 have hl:i < h.length:=by
  rw[← R.len]
  rcases OU i m.length with z | z
  ·exact z
  ·rw[Og z] at hi;exact cR hi
 have z:=R.cl i a h[i] hi (N8 hl)
 cases g:h[i] with
 | l xs=>rw[g] at z;obtain ⟨vs,h1,h2⟩:=z;exact ⟨_,h1,rfl⟩
 | o c fs=>rw[g] at z;obtain ⟨C,dx,vs,h1,h2,h3⟩:=z;exact ⟨_,h1,rfl⟩
 | d kvs=>rw[g] at z;obtain ⟨vs,h1,h2⟩:=z;exact ⟨_,h1,rfl⟩
 | z=>rw[g] at z;obtain ⟨ob,vs,h1⟩:=z;exact ⟨_,h1,rfl⟩
theorem RH.new (R:RH K m H h) (hp:H p=none):RH K m (upd H p o) h :=
 R.ext (gW hp) (yR hp)
theorem jO (hp:H p=none):Ext m H (m++[p]) (upd H p o) :=
 ⟨⟨[p],rfl,by simpa using hp⟩,fun a q h _ _=>by rw[c5 (dz h hp)];exact h,fun a h=>by
  by_cases e:a=p
  ·rw[e];exact hp
  ·rw[c5 e] at h;exact h,fun a ob vs h=>by rw[c5 (dz h hp)];exact h⟩
theorem RH.Jz (R:RH K m H h) (hp:H p=none) (r:iO K (m++[p]) (upd H p o) p c):RH K (m++[p]) (upd H p o) (h++[c]):=by
 have np:=R.iP hp
 have x:Ext m H (m++[p]) (upd H p o):=jO hp
 refine ⟨List.nodup_append.mpr ⟨R.nd,by simp,fun a ha b hb=>by simp at hb;subst hb;exact fun e=>np (e ▸ ha)⟩,by simp[R.len],fun i a ys e1 e2=>?_,R.tb.new hp⟩
 by_cases c:i < m.length
 ·rw[N6 c] at e1
  rw[N6 (by rw[← R.len];exact c)] at e2
  have ne:a≠p:=by
   intro e
   subst e
   exact np (Oe e1)
  exact (R.cl i a ys e1 e2).ext x (c5 ne)
 ·have e:i=m.length:=by
   rcases OU i (m++[p]).length with z | z
   ·simp at z;lia
   ·rw[Og z] at e1;exact cR e1
  subst e
  simp at e1
  rw[R.len] at e2
  simp at e2
  subst e1 e2
  exact r
theorem RH.MD (R:RH K m H h) (hp:H p=none) (r:RDs K m H vs xs):RH K (m++[p]) (upd H p (.lst vs)) (h++[.l xs]) :=
 R.Jz hp ⟨vs,dS,r.ext (jO hp)⟩
theorem TB.set (hm:∃ u,H a=some u/\Fv u=true) {K:NO} (h:TB K H):TB K (upd H a o):=by
 obtain ⟨w,hw,hu⟩:=hm
 refine h.mono (fun P ps e=>?_) fun b ob _ _ e=>?_
 ·rw[c5 (fun z=>by subst z;rw[hw] at e;cases e;exact BT.dN hu)];exact e
 ·rw[c5 (fun z=>by subst z;rw[hw] at e;cases e;exact BT.dN hu)];exact e
theorem mO {a:N2}{o:HO} (ha:a∈m) (nf:∃ u,H a=some u/\Jy u=true):Ext m H m (upd H a o) :=
 ⟨⟨[],by simp,by simp⟩,fun b u q n _=>by
  have ne:b≠a:=by
   intro e
   subst e
   exact n ha
  rw[c5 ne];exact q,fun b q=>by
  by_cases e:b=a
  ·subst e;rw[dS] at q;cases q
  ·rw[c5 e] at q;exact q,fun b ob vs q=>by
  obtain ⟨u,hu,hm⟩:=nf
  rw[c5 (fun z=>by subst z;rw[hu] at q;cases q;exact BT.dN hm)];exact q⟩
theorem gE (ha:a∈m) (h:H a=some (.lst us)):Ext m H m (upd H a (.lst vs)):=mO ha ⟨_,h,rfl⟩
theorem RH.setC {h:BT.HH} (R:RH K m H h) {n:Nat}{a:N2}{o:HO}{c:BT.Cl} (hn:m[n]?=some a) (nf:∃ u,H a=some u/\Jy u=true) (r:iO K m (upd H a o) a c):RH K m (upd H a o) (h.set n c):=by
 have x:Ext m H m (upd H a o):=mO (Oe hn) nf
 refine ⟨R.nd,by simp[R.len],fun i b ys e1 e2=>?_,R.tb.set (R.mu (Oe hn))⟩
 by_cases c:i=n
 ·subst c
  rw[hn] at e1;cases e1
  have hl:i < h.length:=by
   rw[← R.len]
   rcases OU i m.length with z | z
   ·exact z
   ·rw[Og z] at hn;exact cR hn
  rw[Pd hl] at e2
  cases e2
  exact r
 ·rw[PV (Re c)] at e2
  have ne:b≠a:=by
   intro e
   subst e
   exact c (oE R.nd e1 hn)
  exact (R.cl i b ys e1 e2).ext x (c5 ne)
theorem RH.set (R:RH K m H h) (hn:m[n]?=some a) (hH:H a=some (.lst us)) (r:RDs K m H vs xs):RH K m (upd H a (.lst vs)) (h.set n (.l xs)) :=
 R.setC hn ⟨_,hH,rfl⟩ ⟨vs,dS,r.ext (gE (Oe hn) hH)⟩
end
end BS
end
section
namespace BS
open PySem PySem.Spec PyProof.Rows L2 PySem.SeqAt
theorem ly {E:NS->NT->Prop} (f:Nat->β->Sem (ForInStep β)) (n:Nat) (I:Nat->β->NT->Prop) (Q:β->NT->Prop)
 (turn:∀ i b s,i < n->I i b s->wpAny M A (f i b) (fun r s'=>match r with | .yield b'=>I (i+1) b' s' | .done b'=>Q b' s') E s)
 (fin:∀ b s,I n b s->Q b s) (b:β) (h:I 0 b s):wpAny M A (forIn [:n] b f) Q E s:=by
 rw[Std.Legacy.Range.forIn_eq_forIn_range']
 have e:Uw [:n].start [:n].size [:n].step=Uw 0 (n - 0):=by simp[Std.Legacy.Range.size]
 rw[e]
 refine wpAny_forIn_list f (fun rest b s=>∃ i,i<=n/\rest=Uw i (n - i)/\I i b s) Q (fun x rest b s ⟨i,hi,hr,q⟩=>?_) (fun b s ⟨i,hi,hr,q⟩=>?_) _ b ⟨0,Qs _,rfl,h⟩
 ·have hlt:i < n:=by
   rcases OU i n with z | z
   ·exact z
   ·rw[show n - i=0 by lia] at hr;simp at hr
  rw[show n - i=(n - (i+1))+1 by lia,List.range'_succ] at hr
  injection hr with e1 e2
  subst e1
  refine P0 (turn x b s hlt q) (fun r s' z=>?_) fun _ _ z=>z
  cases r with
  | yield b'=>exact ⟨x+1,hlt,e2,z⟩
  | done b'=>exact z
 ·have:i=n:=by
   rcases OU i n with z | z
   ·rw[show n - i=(n - (i+1))+1 by lia,List.range'_succ] at hr;simp at hr
   ·lia
  subst this
  exact fin b s q
theorem nJ (l:N2) (items:Array NS) (n:Nat) (dd:Option N2) (sl:Array (Option NS)) (x:NS) (e:NS->Bool) (j:Nat) (hj:j < items.size)
 (hit:e items[j]=true) (hno:∀ m (hm:m < items.size),m < j->e items[m]=false) :
 Meets (Builtin.«tuple.index» ⟨[.ref l,x],[]⟩)
  (fun A R s=>s.heap.get? l=some { cls:=.type "tuple",dict:=dd,data:=.seq items n,slots:=sl }/\(∀ y,y∈items->EqAt A.in1 s y x (e y))/\R (.ok (.ret (.int j s.toks))) { s with toks:=s.toks+1 }) :=
 .of_wp fun prog w A R s h=>by
 obtain ⟨hp,g,d,tk,os⟩:=s;obtain ⟨hl,he,h⟩:=h
 wp_walk using Qo hl,ly _ _ (fun i b s'=>i<=j/\b.1=none/\s'=⟨hp,g,d,tk,os⟩) _
 case turn =>
  rintro i b s' hi ⟨hij,hb,rfl⟩
  have hi':i < items.size:=by lia
  rw[SV hi']
  refine NP (he _ (Array.getElem_mem hi') prog w _ _ ?_)
  by_cases c:i=j
  ·subst c
   rw[hit]
   wp_walk
   exact ⟨_,rfl,h⟩
  ·rw[hno i hi' (by lia)]
   wp_walk
   exact ⟨by lia,rfl,rfl⟩
 case fin =>
  rintro b s' ⟨hij,_,_⟩
  lia
 case h=>exact ⟨Qs _,rfl,rfl⟩
theorem tG (l:N2) (items:Array NS) (n:Nat) (dd:Option N2) (sl:Array (Option NS)) (k:Int) (t:Tok) (h1:-1000<=k) (h2:k<=1000) (c1:¬ items.isEmpty=true) (c2:k≠1) (c3:0 < k) (hz:items.size*k.toNat<=sizeLine) :
 Meets (Builtin.«tuple.__mul__» ⟨[.ref l,.int k t],[]⟩)
  (fun A R s=>s.heap.get? l=some { cls:=.type "tuple",dict:=dd,data:=.seq items n,slots:=sl }/\R (.ok (.ret (.ref s.heap.objs.size))) { s with heap:=s.heap.push { cls:=.type "tuple",data:=.seq ((Od k.toNat items).foldl (fun x1 x2=>x1++x2) #[]) } }) :=
 .of_wp fun prog w A R s h=>by
 obtain ⟨hp,g,d,tk,os⟩:=s;obtain ⟨hl,h⟩:=h
 have f1:=Uo
 have a1:¬ (decide (k < -2 ^ 63)||decide (k ≥ 2 ^ 63))=true:=by simp;lia
 have a2:¬ (items.isEmpty||k==1)=true:=by simp at c1 ⊢;exact ⟨c1,c2⟩
 have a3:¬ (decide (k<=0)||items.isEmpty)=true:=by simp at c1 ⊢;exact ⟨by lia,c1⟩
 have kk:(k.toNat:Int)=k:=by lia
 have a4:¬ ((items.size:Int)*k > (2 ^ 63 - 1) / 8):=by
  have z:((items.size*k.toNat:Nat):Int)<=(sizeLine:Nat):=Int.ofNat_le.mpr hz
  rw[Int.natCast_mul,kk] at z
  have z2:((sizeLine:Nat):Int)<=(2 ^ 63 - 1) / 8:=by decide
  lia
 have a5:¬ RG ((items.size:Int)*k)=true:=by
  have z:((items.size*k.toNat:Nat):Int)<=(sizeLine:Nat):=Int.ofNat_le.mpr hz
  rw[Int.natCast_mul,kk] at z
  simp only[RG,decide_eq_true_eq]
  lia
 have hsz:sizeOk (.seq ((Od k.toNat items).foldl (fun x1 x2=>x1++x2) #[])):=by
  show ((Od k.toNat items).foldl (fun x1 x2=>x1++x2) #[]).size<=sizeLine
  rw[AutoListH.size_joined,Array.size_empty,Ul];lia
 wp_walk using Qo hl
 rw[if_neg a1]
 wp_walk using Qo hl
 refine wpAny_ite_split (fun c=>absurd c ?_) (fun _=>?_)
 ·intro c;have a6:=a4;simp at a6 c;lia
 wp_walk using Qo hl
 refine wpAny_ite_false (decide_eq_false (Nat.not_lt.mpr hsz)) ?_
 wp_walk
 exact ⟨_,rfl,h⟩
theorem kC:fillsNumberSlot (.type "tuple") "mul"=pure false :=
 PySem.fillsNumberSlot_seq (id:="tuple.__mul__") (r:=some (.builtin "tuple.__rmul__")) F.slot_tuple_mul.lookup (by decide +kernel) F.slot_tuple_rmul.lookup (by decide +kernel)
theorem pK:seqRepeat? (.type "tuple")=pure (some (.builtin "tuple.__mul__")):=by
 unfold seqRepeat?
 rw[PySem.seqSlot_of (T:="tuple") (name:="__mul__") (id:="tuple.__mul__") F.slot_tuple_mul.lookup (by decide +kernel),PySem.seqSlot_of (T:="tuple") (name:="__rmul__") (id:="tuple.__rmul__") F.slot_tuple_rmul.lookup (by decide +kernel)]
 rfl
theorem mP (a:Int) (t:Tok) (l:N2) (items:Array NS) (n:Nat) (dd:Option N2) (sl:Array (Option NS)) :
 Meets (Builtin.«int.__rmul__» ⟨[.int a t,.ref l],[]⟩) (fun _ R s=>s.heap.get? l=some { cls:=.type "tuple",dict:=dd,data:=.seq items n,slots:=sl }/\R (.ok (.ret Value.notImplemented)) s) :=
 .of_wp fun prog w A R s h=>by obtain ⟨hp,g,d,tk,os⟩:=s;obtain ⟨hl,h⟩:=h;wp_walk;exact ⟨_,rfl,h⟩
theorem lA (l:N2) (items:Array NS) (n:Nat) (b:N2) (items2:Array NS) (n2:Nat) (dd:Option N2) (sl:Array (Option NS)) (hs0:¬(!items.isEmpty&&O0 (items.size+items2.size))=true) (hs1:items.size<=sizeLine) (hs2:items.size+items2.size<=sizeLine+1) :
 Meets (Builtin.«list.extend» ⟨[.ref l,.ref b],[]⟩) (fun _ R s=>s.heap.get? l=some { cls:=.type "list",dict:=none,data:=.seq items n,slots:=#[] }/\s.heap.get? b=some { cls:=.type "tuple",dict:=dd,data:=.seq items2 n2,slots:=sl }/\R (.ok (.ret Qj)) { s with heap:=s.heap.update l (Rv fun x=>x++items2),toks:=s.toks }) :=
 .of_wp fun prog w A R s h=>by
  obtain ⟨hp,g,d,tk,os⟩:=s;obtain ⟨hl,hb,h⟩:=h;have f1:=Uo;have f2:=AutoSeq1.sub_tuple_tuple;have f3:=AutoSeq1.sub_list_list;have f4:=AutoSeq1.sub_tuple_list;have f5:=AutoSeq1.sub_list_tuple
  have hz':(items++items2).size<=sizeLine+1:=by rw[Array.size_append];exact hs2
  wp_walk using (wpAny_updateSeq hl rfl (hz:=hs1) (_hz':=hz')),Qo hl,Qo hb;exact ⟨_,rfl,h⟩
end BS
end
section
namespace BS
open PySem PySem.Spec PyProof.Rows L2
inductive Bnd {α β:Type} (x:Option (α×BT.HH)) (k:α->BT.HH->Option β) (r:β):Prop where
 | mk (a:α) (g:BT.HH) (h1:x=some (a,g)) (h2:k a g=some r):Bnd x k r
inductive JA {α β:Type} (x:Option α) (f:α->β) (r:β):Prop where
 | mk (a:α) (h1:x=some a) (h2:f a=r):JA x f r
inductive Bind (o:BT.Bin) (x y:BT.W) (h:BT.HH) (z:BT.W) (h':BT.HH):Prop where
 | mk (d d' q:BT.D) (h1:BT.rd x h=some d) (h2:BT.rd y h=some d') (h3:BT.fZ o d d'=some q) (h4:z=.p q) (h5:h'=h):Bind o x y h z h'
theorem cT {α β:Type}{x:Option (α×BT.HH)}{k:α->BT.HH->Option β}{r:β} (h:BT.bnd x k=some r):Bnd x k r:=by
 cases x with
 | none=>exact cR h
 | some q=>exact ⟨q.1,q.2,rfl,h⟩
theorem cY {α β:Type}{x:Option α}{f:α->β}{r:β} (h:x.map f=some r):JA x f r:=by
 cases x with
 | none=>exact cR h
 | some a=>exact ⟨a,rfl,N4 h⟩
noncomputable def Post (P:Oc) (w:Oo) (K:NO) (m:List N2) (H:Hp) (z:BT.W) (h':BT.HH) (Q:VK):Prop :=
 ∀ v H' m',Ext m H m' H'->RH K m' H' h'->RW P w K m' H' v z->Q v H'
inductive rOp (P:Oc) (w:Oo) (K:NO) (f:BT.W->BT.W->BT.HH->Option (BT.W×BT.HH)) (v u:V) (H:Hp) (Q:VK):Prop where
 | mk (m:List N2) (h:BT.HH) (x y z:BT.W) (h':BT.HH) (R:RH K m H h) (rx:RW P w K m H v x) (ry:RW P w K m H u y) (e:f x y h=some (z,h')) (p:Post P w K m H z h' Q):rOp P w K f v u H Q
theorem i7 {o:BT.Bin}{x y:BT.W}{h:BT.HH}{z:BT.W}{h':BT.HH} (e:BT.nH o x y h=some (z,h')):Bind o x y h z h':=by
 unfold BT.nH at e
 cases e1:BT.rd x h with
 | none=>rw[e1] at e;exact cR e
 | some d =>
  cases e2:BT.rd y h with
  | none=>rw[e1,e2] at e;exact cR e
  | some d' =>
   rw[e1,e2] at e
   obtain ⟨q,eq,er⟩:=cY e
   cases er
   exact ⟨d,d',q,e1,e2,eq,rfl,rfl⟩
section
variable {X:Cx}
theorem fy:BT.lim<=sizeLine:=by decide
inductive JB (s:NT) (a:N2) (xs:List V):Prop where
 | mk (z:xs.length<=sizeLine) (its:List NS) (n:Nat) (r:cX xs its) (l:xs.length=its.length) (e:s.heap.get? a=some { cls:=.type "list",data:=.seq its.toArray n }):JB s a xs
theorem rdL (I:Inv X pins σ H s) (r:LL X.K H a xs):JB s a xs:=by
 rcases r with r | ⟨its,n,h1,h2,h3⟩
 ·obtain ⟨z,its,n,r,e⟩:=r.ok I.hok
  exact ⟨z,its,n,r,r.length,e⟩
 ·exact ⟨by rw[h3.length];exact h2,its,n,h3,h3.length,I.kIn a _ h1⟩
theorem yS (I:Inv X pins σ H s) (ha:LL X.K H a xs) (hb:LL X.K H b ys) (hz:xs.length+ys.length<=sizeLine)
 (q:∀ p,H p=none->Q (.ref p) (upd H p (.lst (xs++ys)))):wpAny (Oi X.prog X.w) X.A (Pc .Add (.ref a) (.ref b)) (EP X pins σ Q) X.xe s:=by
 obtain ⟨z,its,n,r,hl,e⟩:=rdL I ha
 obtain ⟨z2,its2,n2,r2,hl2,e2⟩:=rdL I hb
 refine PySem.P.add_list e e2 ?_ (by rw[NV,NV];lia)
 have ea:its.toArray++its2.toArray=(its++its2).toArray:=by simp
 rw[ea]
 exact ⟨.ref _,_,I.Im (t':=s.toks) (r.append r2) (by rw[Oa];lia),rfl,q _ I.fresh⟩
theorem wH (I:Inv X pins σ H s) (ha:SqT X.K H a xs) (hb:SqT X.K H b ys) (hz:xs.length+ys.length<=sizeLine)
 (q0:xs=[]->Q (.ref b) H) (q1:ys=[]->Q (.ref a) H) (q:∀ p,H p=none->Q (.ref p) (upd H p (.tup (xs++ys)))):wpAny (Oi X.prog X.w) X.A (Pc .Add (.ref a) (.ref b)) (EP X pins σ Q) X.xe s:=by
 by_cases c:xs=[]
 ·obtain ⟨its,r1,p1,_⟩:=I.tuple ha
  obtain ⟨its2,r2,p2,_⟩:=I.tuple hb
  obtain ⟨⟨cls,dd,data,sl⟩,ho,hc,n,hd⟩:=id p1
  obtain ⟨⟨cls2,dd2,data2,sl2⟩,ho2,hc2,n2,hd2⟩:=id p2
  simp only at hc hd hc2 hd2
  subst hc hd hc2 hd2
  have z:its=[]:=r1.jJ.mpr c
  exact concat_meets ⟨_,ho,rfl⟩ ⟨_,ho2,rfl⟩ Tg UB Q0 QY (QL _ _)
   (tuple_addW0 a b its.toArray its2.toArray n n2 dd dd2 sl sl2 (by simp[z])) ⟨ho,ho2,⟨.ref b,H,I,rfl,q0 c⟩⟩
 ·exact Bc pins s σ H (.ref a) (.ref b) _ _ Q I rfl rfl ⟨a,b,xs,ys,rfl,rfl,ha,hb,c,hz,q1,fun _=>q⟩
theorem i8 (R:RH X.K m H h) (hp:H p=none) (r:RDs X.K m H vs ds) (post:Post X.prog X.w X.K m H (.p (.tup ds)) h Q):Q (.ref p) (upd H p (.tup vs)) :=
 post _ _ m (gW hp) (R.new hp) (.p (.tup (.inl ⟨.inl dS,R.iP hp⟩) (r.ext (gW hp))))
theorem i9 (R:RH X.K m H h) (hp:H p=none) (r:RDs X.K m H vs ds) (post:Post X.prog X.w X.K m H (.p (.lst ds)) h Q):Q (.ref p) (upd H p (.lst vs)) :=
 post _ _ m (gW hp) (R.new hp) (.p (.lst (.inl ⟨.inl dS,R.iP hp⟩) (r.ext (gW hp))))
theorem uM (R:RH X.K m H h) (hp:H p=none) (r:RDs X.K m H vs ds) (post:Post X.prog X.w X.K m H (.r h.length) (h++[.l ds]) Q):Q (.ref p) (upd H p (.lst vs)) :=
 post _ _ (m++[p]) (jO hp) (R.MD hp r) (.r (by rw[← R.len];simp))
theorem pL (R:RH X.K m H h) (hp:H p=none) (r:RDs X.K m H vs ds) (post:Post X.prog X.w X.K m H (BT.new mu ds h).1 (BT.new mu ds h).2 Q):Q (.ref p) (upd H p (.lst vs)):=by
 cases mu with
 | false=>exact i9 R hp r post
 | true=>exact uM R hp r post
theorem Post.here (R:RH X.K m H h) (post:Post X.prog X.w X.K m H (.p d) h Q) (r:RD X.K m H v d):Q v H:=post v H m (.refl _ _) R (.p r)
theorem pM (hx:PyData.strOk x=true) (hy:PyData.strOk y=true):PyData.strOk (x++y)=true:=by
 show (x.cps++y.cps).all _=true
 rw[Sh]
 simp only[PyData.strOk] at hx hy
 rw[hx,hy];rfl
theorem Fw:OpR X (Pc .Add) (rOp X.prog X.w X.K (BT.nH .add)):=by
 intro pins s σ H v u v' u' Q I rv ru h
 obtain ⟨m,h,x,y,z,h',R,rx,ry,e,post⟩:=h
 obtain ⟨d,d',q,e1,e2,e3,rfl,rfl⟩:=i7 e
 have r1:=dD R rx e1
 have r2:=dD R ry e2
 cases d<;>cases d'<;>first | exact cR e3 | simp only[BT.qV,BT.dF,BT.gR,BT.mC,BT.mD,BT.qW,BT.mE,BT.mF,BT.mG,BT.ku,BT.mH] at e3
 ·cases e3
  cases r1.int;cases r2.int
  exact Ew pins s σ H _ _ _ _ Q I rv ru ⟨_,_,rfl,rfl,post.here R (.int _)⟩
 ·obtain ⟨c,e3⟩:=c6 e3
  cases e3
  obtain ⟨ev,ov⟩:=r1.str
  obtain ⟨eu,ou⟩:=r2.str
  subst ev;subst eu
  have:=fy
  exact sF pins s σ H _ _ _ _ Q I rv ru ⟨_,_,rfl,rfl,by lia,post.here R (.str _ (pM ov ou))⟩
 ·obtain ⟨c,e3⟩:=c6 e3
  cases e3
  obtain ⟨a,vs,rfl,ha,ra⟩:=r1.tup
  obtain ⟨b,us,rfl,hb,rb⟩:=r2.tup
  cases rv;cases ru
  have l1:=ra.length
  have l2:=rb.length
  have:=fy
  refine wH I ha hb (by lia) (fun z=>?_) (fun z=>?_) fun p hp=>i8 R hp (ra.append rb) post
  ·subst z;cases ra
   cases r2 with | d r=>exact post.here R r
  ·subst z;cases rb
   rw[OJ] at post
   cases r1 with | d r=>exact post.here R r
 ·obtain ⟨c,e3⟩:=c6 e3
  cases e3
  obtain ⟨a,vs,rfl,ha,ra⟩:=r1.lst
  obtain ⟨b,us,rfl,hb,rb⟩:=r2.lst
  cases rv;cases ru
  have l1:=ra.length
  have l2:=rb.length
  have:=fy
  exact yS I ha hb (by lia) fun p hp=>i9 R hp (ra.append rb) post
noncomputable def ME:BT.Bin->Bool
 | .add=>false
 | .mul=>false
 | _=>true
theorem lI {o:BT.Bin}{d d' z:BT.D} (ho:ME o=true) (e:BT.fZ o d d'=some z):∃ i j,d=.int i/\d'=.int j:=by
 cases o<;>first | exact BT.dN ho | (cases d<;>first | exact cR e | (cases d'<;>first | exact cR e | exact ⟨_,_,rfl,rfl⟩))
theorem Fx:OpR X (Pc .Sub) (rOp X.prog X.w X.K (BT.nH .sub)):=by
 intro pins s σ H v u v' u' Q I rv ru h
 obtain ⟨m,h,x,y,z,h',R,rx,ry,e,post⟩:=h
 obtain ⟨d,d',q,e1,e2,e3,rfl,rfl⟩:=i7 e
 obtain ⟨i,j,rfl,rfl⟩:=lI rfl e3
 rw[BT.mD] at e3
 cases e3
 cases (dD R rx e1).int;cases (dD R ry e2).int
 exact Ex pins s σ H _ _ _ _ Q I rv ru ⟨_,_,rfl,rfl,post.here R (.int _)⟩
theorem Fy:OpR X (Pc .Mod) (rOp X.prog X.w X.K (BT.nH .mod)):=by
 intro pins s σ H v u v' u' Q I rv ru h
 obtain ⟨m,h,x,y,z,h',R,rx,ry,e,post⟩:=h
 obtain ⟨d,d',q,e1,e2,e3,rfl,rfl⟩:=i7 e
 obtain ⟨i,j,rfl,rfl⟩:=lI rfl e3
 rw[BT.mG] at e3
 obtain ⟨c,e3⟩:=c6 e3
 cases e3
 cases (dD R rx e1).int;cases (dD R ry e2).int
 exact Ez pins s σ H _ _ _ _ Q I rv ru ⟨_,_,rfl,rfl,c,post.here R (.int _)⟩
theorem BA:OpR X (Pc .FloorDiv) (rOp X.prog X.w X.K (BT.nH .fdiv)):=by
 intro pins s σ H v u v' u' Q I rv ru h
 obtain ⟨m,h,x,y,z,h',R,rx,ry,e,post⟩:=h
 obtain ⟨d,d',q,e1,e2,e3,rfl,rfl⟩:=i7 e
 obtain ⟨i,j,rfl,rfl⟩:=lI rfl e3
 rw[BT.ku] at e3
 obtain ⟨c,e3⟩:=c6 e3
 simp only[NX,decide_eq_true_eq] at c
 cases e3
 cases (dD R rx e1).int;cases (dD R ry e2).int
 exact A1 pins s σ H _ _ _ _ Q I rv ru ⟨_,_,rfl,rfl,⟨c.1,c.2⟩,post.here R (.int _)⟩
theorem pN (h:BT.big i=true):-(2 ^ 64) < i/\i < 2 ^ 64:=by
 unfold BT.big at h
 have:=of_decide_eq_true h
 lia
theorem Fz:OpR X (Pc .Pow) (rOp X.prog X.w X.K (BT.nH .pow)):=by
 intro pins s σ H v u v' u' Q I rv ru h
 obtain ⟨m,h,x,y,z,h',R,rx,ry,e,post⟩:=h
 obtain ⟨d,d',q,e1,e2,e3,rfl,rfl⟩:=i7 e
 obtain ⟨i,j,rfl,rfl⟩:=lI rfl e3
 rw[BT.mH] at e3
 obtain ⟨c,e3⟩:=c6 e3
 simp only[NX,decide_eq_true_eq] at c
 cases e3
 cases (dD R rx e1).int;cases (dD R ry e2).int
 refine EA pins s σ H _ _ _ _ Q I rv ru ⟨_,_,rfl,rfl,⟨c.1.1,by lia,?_⟩,post.here R (.int _)⟩
 exact of_decide_eq_true c.2
theorem wI (I:Inv X pins σ H s) (ha:SqT X.K H a xs) (h1:2<=k) (h2:k<=1000) (hne:xs≠[]) (hz:xs.length*k.toNat<=sizeLine)
 (q:∀ p,H p=none->Q (.ref p) (upd H p (.tup (Od k.toNat xs).flatten))):wpAny (Oi X.prog X.w) X.A (Pc .Mult (.ref a) (.int k t)) (EP X pins σ Q) X.xe s:=by
 obtain ⟨its,r,p,_⟩:=I.tuple ha
 obtain ⟨⟨cls,dd,data,sl⟩,e,hc,n,hd⟩:=id p
 simp only at hc hd
 subst hc hd
 have hl:=r.length
 have hlen:its.toArray.size*k.toNat<=sizeLine:=by rw[NV,← hl];exact hz
 have f0:To (fun x1 x2=>x1++x2) #[] (Od k.toNat its.toArray)=(Od k.toNat its).flatten.toArray:=by
  have:=foldl_rep its k.toNat []
  rw[PP] at this
  exact this
 have hi:¬ its.toArray.isEmpty=true:=by
  intro z
  have z2:its=[]:=by simpa using z
  exact hne (r.jJ.mp z2)
 refine Uh (T:="tuple") (U:="int") (by decide) ⟨_,e,rfl⟩ (fun s'=>typeIs_int s' k t) kC F.fills_int_mul F.slot_int_rmul pK F.slot_int_index.lookup
  (Pj F.slot_int_rmul (typeIs_int s k t) F.entry_int_rmul (F.args_int_rmul_2 _ _) (mP k t a its.toArray n dd sl)
   ⟨e,rfl,⟨_,e,rfl⟩,Pj F.slot_tuple_mul ⟨_,e,rfl⟩ F.entry_tuple_mul (F.args_tuple_mul_2 _ _) (tG a its.toArray n dd sl k t (by lia) h2 hi (by lia) (by lia) hlen) ⟨e,?_⟩⟩)
 rw[f0]
 have hf:H s.heap.objs.size=none:=I.hok.fresh (N1 _)
 refine ⟨.ref s.heap.objs.size,_,I.laid (t':=s.toks) (o:=.tup (Od k.toNat xs).flatten) (fun b ob q=>NQ _ q) (N1 _) ?_,rfl,q _ hf⟩
 exact ⟨by rw[len_rep,Ul];exact hz,_,r.rep k.toNat,IsTup.new _ _⟩
theorem yT (I:Inv X pins σ H s) (hH:LL X.K H l xs) (h1:-(2 ^ 63)<=k) (h2:k<=1000) (hz:xs.length*k.toNat<=sizeLine)
 (q:∀ p,H p=none->Q (.ref p) (upd H p (.lst (Od k.toNat xs).flatten))):wpAny (Oi X.prog X.w) X.A (Pc .Mult (.ref l) (.int k t)) (EP X pins σ Q) X.xe s:=by
 have h2':k < 2 ^ 63:=by lia
 obtain ⟨z,its,n,r,hl,e⟩:=rdL I hH
 have hlen:its.toArray.size*k.toNat<=sizeLine:=by rw[NV,← hl];exact hz
 have hcap:¬ its.toArray.size*k.toNat > (2 ^ 63 - 1) / 8:=by
  have:(sizeLine:Nat)<=(2 ^ 63 - 1) / 8:=by decide
  lia
 have hfit:¬ (!Builtin.List.listFitsIndex k)=true:=by
  rw[fitsIndex_both h1 h2']
  exact OG
 have hlong:¬ O0 (its.toArray.size*k.toNat)=true:=by
  rw[mh hlen]
  exact OG
 have hnew:To (fun x1 x2=>x1++x2) #[] (Od (if its.toArray.isEmpty=true then 0 else k.toNat) its.toArray)=(Od k.toNat its).flatten.toArray:=by
  have f0:∀ m:Nat,To (fun x1 x2=>x1++x2) #[] (Od m its.toArray)=(Od m its).flatten.toArray:=fun m=>by
   have:=foldl_rep its m []
   rw[PP] at this
   exact this
  rw[f0]
  cases its with
  | nil=>simp
  | cons a r'=>rw[if_neg (by simp)]
 refine Uh (T:="list") (U:="int") (by decide) ⟨_,e,rfl⟩ (fun s'=>typeIs_int s' k t) noFill_list_mul F.fills_int_mul F.slot_int_rmul repeat_list F.slot_int_index.lookup
  (Pj F.slot_int_rmul (typeIs_int s k t) F.entry_int_rmul (F.args_int_rmul_2 _ _) (int___rmul___int_list k t l its.toArray n)
   ⟨e,rfl,⟨_,e,rfl⟩,Pj F.slot_list_mul ⟨_,e,rfl⟩ F.entry_list_mul (F.args_list_mul_2 _ _) (AutoListH.list___mul___list_int_3 l its.toArray n k t hfit hcap hlong) ⟨e,?_⟩⟩)
 rw[hnew]
 exact ⟨.ref _,_,I.Im (t':=s.toks) (r.rep k.toNat) (by rw[len_rep,Ul];exact hz),rfl,q _ I.fresh⟩
theorem FA:OpR X (Pc .Mult) (rOp X.prog X.w X.K (BT.nH .mul)):=by
 intro pins s σ H v u v' u' Q I rv ru h
 obtain ⟨m,h,x,y,z,h',R,rx,ry,e,post⟩:=h
 obtain ⟨d,d',q,e1,e2,e3,rfl,rfl⟩:=i7 e
 have r1:=dD R rx e1
 have r2:=dD R ry e2
 cases d<;>cases d'<;>first | exact cR e3 | simp only[BT.qV,BT.dF,BT.gR,BT.mC,BT.mD,BT.qW,BT.mE,BT.mF,BT.mG,BT.ku,BT.mH] at e3
 ·obtain ⟨c,e3⟩:=c6 e3
  cases e3
  cases r1.int;cases r2.int
  refine Ey pins s σ H _ _ _ _ Q I rv ru ⟨_,_,rfl,rfl,?_,post.here R (.int _)⟩
  rcases Qh _ _ ▸ c with c | c
  ·exact .inl (pN c)
  ·exact .inr (pN c)
 ·obtain ⟨c,e3⟩:=c6 e3
  simp only[NX,decide_eq_true_eq] at c
  cases e3
  obtain ⟨a,vs,rfl,ha,ra⟩:=r1.tup
  cases r2.int
  obtain ⟨t,rfl⟩:=ru
  cases rv
  have l1:=ra.length
  have:=fy
  simp only[Qn,List.isEmpty_eq_false_iff] at c
  refine wI I ha (by lia) (by lia) (fun z=>?_) (by rw[l1];lia) fun p hp=>i8 R hp (ra.rep _) post
  subst z
  cases ra
  exact c.1.2 rfl
 ·obtain ⟨c,e3⟩:=c6 e3
  simp only[NX,decide_eq_true_eq] at c
  cases e3
  obtain ⟨a,vs,rfl,ha,ra⟩:=r1.lst
  cases r2.int
  obtain ⟨t,rfl⟩:=ru
  cases rv
  have l1:=ra.length
  have:=fy
  refine yT I ha (by lia) (by lia) (by rw[l1];lia) fun p hp=>i9 R hp (ra.rep _) post
end
mutual
noncomputable def pd:BT.D->PyData
 | .non=>.none
 | .bl b=>.bool b
 | .int i=>.int i
 | .str x=>.str x
 | .tup xs=>.tuple (pds xs)
 | .lst xs=>.list (pds xs)
noncomputable def pds:List BT.D->List PyData
 | []=>[]
 | x :: r=>pd x :: pds r
end
mutual
theorem mQ:∀ x y:BT.D,PyData.eqv (pd x) (pd y)=BT.eqv x y
 | .non,.non=>rfl
 | .non,.bl _=>rfl
 | .non,.int _=>rfl
 | .non,.str _=>rfl
 | .non,.tup _=>by simp[pd,PyData.eqv,BT.eqv]
 | .non,.lst _=>by simp[pd,PyData.eqv,BT.eqv]
 | .bl _,.non=>rfl
 | .bl _,.bl _=>rfl
 | .bl _,.int _=>rfl
 | .bl _,.str _=>rfl
 | .bl _,.tup _=>by simp[pd,PyData.eqv,BT.eqv]
 | .bl _,.lst _=>by simp[pd,PyData.eqv,BT.eqv]
 | .int _,.non=>rfl
 | .int _,.bl _=>rfl
 | .int _,.int _=>rfl
 | .int _,.str _=>rfl
 | .int _,.tup _=>by simp[pd,PyData.eqv,BT.eqv]
 | .int _,.lst _=>by simp[pd,PyData.eqv,BT.eqv]
 | .str _,.non=>rfl
 | .str _,.bl _=>rfl
 | .str _,.int _=>rfl
 | .str _,.str _=>rfl
 | .str _,.tup _=>by simp[pd,PyData.eqv,BT.eqv]
 | .str _,.lst _=>by simp[pd,PyData.eqv,BT.eqv]
 | .tup _,.non=>by simp[pd,PyData.eqv,BT.eqv]
 | .tup _,.bl _=>by simp[pd,PyData.eqv,BT.eqv]
 | .tup _,.int _=>by simp[pd,PyData.eqv,BT.eqv]
 | .tup _,.str _=>by simp[pd,PyData.eqv,BT.eqv]
 | .tup xs,.tup ys=>by simp only[pd,PyData.eqv,BT.eqv];exact pO xs ys
 | .tup _,.lst _=>by simp[pd,PyData.eqv,BT.eqv]
 | .lst _,.non=>by simp[pd,PyData.eqv,BT.eqv]
 | .lst _,.bl _=>by simp[pd,PyData.eqv,BT.eqv]
 | .lst _,.int _=>by simp[pd,PyData.eqv,BT.eqv]
 | .lst _,.str _=>by simp[pd,PyData.eqv,BT.eqv]
 | .lst _,.tup _=>by simp[pd,PyData.eqv,BT.eqv]
 | .lst xs,.lst ys=>by simp only[pd,PyData.eqv,BT.eqv];exact pO xs ys
theorem pO:∀ xs ys:List BT.D,PyData.eqvAll (pds xs) (pds ys)=BT.jt xs ys
 | [],[]=>by simp[pds,PyData.eqvAll,BT.jt]
 | [],_ :: _=>by simp[pds,PyData.eqvAll,BT.jt]
 | _ :: _,[]=>by simp[pds,PyData.eqvAll,BT.jt]
 | x :: xs,y :: ys=>by simp only[pds,PyData.eqvAll,BT.jt];rw[mQ x y,pO xs ys]
end
theorem iQ:∀ {xs:List BT.D},(∀ x∈xs,(pd x).depth<=n)->PyData.depthAll (pds xs)<=n
 | [],_=>by simp[pds,PyData.depthAll]
 | x :: xs,h=>by
  simp only[pds,PyData.depthAll]
  exact Nat.max_le.mpr ⟨h x NW,iQ fun y hy=>h y (NU _ hy)⟩
theorem ja:∀ (n:Nat) (d:BT.D),BT.dok n d=true->(pd d).depth<=n
 | n,.non,_=>by simp[pd,PyData.depth]
 | n,.bl _,_=>by simp[pd,PyData.depth]
 | n,.int _,_=>by simp[pd,PyData.depth]
 | n,.str _,_=>by simp[pd,PyData.depth]
 | 0,.tup _,h=>by simp[BT.dok] at h
 | 0,.lst _,h=>by simp[BT.dok] at h
 | n+1,.tup xs,h=>by
  simp only[pd,PyData.depth]
  rw[BT.pA,OL] at h
  exact Nat.succ_le_succ (iQ fun x hx=>ja n x (h x hx))
 | n+1,.lst xs,h=>by
  simp only[pd,PyData.depth]
  rw[BT.Bl,OL] at h
  exact Nat.succ_le_succ (iQ fun x hx=>ja n x (h x hx))
section
variable {K:NO}
mutual
theorem fX:∀ {v:V}{d:BT.D},RD K m H v d->(pd d).canLay0=true
 | _,_,.non=>rfl
 | _,_,.bl _=>rfl
 | _,_,.int _=>rfl
 | _,_,.str _ h=>by simpa [pd,PyData.canLay0] using h
 | _,_,.tup _ r=>by simp only[pd,PyData.canLay0];exact gX r
 | _,_,.lst _ r=>by simp only[pd,PyData.canLay0];exact gX r
theorem gX:∀ {vs:List V}{ds:List BT.D},RDs K m H vs ds->PyData.canLayAll0 (pds ds)=true
 | _,_,.nil=>by simp[pds,PyData.canLayAll0]
 | _,_,.cons r t=>by simp only[pds,PyData.canLayAll0];rw[fX r,gX t];rfl
end
mutual
theorem iR (I:Inv X pins σ H s):∀ {v:V}{d:BT.D}{u:NS},RD X.K m H v d->RelV v u->∃ as,Reads s.heap u (pd d) as
 | _,_,_,.non,r=>by cases r;exact ⟨_,.none⟩
 | _,_,_,.bl b,r=>by cases r;exact ⟨_,.bool b⟩
 | _,_,_,.int i,r=>by obtain ⟨t,rfl⟩:=r;exact ⟨_,.int i t⟩
 | _,_,_,.str x _,r=>by obtain ⟨t,rfl⟩:=r;exact ⟨_,.str x t⟩
 | _,_,_,.tup h r,q=>by
  cases q
  obtain ⟨its,r1,⟨o,e1,e2,n,e3⟩,_⟩:=I.tuple (h.elim (fun q=>.inl q.1) (fun ⟨o,its,n,q,_⟩=>.inr ⟨o,its,n,q⟩))
  obtain ⟨as,ra⟩:=jb I r r1
  exact ⟨_,.tuple e1 e2 e3 (by simpa using ra)⟩
 | _,_,_,.lst h r,q=>by
  cases q
  obtain ⟨z,its,n,r1,_,e⟩:=rdL I (h.elim (fun q=>.inl q.1) .inr)
  obtain ⟨as,ra⟩:=jb I r r1
  exact ⟨_,.list e rfl rfl (by simpa using ra)⟩
theorem jb (I:Inv X pins σ H s):∀ {vs:List V}{ds:List BT.D}{us:List NS},RDs X.K m H vs ds->cX vs us->∃ as,ReadsAll s.heap us (pds ds) as
 | _,_,_,.nil,q=>by cases q;exact ⟨_,.nil⟩
 | _,_,_,.cons r t,q=>by
  cases q with
  | cons q1 q2 =>
   obtain ⟨as,ra⟩:=iR I r q1
   obtain ⟨bs,rb⟩:=jb I t q2
   exact ⟨_,.cons ra rb⟩
end
theorem iS (I:Inv X pins σ H s) (r:RR X.K m H v d) (q:RelV v u):∃ as,Reads s.heap u (pd d) as:=by
 cases r with
 | d r=>exact iR I r q
 | l h r =>
  cases q
  obtain ⟨z,its,n,r1,_,e⟩:=rdL I (.inl (.inl h))
  obtain ⟨as,ra⟩:=jb I r r1
  exact ⟨_,.list e rfl rfl (by simpa using ra)⟩
theorem gF (r:RR K m H v d):(pd d).canLay0=true:=by
 cases r with
 | d r=>exact fX r
 | l h r=>simp only[pd,PyData.canLay0];exact gX r
theorem pP (h:BT.dY x y=true):min (pd x).depth (pd y).depth<=100:=by
 unfold BT.dY at h
 rcases Qh _ _ ▸ h with h | h
 ·have:=ja 100 x h;lia
 ·have:=ja 100 y h;lia
theorem gY (e:BT.ju o x y h=some (z,h')) :
 (∃ kvs b,y=.k kvs/\BT.inK o x kvs=some b/\z=.p (.bl b)/\h'=h)\/∃ d d' b,BT.rd x h=some d/\BT.rd y h=some d'/\BT.eS o d d'=some b/\z=.p (.bl b)/\h'=h:=by
 unfold BT.ju at e
 split at e
 ·rename_i kvs
  obtain ⟨b,e1,e2⟩:=cY e
  cases e2
  exact .inl ⟨kvs,b,rfl,e1,rfl,rfl⟩
 ·refine .inr ?_
  cases e1:BT.rd x h with
  | none=>rw[e1] at e;exact cR e
  | some d =>
   cases e2:BT.rd y h with
   | none=>rw[e1,e2] at e;exact cR e
   | some d' =>
    rw[e1,e2] at e
    obtain ⟨q,eq,er⟩:=cY e
    cases er
    exact ⟨d,d',q,rfl,rfl,eq,rfl,rfl⟩
theorem JC (hu:X.A.units+150 < cLine):OpR X (OP .Eq) (rOp X.prog X.w X.K (BT.ju .eq)):=by
 intro pins s σ H v u v' u' Q I rv ru h
 obtain ⟨m,h,x,y,z,h',R,rx,ry,e,post⟩:=h
 rcases gY e with ⟨kvs,b,rfl,e1,_,_⟩ | ⟨d,d',b,e1,e2,e3,rfl,rfl⟩
 ·exact absurd e1 (BT.mK rfl)
 ·have r1:=dD R rx e1
  have r2:=dD R ry e2
  rw[BT.gf] at e3
  obtain ⟨c,e3⟩:=c6 e3
  cases e3
  obtain ⟨as,ra⟩:=iS I r1 rv
  obtain ⟨bs,rb⟩:=iS I r2 ru
  have:=pP c
  refine SeqAt.compareEq_reads ra rb (gF r1) (gF r2) (by lia) ?_
  rw[mQ]
  exact ⟨.bl _,H,I,rfl,post.here R (.bl _)⟩
theorem JD (hu:X.A.units+150 < cLine):OpR X (OP .NotEq) (rOp X.prog X.w X.K (BT.ju .ne)):=by
 intro pins s σ H v u v' u' Q I rv ru h
 obtain ⟨m,h,x,y,z,h',R,rx,ry,e,post⟩:=h
 rcases gY e with ⟨kvs,b,rfl,e1,_,_⟩ | ⟨d,d',b,e1,e2,e3,rfl,rfl⟩
 ·exact absurd e1 (BT.mK rfl)
 ·have r1:=dD R rx e1
  have r2:=dD R ry e2
  rw[BT.fC] at e3
  obtain ⟨c,e3⟩:=c6 e3
  cases e3
  obtain ⟨as,ra⟩:=iS I r1 rv
  obtain ⟨bs,rb⟩:=iS I r2 ru
  have:=pP c
  refine SeqAt.compareNe_reads ra rb (gF r1) (gF r2) (by lia) ?_
  rw[mQ]
  exact ⟨.bl _,H,I,rfl,post.here R (.bl _)⟩
noncomputable def JE:BT.Cm->Bool
 | .lt=>true
 | .le=>true
 | .gt=>true
 | .ge=>true
 | _=>false
theorem BD {o:BT.Cm}{d d':BT.D}{b:Bool} (ho:JE o=true) (e:BT.eS o d d'=some b):∃ i j,d=.int i/\d'=.int j:=by
 cases o<;>first | exact BT.dN ho | (cases d<;>first | exact cR e | (cases d'<;>first | exact cR e | exact ⟨_,_,rfl,rfl⟩))
theorem pQ {o:BT.Cm}{c:CmpOp}{f:Int->Int->Bool} (op:OpR X (OP c) (rI0 fun i j=>.bl (f i j))) (ho:JE o=true) (hm:BT.memC o=false) (hf:∀ i j,BT.eS o (.int i) (.int j)=some (f i j)):OpR X (OP c) (rOp X.prog X.w X.K (BT.ju o)):=by
 intro pins s σ H v u v' u' Q I rv ru h
 obtain ⟨m,h,x,y,z,h',R,rx,ry,e,post⟩:=h
 rcases gY e with ⟨kvs,b,rfl,e1,_,_⟩ | ⟨d,d',b,e1,e2,e3,rfl,rfl⟩
 ·exact absurd e1 (BT.mK hm)
 ·obtain ⟨i,j,rfl,rfl⟩:=BD ho e3
  rw[hf] at e3
  cases e3
  cases (dD R rx e1).int;cases (dD R ry e2).int
  exact op pins s σ H _ _ _ _ Q I rv ru ⟨_,_,rfl,rfl,post.here R (.bl _)⟩
theorem uN (r:RR K m H v d):decide (v=.non)=BT.iK d:=by
 cases r with
 | d r=>cases r<;>rfl
 | l h r=>rfl
theorem BE {v:V}{d:BT.D}{u:NS}{b:Bool} (r:RR K m H v d) (rv:RelV v u):isSame u (.bool b)=pure (BT.pB b d):=by
 cases r with
 | d r=>cases r<;>first | (cases rv;cases b<;>first | rfl | (rename_i c;cases c<;>rfl)) | (obtain ⟨t,rfl⟩:=rv;cases b<;>rfl)
 | l h r=>cases rv;rfl
theorem FD:OpR X (OP .Is) (rOp X.prog X.w X.K (BT.ju .isN)):=by
 intro pins s σ H v u v' u' Q I rv ru h
 obtain ⟨m,h,x,y,z,h',R,rx,ry,e,post⟩:=h
 rcases gY e with ⟨kvs,b,rfl,e1,_,_⟩ | ⟨d,d',b,e1,e2,e3,rfl,rfl⟩
 ·exact absurd e1 (BT.mK rfl)
 ·have r1:=dD R rx e1
  have r2:=dD R ry e2
  cases d'<;>first | exact cR e3 | simp only[BT.lD,BT.lE,BT.lF,BT.lG,BT.jM,BT.iZ,BT.eY,BT.gS,BT.gi,BT.gj] at e3
  cases e3
  cases r2.non
  refine EB pins s σ H _ _ _ _ Q I rv ru ⟨rfl,?_⟩
  rw[uN r1]
  exact post.here R (.bl _)
theorem BH:OpR X (OP .IsNot) (rOp X.prog X.w X.K (BT.ju .notN)):=by
 intro pins s σ H v u v' u' Q I rv ru h
 obtain ⟨m,h,x,y,z,h',R,rx,ry,e,post⟩:=h
 rcases gY e with ⟨kvs,b,rfl,e1,_,_⟩ | ⟨d,d',b,e1,e2,e3,rfl,rfl⟩
 ·exact absurd e1 (BT.mK rfl)
 ·have r1:=dD R rx e1
  have r2:=dD R ry e2
  cases d'<;>first | exact cR e3 | simp only[BT.lD,BT.lE,BT.lF,BT.lG,BT.jM,BT.iZ,BT.wC,BT.eY,BT.gS,BT.gi,BT.gj] at e3
  ·cases e3
   cases r2.non
   refine A2 pins s σ H _ _ _ _ Q I rv ru ⟨rfl,?_⟩
   rw[uN r1]
   exact post.here R (.bl _)
  ·cases e3
   cases r2.bl
   cases ru
   exact NP (wpAny_of_eq (BE r1 rv) (wpAny_pure ⟨.bl _,H,I,rfl,post.here R (.bl _)⟩))
open Classical in
noncomputable def eN (h:Heap) (dx:PyData) (y:NS):Bool:=if q:∃ db as,Reads h y db as/\db.canLay0=true then PyData.eqv (Classical.choose q) dx else false
theorem tH (r:Reads h y db as) (c:db.canLay0=true):eN h dx y=PyData.eqv db dx:=by
 have q:∃ db as,Reads h y db as/\db.canLay0=true:=⟨db,as,r,c⟩
 unfold eN
 rw[dif_pos q]
 obtain ⟨as',r',c'⟩:=Classical.choose_spec q
 rw[SeqAt.Reads.unique _ _ _ _ _ c r r']
theorem jP (I:Inv X pins σ H s):∀ {vs:List V}{ds:List BT.D}{us:List NS},RDs X.K m H vs ds->cX vs us->us.any (eN s.heap (pd d))=ds.any fun y=>BT.eqv y d
 | _,_,_,.nil,q=>by cases q;rfl
 | _,_,_,.cons r t,q=>by
  cases q with
  | cons q1 q2 =>
   obtain ⟨as,ra⟩:=iR I r q1
   rw[List.any_cons,List.any_cons,jP I t q2,tH ra (fX r),mQ]
theorem gn (hu:X.A.units+150 < cLine) (I:Inv X pins σ H s) (rx:RR X.K m H v d) (rv:RelV v u):∀ {vs:List V}{ds:List BT.D}{us:List NS},RDs X.K m H vs ds->cX vs us->(ds.all fun y=>BT.dY y d)=true →
 ∀ y∈us,SeqAt.EqAt X.A.in1 s y u (eN s.heap (pd d) y)
 | _,_,_,.nil,q,_=>by cases q;intro y hy;simp at hy
 | _,_,_,.cons r t,q,c=>by
  cases q with
  | cons q1 q2 =>
   rw[Tv,NX] at c
   intro y hy
   rcases List.mem_cons.mp hy with rfl | hy
   ·obtain ⟨as,ra⟩:=iR I r q1
    obtain ⟨bs,rb⟩:=iS I rx rv
    rw[tH ra (fX r)]
    have:=pP c.1
    refine SeqAt.eqAt_reads _ _ _ _ _ _ _ _ ra rb (fX r) (gF rx) ?_
    show X.A.units+1+_ < _
    lia
   ·exact gn hu I rx rv t q2 c.2 y hy
theorem FE (hu:X.A.units+150 < cLine) (hk:∀ {kvs:BT.Kd}{x:BT.W}{b:Bool}{m:List N2}{H:Hp}{v u:V}{v' u':NS}{pins σ s Q},Inv X pins σ H s->RelV v v'->RelV u u'->RW X.prog X.w X.K m H v x->RW X.prog X.w X.K m H u (.k kvs)->BT.inK .mem x kvs=some b->Q (V.bl b) H →
 wpAny (Oi X.prog X.w) X.A (OP .In v' u') (EP X pins σ Q) X.xe s):OpR X (OP .In) (rOp X.prog X.w X.K (BT.ju .mem)):=by
 intro pins s σ H v u v' u' Q I rv ru h
 obtain ⟨m,h,x,y,z,h',R,rx,ry,e,post⟩:=h
 rcases gY e with ⟨kvs,b,rfl,e1,rfl,rfl⟩ | ⟨d,d',b,e1,e2,e3,rfl,rfl⟩
 ·exact hk I rv ru rx ry e1 (post.here R (.bl _))
 ·have r1:=dD R rx e1
  have r2:=dD R ry e2
  cases d'<;>first | exact cR e3 | simp only[BT.lD,BT.lE,BT.lF,BT.lG,BT.jM,BT.iZ,BT.eY,BT.gS,BT.gi,BT.gj] at e3
  ·obtain ⟨c,e3⟩:=c6 e3
   cases e3
   obtain ⟨a,vs,rfl,ha,ra⟩:=r2.tup
   cases ru
   obtain ⟨its,q1,q2,_⟩:=I.tuple ha
   refine SeqAt.in_tupleAt (eN s.heap (pd d)) q2 (fun y hy=>gn hu I r1 rv ra q1 c y (by simpa using hy)) ⟨.bl _,H,I,rfl,?_⟩
   rw[show its.toArray.any (eN s.heap (pd d))=its.any (eN s.heap (pd d)) by simp,jP I ra q1]
   exact post.here R (.bl _)
  ·obtain ⟨c,e3⟩:=c6 e3
   cases e3
   obtain ⟨a,vs,rfl,ha,ra⟩:=r2.lst
   cases ru
   obtain ⟨z,its,n,q1,_,q2⟩:=rdL I ha
   refine SeqAt.in_listAt (eN s.heap (pd d)) ⟨_,q2,rfl,_,rfl⟩ (fun y hy=>gn hu I r1 rv ra q1 c y (by simpa using hy)) ⟨.bl _,H,I,rfl,?_⟩
   rw[show its.toArray.any (eN s.heap (pd d))=its.any (eN s.heap (pd d)) by simp,jP I ra q1]
   exact post.here R (.bl _)
theorem BI (hu:X.A.units+150 < cLine) (hk:∀ {kvs:BT.Kd}{x:BT.W}{b:Bool}{m:List N2}{H:Hp}{v u:V}{v' u':NS}{pins σ s Q},Inv X pins σ H s->RelV v v'->RelV u u'->RW X.prog X.w X.K m H v x->RW X.prog X.w X.K m H u (.k kvs)->BT.inK .nmem x kvs=some b->Q (V.bl b) H →
 wpAny (Oi X.prog X.w) X.A (OP .NotIn v' u') (EP X pins σ Q) X.xe s):OpR X (OP .NotIn) (rOp X.prog X.w X.K (BT.ju .nmem)):=by
 intro pins s σ H v u v' u' Q I rv ru h
 obtain ⟨m,h,x,y,z,h',R,rx,ry,e,post⟩:=h
 rcases gY e with ⟨kvs,b,rfl,e1,rfl,rfl⟩ | ⟨d,d',b,e1,e2,e3,rfl,rfl⟩
 ·exact hk I rv ru rx ry e1 (post.here R (.bl _))
 ·have r1:=dD R rx e1
  have r2:=dD R ry e2
  cases d'<;>first | exact cR e3 | simp only[BT.lD,BT.lE,BT.lF,BT.lG,BT.jM,BT.iZ,BT.eY,BT.gS,BT.gi,BT.gj] at e3
  ·obtain ⟨c,e3⟩:=c6 e3
   cases e3
   obtain ⟨a,vs,rfl,ha,ra⟩:=r2.tup
   cases ru
   obtain ⟨its,q1,q2,_⟩:=I.tuple ha
   refine SeqAt.notIn_tupleAt (eN s.heap (pd d)) q2 (fun y hy=>gn hu I r1 rv ra q1 c y (by simpa using hy)) ⟨.bl _,H,I,rfl,?_⟩
   rw[show its.toArray.any (eN s.heap (pd d))=its.any (eN s.heap (pd d)) by simp,jP I ra q1]
   exact post.here R (.bl _)
  ·obtain ⟨c,e3⟩:=c6 e3
   cases e3
   obtain ⟨a,vs,rfl,ha,ra⟩:=r2.lst
   cases ru
   obtain ⟨z,its,n,q1,_,q2⟩:=rdL I ha
   refine SeqAt.notIn_listAt (eN s.heap (pd d)) ⟨_,q2,rfl,_,rfl⟩ (fun y hy=>gn hu I r1 rv ra q1 c y (by simpa using hy)) ⟨.bl _,H,I,rfl,?_⟩
   rw[show its.toArray.any (eN s.heap (pd d))=its.any (eN s.heap (pd d)) by simp,jP I ra q1]
   exact post.here R (.bl _)
end
section
variable {P:Oc}{w:Oo}{K:NO}{m m':List N2}{H H':Hp}
theorem wJ (e:p.1=k):BT.fc (p :: r) k=some p.2:=by simp[BT.fc,Qg,e]
theorem wK (e:¬ p.1=k):BT.fc (p :: r) k=BT.fc r k:=by simp[BT.fc,Qg,e]
theorem RKs.get (r:RKs K m H vs kvs) (k:Key):(BT.fc kvs k=none/\qO vs k=none)\/∃ v d,BT.fc kvs k=some d/\qO vs k=some v/\RD K m H v d:=by
 induction r with
 | nil=>exact .inl ⟨rfl,rfl⟩
 | @cons j v d vs kvs hk r t ih =>
  by_cases c:j=k
  ·exact .inr ⟨v,d,wJ c,qP c,r⟩
  ·rw[wK (p:=(j,d)) c,qQ (p:=(j,v)) c];exact ih
theorem yU (r:RD K m H v d) (e:BT.nF d=some k):v=kV k:=by
 cases r<;>cases e<;>rfl
inductive yV (X:Cx) (m:List N2) (H:Hp) (s:NT) (a:N2) (kvs:List (BT.Ky×BT.D)) (k:Key):Prop where
 | no (vs:List (Key×NS)) (d:s.heap.DictOf (c8 X.prog X.w) a vs) (n:(a==P1)=false) (e1:BT.fc kvs k=none) (e2:valueAt vs k=none):yV X m H s a kvs k
 | is (vs:List (Key×NS)) (d:s.heap.DictOf (c8 X.prog X.w) a vs) (n:(a==P1)=false) (x:BT.D) (v:V) (u:NS) (e1:BT.fc kvs k=some x) (e2:valueAt vs k=some u) (r:RelV v u) (q:RD X.K m H v x):yV X m H s a kvs k
theorem tK (I:Inv X pins σ H s) (h:Rd H a (.dK ws)) (rk:RKs X.K m H ws kvs) (k:Key):yV X m H s a kvs k:=by
 obtain ⟨z,hd,vs,rel,dd⟩:=Iq I.hok h
 have rv:=rel.val k
 rcases rk.get k with ⟨g1,g2⟩ | ⟨v,d,g1,g2,g3⟩
 ·rw[g2] at rv
  cases e:valueAt vs k with
  | none=>exact .no vs dd hd g1 e
  | some u=>rw[e] at rv;exact rv.elim
 ·rw[g2] at rv
  cases e:valueAt vs k with
  | none=>rw[e] at rv;exact rv.elim
  | some u=>rw[e] at rv;exact .is vs dd hd d v u g1 e rv g3
end
section
theorem RDs.atI {K:NO} (r:RDs K m H vs ds) (e:BT.atP ds i=some d):∃ v,L2.atI vs i=some v/\RD K m H v d:=by
 unfold BT.atP at e
 unfold L2.atI
 obtain ⟨j,h1,h2⟩:=Option.bind_eq_some_iff.mp e
 obtain ⟨v,q1,q2⟩:=r.get h2
 refine ⟨v,?_,q2⟩
 rw[r.length]
 show ((BT.place ds.length i).bind fun j=>vs[j]?)=some v
 rw[h1]
 exact q1
theorem BJ {x y:BT.W}{h:BT.HH}{z:BT.W}{h':BT.HH} (e:BT.Bp x y h=some (z,h')) :
 (∃ kvs k d,x=.k (.t kvs)/\y=.p (.str k)/\BT.dB k kvs=some d/\z=.p d/\h'=h)\/(∃ kvs e k d,x=.k (.l kvs)/\y=.p e/\BT.nF e=some k/\BT.fc kvs k=some d/\z=.p d/\h'=h)\/∃ d d' b,BT.rd x h=some d/\BT.rd y h=some d'/\BT.fq d d'=some b/\z=.p b/\h'=h:=by
 unfold BT.Bp at e
 split at e
 ·rename_i kvs
  obtain ⟨b,e1,e2⟩:=cY e
  cases e2
  cases kvs with
  | t kvs =>
   cases y with
   | p d =>
    cases d with
    | str x=>exact .inl ⟨kvs,_,b,rfl,rfl,e1,rfl,rfl⟩
    | _=>exact cR e1
   | _=>exact cR e1
  | l kvs =>
   cases y with
   | p d =>
    obtain ⟨k,g1,g2⟩:=Option.bind_eq_some_iff.mp (show (BT.nF d).bind (BT.fc kvs)=some b from e1)
    exact .inr (.inl ⟨kvs,d,k,b,rfl,rfl,g1,g2,rfl,rfl⟩)
   | _=>exact cR e1
 ·refine .inr (.inr ?_)
  cases e1:BT.rd x h with
  | none=>rw[e1] at e;exact cR e
  | some d =>
   cases e2:BT.rd y h with
   | none=>rw[e1,e2] at e;exact cR e
   | some d' =>
    rw[e1,e2] at e
    obtain ⟨q,eq,er⟩:=cY e
    cases er
    exact ⟨d,d',q,rfl,rfl,eq,rfl,rfl⟩
theorem yW {K:NO}:∀ {es:List (Str×V)}{kvs:List (Str×BT.D)}{vs:List (Key×NS)},RDk K es kvs->KV (es.map fun q=>((Sum.inr q.1:Key),q.2)) vs->BT.dB k kvs=some d →
 ∃ u v,valueAt vs (Sum.inr k)=some u/\RelV v u/\∀ m H,RD K m H v d
 | _,_,_,.nil,_,e=>by simp[BT.dB] at e
 | _,_,_,@RDk.cons _ x v dd es kvs r t,q,e=>by
  cases q with
  | @cons p z l1 l2 q1 q2 =>
   obtain ⟨z1,z2⟩:=z
   obtain ⟨q11,q12⟩:=q1
   simp only at q11 q12
   subst q11
   rw[BT.dB] at e
   by_cases c:k=x
   ·rw[if_pos c] at e
    cases e
    subst c
    exact ⟨z2,v,by simp[valueAt],q12,r⟩
   ·rw[if_neg c] at e
    obtain ⟨u,v',h1,h2,h3⟩:=yW t q2 e
    refine ⟨u,v',?_,h2,h3⟩
    have ne:¬ ((Sum.inr x:Key)=Sum.inr k):=fun z=>c (Sum.inr.inj z).symm
    simp only[valueAt] at h1 ⊢
    rw[Rf (by simpa using ne)]
    exact h1
theorem kD (h:PyData.strOk x=true) (hc:c∈x.cps.toList):PyData.strOk ⟨#[c]⟩=true:=by
 simp only[PyData.strOk,Array.all_eq_true_iff_forall_mem] at h ⊢
 intro y hy
 simp at hy
 subst hy
 exact h y (by simpa using hc)
theorem FF:IxR X (rOp X.prog X.w X.K BT.Bp):=by
 intro value slice pins s σ H v u v' u' Q I rv ru h hs
 obtain ⟨m,h,x,y,z,h',R,rx,ry,e,post⟩:=h
 rcases BJ e with ⟨kvs,k,d,rfl,rfl,e1,rfl,rfl⟩ | ⟨kvs,e',k,d,rfl,rfl,e0,e1,rfl,rfl⟩ | ⟨d,d',b,e1,e2,e3,rfl,rfl⟩
 ·cases rx with
  | @k a es _ kd rk =>
   cases rv
   cases ry with
   | p ry =>
    cases ry with
    | str _ ok =>
     obtain ⟨t,rfl⟩:=ru
     obtain ⟨hm,vs,kv,dd⟩:=kd
     obtain ⟨w',z,h1,h2,h3⟩:=yW rk kv e1
     have D:=dd s.heap I.kIn
     refine So (ops:=[.ref a,.str k t]) D.typeIs slot_dict_getitem.lookup ?_ hs
     exact wpAny_getItem_of (knd:=c8 X.prog X.w) (e9 _ _ k t) D.mapOf h1 ⟨z,H,I.tok _,h2,post.here R (h3 _ _)⟩
 ·cases rx with
  | @kl a ob ws _ hh rk =>
   cases rv
   cases ry with
   | p ry =>
    have ek:=yU ry e0
    subst ek
    cases tK I (.inr ⟨_,hh.1⟩) rk k with
    | no _ _ _ g1 _=>rw[g1] at e1;exact cR e1
    | is vs dd n x v1 u1 g1 g2 g3 g4 =>
     rw[g1] at e1
     cases e1
     refine So (ops:=[.ref a,u']) dd.typeIs slot_dict_getitem.lookup ?_ hs
     exact wpAny_getItem_of (knd:=c8 X.prog X.w) (yo ru) dd.mapOf g2 ⟨v1,H,I.tok _,g3,post.here R g4⟩
 ·have r1:=dD R rx e1
  have r2:=dD R ry e2
  cases d<;>cases d'<;>first | exact cR e3 | simp only[BT.sV,BT.ef,BT.iM] at e3
  ·split at e3
   ·rename_i c
    obtain ⟨cc,e4,e5⟩:=cY e3
    subst e5
    obtain ⟨rfl,ok⟩:=r1.str
    cases r2.int
    have:=fy
    refine EL value slice pins s σ H _ _ _ _ Q I rv ru ⟨_,_,cc,rfl,rfl,by lia,e4,post.here R (.str _ (kD ok ?_))⟩ hs
    obtain ⟨j,h1,h2⟩:=Option.bind_eq_some_iff.mp e4
    exact Oe h2
   ·exact cR e3
  ·obtain ⟨a,vs,rfl,ha,ra⟩:=r1.tup
   cases r2.int
   obtain ⟨z,q1,q2⟩:=ra.atI e3
   exact EK value slice pins s σ H _ _ _ _ Q I rv ru ⟨a,vs,_,z,rfl,rfl,ha,q1,post.here R q2⟩ hs
  ·obtain ⟨a,vs,rfl,ha,ra⟩:=r1.lst
   cases r2.int
   obtain ⟨z,q1,q2⟩:=ra.atI e3
   exact Bd value slice pins s σ H _ _ _ _ Q I rv ru ⟨a,vs,_,z,rfl,rfl,ha.sq,q1,post.here R q2⟩ hs
theorem jQ (n d:Nat) (o:Option Int):BT.clip n d o=HT.sIx n d o:=by
 cases o with
 | none=>rfl
 | some v =>
  simp only[BT.clip,HT.sIx]
  split
  ·rfl
  ·split
   ·lia
   ·lia
theorem nK {E:NS->NT->Prop}{lo:Option Int} (ht:IsTup s.heap t items) (hs:s.heap.IsSliceOf sl vl vu .none) (pl:Tf vl lo) (pu:Tf vu hi)
 (hw:HT.sIx items.size 0 lo=0/\HT.sIx items.size items.size hi=items.size) (h:Q (.ref t) s):wpAny (Oi prog w) A (Q7 (.ref t) (.ref sl)) Q E s:=by
 obtain ⟨os,hos,hcs,hds⟩:=id hs
 have hTs:s.TypeIs (.ref sl) "slice":=⟨os,hos,hcs⟩
 unfold Q7
 try with_reducible refine Qp ?_
 first | refine NP (wpAny_pure ?_) | skip
 refine NP (SH ht.typeIs (by decide) ?_)
 refine NP (OW (name:=NR "__getitem__") ht.typeIs OH
  (PK OH ht.typeIs Sa ?_ (Sv _ _)))
 show wpAny _ _ (Qw (.ref t) >>= _) _ _ s
 refine NP (UA ht ?_)
 refine NP (SW hTs ?_)
 rw[if_pos (by decide)]
 refine NP (HT.gB hs pl pu ?_)
 have hno:(((HT.sIx items.size 0 lo:Nat):Int)==0&&(1:Int)==1&&(HT.sIx items.size items.size hi - HT.sIx items.size 0 lo)==items.size)=true:=by
  rw[hw.1,hw.2];simp
 show wpAny _ _ (if (((HT.sIx items.size 0 lo:Nat):Int)==0&&(1:Int)==1&&(HT.sIx items.size items.size hi - HT.sIx items.size 0 lo)==items.size)=true then _ else _) _ _ s
 rw[if_pos hno]
 unfold Builtin.Tuple.tupleIsExact
 refine NP (NP (SW ht.typeIs (wpAny_pure ?_)))
 rw[if_pos (by decide)]
 refine NP (Up ?_)
 first
  | exact wpAny_pure ⟨_,rfl,wpAny_pure h⟩
  | exact wpAny_pure ⟨_,rfl,h⟩
  | exact NP (wpAny_pure (wpAny_pure ⟨_,rfl,wpAny_pure h⟩))
inductive rSl (P:Oc) (w:Oo) (K:NO) (v:V) (lo hi:Option Int) (H:Hp) (Q:VK):Prop where
 | mk (m:List N2) (h:BT.HH) (x:BT.W) (d b:BT.D) (R:RH K m H h) (rx:RW P w K m H v x) (e:BT.rd x h=some d) (e2:BT.pq d lo hi=some b) (p:Post P w K m H (.p b) h Q):rSl P w K v lo hi H Q
theorem RDs.cut {K:NO} (r:RDs K m H vs ds) (lo hi:Option Int):RDs K m H (qM vs lo hi) (BT.cut ds lo hi):=by
 unfold qM BT.cut
 rw[jQ,jQ,r.length]
 exact (r.drop _).take _
theorem wL {lo:Option Int} (h1:HT.sIx ds.length 0 lo=0) (h2:HT.sIx ds.length ds.length hi=ds.length):BT.cut ds lo hi=ds:=by
 unfold BT.cut
 rw[jQ,jQ,h1,h2]
 simp
theorem osl:SlR X (rSl X.prog X.w X.K):=by
 intro pins s σ H v v' vl vu lo hi sl Q I rv hs pl pu h
 obtain ⟨m,h,x,d,b,R,rx,e1,e2,post⟩:=h
 have r1:=dD R rx e1
 cases d<;>simp only[BT.pq] at e2<;>try contradiction
 ·cases e2
  obtain ⟨a,vs,rfl,ha,ra⟩:=r1.tup
  cases rv
  by_cases c:HT.sIx vs.length 0 lo=0/\HT.sIx vs.length vs.length hi=vs.length
  ·obtain ⟨its,q1,q2,_⟩:=I.tuple ha
   have hl:its.toArray.size=vs.length:=by rw[NV];exact q1.length.symm
   refine ⟨"tuple",_,PyProof.Rows.slot_tuple_getitem.lookup,q2.typeIs,nK q2 hs pl pu (by rw[hl];exact c) ⟨.ref a,H,I,rfl,?_⟩⟩
   cases r1 with
   | d r =>
    refine post.here R ?_
    rw[wL (by rw[← ra.length];exact c.1) (by rw[← ra.length];exact c.2)]
    exact r
  ·exact EJ pins s σ H (.ref a) (.ref a) vl vu lo hi sl Q I rfl hs pl pu ⟨a,vs,rfl,ha,c,fun p hp=>i8 R hp (ra.cut lo hi) post⟩
 ·cases e2
  obtain ⟨a,vs,rfl,ha,ra⟩:=r1.lst
  exact Be pins s σ H _ _ vl vu lo hi sl Q I rv hs pl pu ⟨a,vs,rfl,ha.sq,fun p hp=>i9 R hp (ra.cut lo hi) post⟩
end
theorem rm (m:BT.Me) (d:BT.D) (as:List BT.W) (h:BT.HH):BT.meW m (.p d) as h=(match BT.dj as with | some ds=>(BT.meD m d ds).map fun x=>(.p x,h) | none=>none):=by cases m<;>rfl
section
inductive rMe (P:Oc) (w:Oo) (K:NO) (me:BT.Me) (v:V) (vs:List V) (H:Hp) (Q:VK):Prop where
 | mk (m:List N2) (h:BT.HH) (x:BT.W) (ws:List BT.W) (z:BT.W) (h':BT.HH) (R:RH K m H h) (rx:RW P w K m H v x) (rs:RWs P w K m H vs ws) (e:BT.meW me x ws h=some (z,h')) (p:Post P w K m H z h' Q):rMe P w K me v vs H Q
theorem getD_some {α:Type}{xs:List α}{n:Nat}{a:α} (h:xs[n]?=some a):n < xs.length:=by
 rcases OU n xs.length with z | z
 ·exact z
 ·rw[Og z] at h;exact cR h
theorem wM:MtR X "list.append" (rMe X.prog X.w X.K .append):=by
 intro pins s σ H v vs v' us Q I rv rus h
 obtain ⟨m,h,x,ws,z,h',R,rx,rws,e,post⟩:=h
 cases x with
 | p d=>cases ws with
  | nil=>exact cR e
  | cons _ _=>rw[rm] at e;split at e<;>(try exact cR e)
 | k kvs=>(first | exact cR e | simp[BT.meW] at e)
 | c _ _=>(first | exact cR e | simp[BT.meW] at e)
 | x _=>(first | exact cR e | simp[BT.meW] at e)
 | o kvs=>(first | exact cR e | simp[BT.meW] at e)
 | r n =>
  cases rws with
  | nil=>(first | exact cR e | simp[BT.meW] at e)
  | @cons y wy _ _ ry t =>
   cases t with
   | cons _ _=>cases ry<;>(first | exact cR e | simp[BT.meW] at e)
   | nil =>
    cases ry with
    | r _=>(first | exact cR e | simp[BT.meW] at e)
    | k _ _=>(first | exact cR e | simp[BT.meW] at e)
    | kl _ _=>(first | exact cR e | simp[BT.meW] at e)
    | c _ _=>(first | exact cR e | simp[BT.meW] at e)
    | x _=>(first | exact cR e | simp[BT.meW] at e)
    | g _ _=>(first | exact cR e | simp[BT.meW] at e)
    | o _=>(first | exact cR e | simp[BT.meW] at e)
    | p ry =>
     rw[BT.sP] at e
     cases g:BT.lat h n with
     | none=>rw[g] at e;exact cR e
     | some xs =>
      rw[g] at e
      simp only at e
      obtain ⟨c,e⟩:=c6 e
      cases e
      cases rx with
      | @r a _ hn =>
       obtain ⟨us',hH,r⟩:=R.cell n a xs hn g
       have:=fy
       have hl:=r.length
       exact wo pins s σ H _ _ _ _ Q I rv rus ⟨a,us',y,rfl,rfl,hH,by lia,post _ _ m (gE (Oe hn) hH) (R.set hn hH (r.append (.cons ry .nil))) (.p .non)⟩
theorem yX {α:Type}{xs:List α}{d:α} (h:xs.getLast?=some d):xs[xs.length - 1]?=some d:=by rw[← List.getLast?_eq_getElem?];exact h
theorem FG:MtR X "list.pop" (rMe X.prog X.w X.K .pop):=by
 intro pins s σ H v vs v' us Q I rv rus h
 obtain ⟨m,h,x,ws,z,h',R,rx,rws,e,post⟩:=h
 cases x with
 | p d=>cases ws with
  | nil=>exact cR e
  | cons _ _=>rw[rm] at e;split at e<;>(try exact cR e)
 | k kvs=>(first | exact cR e | simp[BT.meW] at e)
 | c _ _=>(first | exact cR e | simp[BT.meW] at e)
 | x _=>(first | exact cR e | simp[BT.meW] at e)
 | o kvs=>(first | exact cR e | simp[BT.meW] at e)
 | r n =>
  cases rws with
  | cons _ _=>(first | exact cR e | simp[BT.meW] at e)
  | nil =>
   rw[BT.Bo] at e
   cases g:BT.lat h n with
   | none=>rw[g] at e;exact cR e
   | some xs =>
    rw[g] at e
    simp only at e
    cases gl:xs.getLast? with
    | none=>rw[gl] at e;exact cR e
    | some d =>
     rw[gl] at e
     cases e
     cases rx with
     | @r a _ hn =>
      obtain ⟨us',hH,r⟩:=R.cell n a xs hn g
      have hl:=r.length
      obtain ⟨y,hy,ry⟩:=r.get (yX gl)
      have x1:Ext m H m (upd H a (.lst us'.dropLast)):=gE (Oe hn) hH
      exact ER pins s σ H _ _ _ _ Q I rv rus ⟨a,us',y,rfl,rfl,hH,by rw[hl];exact hy,post _ _ m x1 (R.set hn hH r.dropLast) (.p (ry.ext x1))⟩
theorem yY (I:Inv X pins σ H s) (hH:H l=some (.lst xs)) (hB:LL X.K H b zs) (hz:xs.length+zs.length<=sizeLine) (q:Q .non (upd H l (.lst (xs++zs)))) :
 wpAny (Oi X.prog X.w) X.A (call (.builtin "list.extend") [.ref l,.ref b]) (EP X pins σ Q) X.xe s:=by
 obtain ⟨z,its,n,r,hl,e⟩:=I.Bg hH
 obtain ⟨z2,its2,n2,r2,hl2,e2⟩:=rdL I hB
 have hsz:its.toArray.size+its2.toArray.size<=sizeLine:=by rw[NV,NV];lia
 have hlong:¬ (!its.toArray.isEmpty&&O0 (its.toArray.size+its2.toArray.size))=true:=by
  rw[mh hsz,Bool.and_false]
  exact OG
 refine Pj F.slot_list_extend ⟨_,e,rfl⟩ F.entry_list_extend (F.args_list_extend_2 _ _)
  (AutoSeq1.list_extend_list_list_0 l its.toArray n b its2.toArray n2 hlong (by rw[NV];lia) (by lia)) ⟨e,e2,?_⟩
 refine ⟨.non,_,I.Bf (its':=its++its2) hH e (by simp) (r.append r2) ?_,rfl,q⟩
 rw[Oa]
 lia
theorem BK (I:Inv X pins σ H s) (hH:H l=some (.lst xs)) (hB:SqT X.K H b zs) (hz:xs.length+zs.length<=sizeLine) (q:Q .non (upd H l (.lst (xs++zs)))) :
 wpAny (Oi X.prog X.w) X.A (call (.builtin "list.extend") [.ref l,.ref b]) (EP X pins σ Q) X.xe s:=by
 obtain ⟨z,its,n,r,hl,e⟩:=I.Bg hH
 obtain ⟨its2,r2,p2,_⟩:=I.tuple hB
 obtain ⟨⟨cls,dd,data,sl⟩,e2,hc,n2,hd⟩:=id p2
 simp only at hc hd
 subst hc hd
 have hl2:=r2.length
 have hsz:its.toArray.size+its2.toArray.size<=sizeLine:=by rw[NV,NV];lia
 have hlong:¬ (!its.toArray.isEmpty&&O0 (its.toArray.size+its2.toArray.size))=true:=by
  rw[mh hsz,Bool.and_false]
  exact OG
 refine Pj F.slot_list_extend ⟨_,e,rfl⟩ F.entry_list_extend (F.args_list_extend_2 _ _)
  (lA l its.toArray n b its2.toArray n2 dd sl hlong (by rw[NV];lia) (by lia)) ⟨e,e2,?_⟩
 refine ⟨.non,_,I.Bf (its':=its++its2) hH e (by simp) (r.append r2) ?_,rfl,q⟩
 rw[Oa]
 lia
theorem wN:MtR X "list.extend" (rMe X.prog X.w X.K .extend):=by
 intro pins s σ H v vs v' us Q I rv rus h
 obtain ⟨m,h,x,ws,z,h',R,rx,rws,e,post⟩:=h
 cases x with
 | p d=>cases ws with
  | nil=>exact cR e
  | cons _ _=>rw[rm] at e;split at e<;>(try exact cR e)
 | k kvs=>(first | exact cR e | simp[BT.meW] at e)
 | c _ _=>(first | exact cR e | simp[BT.meW] at e)
 | x _=>(first | exact cR e | simp[BT.meW] at e)
 | o kvs=>(first | exact cR e | simp[BT.meW] at e)
 | r n =>
  cases rws with
  | nil=>(first | exact cR e | simp[BT.meW] at e)
  | @cons y wy _ _ ry t =>
   cases t with
   | cons _ _=>(first | exact cR e | simp[BT.meW] at e)
   | nil =>
    rw[BT.sR] at e
    cases g:BT.lat h n with
    | none=>rw[g] at e;exact cR e
    | some xs =>
     cases g2:(BT.rd wy h).bind BT.pC with
     | none=>rw[g,g2] at e;exact cR e
     | some ys =>
      rw[g,g2] at e
      simp only at e
      obtain ⟨c,e⟩:=c6 e
      cases e
      obtain ⟨d,e1,e2⟩:=Option.bind_eq_some_iff.mp g2
      have r2:=dD R ry e1
      cases rx with
      | @r a _ hn =>
       obtain ⟨us',hH,r⟩:=R.cell n a xs hn g
       cases rv
       obtain ⟨u,rfl,ru⟩:=rus.one
       have:=fy
       have hl:=r.length
       cases d<;>simp only[BT.pC] at e2<;>try contradiction
       ·cases e2
        obtain ⟨b,vb,rfl,hb,rb⟩:=r2.tup
        cases ru
        have hl2:=rb.length
        exact BK I hH hb (by lia) (post _ _ m (gE (Oe hn) hH) (R.set hn hH (r.append rb)) (.p .non))
       ·cases e2
        obtain ⟨b,vb,rfl,hb,rb⟩:=r2.lst
        cases ru
        have hl2:=rb.length
        exact yY I hH hb (by lia) (post _ _ m (gE (Oe hn) hH) (R.set hn hH (r.append rb)) (.p .non))
theorem RWs.pure {K:NO}:∀ {vs:List V}{ws:List BT.W}{ds:List BT.D},RWs P w K m H vs ws->BT.dj ws=some ds->RDs K m H vs ds:=by
 intro vs ws
 induction ws generalizing vs with
 | nil =>
  intro ds r e
  cases r
  cases e
  exact .nil
 | cons x ws ih =>
  intro ds r e
  cases r with
  | cons r t =>
   cases r with
   | p r =>
    simp only[BT.dj] at e
    obtain ⟨q,e1,e2⟩:=cY e
    subst e2
    exact .cons r (ih t e1)
   | _=>exact cR e
theorem jz:∀ {ds:List BT.D}{k j:Nat},BT.iL x ds k=some j->∃ i,j=k+i/\∃ (hi:i < ds.length),BT.eqv ds[i] x=true/\∀ m (hm:m < ds.length),m < i->BT.eqv ds[m] x=false
 | [],_,_,e=>by exact cR e
 | y :: r,k,j,e=>by
  simp only[BT.iL] at e
  split at e
  ·rename_i c
   cases e
   exact ⟨0,rfl,by simp,c,fun m _ h=>by lia⟩
  ·rename_i c
   obtain ⟨i,rfl,hi,h1,h2⟩:=jz e
   refine ⟨i+1,by lia,by simp;lia,by simpa using h1,fun m hm hlt=>?_⟩
   cases m with
   | zero=>simpa using c
   | succ m=>simpa using h2 m (by simpa using hm) (by lia)
theorem jc (I:Inv X pins σ H s):∀ {vs:List V}{ds:List BT.D}{us:List NS},RDs X.K m H vs ds->cX vs us->∀ (i:Nat) (h1:i < us.length) (h2:i < ds.length),eN s.heap (pd d) us[i]=BT.eqv ds[i] d
 | _,_,_,.nil,q=>by cases q;intro i h1;simp at h1
 | _,_,_,.cons r t,q=>by
  cases q with
  | cons q1 q2 =>
   intro i h1 h2
   cases i with
   | zero =>
    obtain ⟨as,ra⟩:=iR I r q1
    simp only[List.getElem_cons_zero]
    rw[tH ra (fX r),mQ]
   | succ i=>simpa using jc I t q2 i (by simpa using h1) (by simpa using h2)
theorem wO (hu:X.A.units+150 < cLine):MtR X "tuple.index" (rMe X.prog X.w X.K .tindex):=by
 intro pins s σ H v vs v' us Q I rv rus h
 obtain ⟨m,h,x,ws,z,h',R,rx,rws,e,post⟩:=h
 cases x with
 | r n=>cases ws with
  | nil=>(first | exact cR e | simp[BT.meW] at e)
  | cons _ _=>(first | exact cR e | simp[BT.meW] at e)
 | k kvs=>(first | exact cR e | simp[BT.meW] at e)
 | c _ _=>(first | exact cR e | simp[BT.meW] at e)
 | x _=>(first | exact cR e | simp[BT.meW] at e)
 | o kvs=>(first | exact cR e | simp[BT.meW] at e)
 | p d =>
  rw[BT.mw] at e
  cases g:BT.dj ws with
  | none=>rw[g] at e;exact cR e
  | some ds =>
   rw[g] at e
   obtain ⟨b,e1,e2⟩:=cY e
   cases e2
   have rds:=rws.pure g
   cases d<;>first | exact cR e1 | skip
   rename_i xs
   cases ds with
   | nil=>exact cR e1
   | cons d0 dr =>
    cases dr with
    | cons _ _=>exact cR e1
    | nil =>
     rw[BT.EX] at e1
     split at e1
     ·rename_i c
      obtain ⟨j,e3,e4⟩:=cY e1
      subst e4
      obtain ⟨i,rfl,hi,h1,h2⟩:=jz e3
      cases rds with
      | cons r0 rn =>
       cases rn
       obtain ⟨u,rfl,ru⟩:=rus.one
       cases rx with
       | p rx =>
        obtain ⟨a,vt,rfl,ha,ra⟩:=RR.tup (.d rx)
        cases rv
        obtain ⟨its,q1,q2,_⟩:=I.tuple ha
        obtain ⟨⟨cls,dd,data,sl⟩,ho,hc,n,hd⟩:=id q2
        simp only at hc hd
        subst hc hd
        have hl:=q1.length
        have hl2:=ra.length
        have hi':i < its.toArray.size:=by rw[NV];lia
        refine Pj F.slot_tuple_index ⟨_,ho,rfl⟩ F.entry_tuple_index (F.args_tuple_index_2 _ _)
         (nJ a its.toArray n dd sl u (eN s.heap (pd d0)) i hi' ?_ ?_) ⟨ho,?_,?_⟩
        ·rw[show its.toArray[i]=its[i]'(by lia) by simp,jc I ra q1 i (by lia) hi];exact h1
        ·intro k hk hlt
         have hk':k < its.length:=by simpa using hk
         rw[show its.toArray[k]=its[k]'hk' by simp,jc I ra q1 k hk' (by lia)];exact h2 k (by lia) hlt
        ·intro y hy
         exact gn hu I (.d r0) ru ra q1 c y (by simpa using hy)
        ·refine ⟨.int (((0+i:Nat):Nat):Int),H,I.tok _,⟨s.toks,?_⟩,post.here R (.int _)⟩
         simp
     ·exact cR e1
theorem wQ:MtR X "str.index" (rMe X.prog X.w X.K .sindex):=by
 intro pins s σ H v vs v' us Q I rv rus h
 obtain ⟨m,h,x,ws,z,h',R,rx,rws,e,post⟩:=h
 cases x with
 | r n=>cases ws with
  | nil=>(first | exact cR e | simp[BT.meW] at e)
  | cons _ _=>(first | exact cR e | simp[BT.meW] at e)
 | k kvs=>(first | exact cR e | simp[BT.meW] at e)
 | c _ _=>(first | exact cR e | simp[BT.meW] at e)
 | x _=>(first | exact cR e | simp[BT.meW] at e)
 | o kvs=>(first | exact cR e | simp[BT.meW] at e)
 | p d =>
  rw[BT.mz] at e
  cases g:BT.dj ws with
  | none=>rw[g] at e;exact cR e
  | some ds =>
   rw[g] at e
   obtain ⟨b,e1,e2⟩:=cY e
   cases e2
   have rds:=rws.pure g
   cases d<;>first | exact cR e1 | skip
   cases ds with
   | nil=>exact cR e1
   | cons d0 dr =>
    cases dr with
    | cons _ _=>cases d0<;>exact cR e1
    | nil =>
     cases d0<;>first | exact cR e1 | skip
     rename_i x y
     rw[BT.EY] at e1
     cases ho:O4 x y 0 x.length 1 with
     | nil=>rw[ho] at e1;exact cR e1
     | cons j rest =>
      rw[ho] at e1
      cases e1
      cases rds with
      | cons r0 rn =>
       cases rn
       cases r0
       obtain ⟨u,rfl,t0,rfl⟩:=rus.one
       cases rx with
       | p rx =>
        cases rx
        obtain ⟨t,rfl⟩:=rv
        exact call_gives F.slot_str_index (typeIs_str s x t) F.entry_str_index (F.args_str_index_2 _ _) (gives_str_index x y t t0 j rest ho) ⟨.int j,H,I.tok _,⟨_,rfl⟩,post.here R (.int _)⟩
end
section
inductive rBi (P:Oc) (w:Oo) (K:NO) (b:BT.Bi) (mu:Bool) (vs:List V) (H:Hp) (Q:VK):Prop where
 | mk (m:List N2) (h:BT.HH) (ws:List BT.W) (z:BT.W) (h':BT.HH) (R:RH K m H h) (rs:RWs P w K m H vs ws) (e:BT.kBi b mu ws h=some (z,h')) (p:Post P w K m H z h' Q):rBi P w K b mu vs H Q
inductive RRs (K:NO) (m:List N2) (H:Hp):List V->List BT.D->Prop where
 | nil:RRs K m H [] []
 | cons {v:V}{d:BT.D}{vs:List V}{ds:List BT.D} (r:RR K m H v d) (t:RRs K m H vs ds):RRs K m H (v :: vs) (d :: ds)
theorem fL {K:NO} (R:RH K m H h):∀ {vs:List V}{ws:List BT.W}{ds:List BT.D},RWs P w K m H vs ws->BT.rds ws h=some ds->RRs K m H vs ds
 | _,_,_,.nil,e=>by cases e;exact .nil
 | _,_,_,.cons r t,e=>by
  simp only[BT.rds] at e
  obtain ⟨d,e1,e2⟩:=Option.bind_eq_some_iff.mp e
  obtain ⟨q,e3,e4⟩:=cY e2
  subst e4
  exact .cons (dD R r e1) (fL R t e3)
inductive BiI (b:BT.Bi) (mu:Bool) (ws:List BT.W) (h:BT.HH) (z:BT.W) (h':BT.HH):Prop where
 | mk (ds:List BT.D) (d:BT.D) (h1:BT.rds ws h=some ds) (h2:BT.biD b ds=some d) (h3:(mu=false/\z=.p d/\h'=h)\/∃ xs,mu=true/\d=.lst xs/\z=.r h.length/\h'=h++[.l xs]):BiI b mu ws h z h'
theorem jA (e:BT.kBi b mu ws h=some (z,h')):BiI b mu ws h z h':=by
 unfold BT.kBi at e
 cases e1:BT.rds ws h with
 | none=>rw[e1] at e;exact cR e
 | some ds =>
  rw[e1] at e
  simp only at e
  cases e2:BT.biD b ds with
  | none=>rw[e2] at e;exact cR e
  | some d =>
   rw[e2] at e
   simp only at e
   cases mu with
   | false=>cases e;exact ⟨ds,d,e1,e2,.inl ⟨rfl,rfl,rfl⟩⟩
   | true =>
    simp only[if_true] at e
    cases d<;>simp only at e<;>try contradiction
    cases e
    exact ⟨ds,_,e1,e2,.inr ⟨_,rfl,rfl,rfl,rfl⟩⟩
theorem RRs.one {K:NO}{m:List N2}{H:Hp}{vs:List V}{d:BT.D} (r:RRs K m H vs [d]):∃ v,vs=[v]/\RR K m H v d:=by
 cases r with
 | cons r t=>cases t;exact ⟨_,rfl,r⟩
theorem FH:eH X (.builtin "len") (rBi X.prog X.w X.K .len false):=by
 intro pins s σ H vs us Q I rus h
 obtain ⟨m,h,ws,z,h',R,rws,e,post⟩:=h
 obtain ⟨ds,d,e1,e2,⟨_,rfl,rfl⟩ | ⟨_,q,_⟩⟩:=jA e
 ·have rr:=fL R rws e1
  match ds,e2 with
  | [.tup xs],e2 =>
   cases e2
   obtain ⟨v,rfl,r⟩:=rr.one
   obtain ⟨a,vt,rfl,ha,ra⟩:=r.tup
   exact jK pins s σ H _ us Q I rus ⟨a,vt,rfl,.inr ha,by rw[ra.length];exact post.here R (.int _)⟩
  | [.lst xs],e2 =>
   cases e2
   obtain ⟨v,rfl,r⟩:=rr.one
   obtain ⟨a,vt,rfl,ha,ra⟩:=r.lst
   exact jK pins s σ H _ us Q I rus ⟨a,vt,rfl,.inl ha.sq,by rw[ra.length];exact post.here R (.int _)⟩
  | [.str x],e2 =>
   rw[BT.kB] at e2
   split at e2
   ·rename_i c
    cases e2
    obtain ⟨v,rfl,r⟩:=rr.one
    obtain ⟨rfl,_⟩:=r.str
    have:=fy
    exact o8 pins s σ H _ us Q I rus ⟨x,rfl,by lia,post.here R (.int _)⟩
   ·exact cR e2
 ·exact BT.dN q
theorem FI:eH X (.builtin "abs") (rBi X.prog X.w X.K .abs false):=by
 intro pins s σ H vs us Q I rus h
 obtain ⟨m,h,ws,z,h',R,rws,e,post⟩:=h
 obtain ⟨ds,d,e1,e2,⟨_,rfl,rfl⟩ | ⟨_,q,_⟩⟩:=jA e
 ·have rr:=fL R rws e1
  match ds,e2 with
  | [.int i],e2 =>
   cases e2
   obtain ⟨v,rfl,r⟩:=rr.one
   cases r.int
   exact x6 pins s σ H _ us Q I rus ⟨i,rfl,post.here R (.int _)⟩
 ·exact BT.dN q
theorem FJ:eH X (.type "int") (rBi X.prog X.w X.K .int false):=by
 intro pins s σ H vs us Q I rus h
 obtain ⟨m,h,ws,z,h',R,rws,e,post⟩:=h
 obtain ⟨ds,d,e1,e2,⟨_,rfl,rfl⟩ | ⟨_,q,_⟩⟩:=jA e
 ·have rr:=fL R rws e1
  match ds,e2 with
  | [.int i],e2 =>
   cases e2
   obtain ⟨v,rfl,r⟩:=rr.one
   cases r.int
   exact nX pins s σ H _ us Q I rus (.inl ⟨i,rfl,post.here R (.int _)⟩)
  | [.bl i],e2 =>
   cases e2
   obtain ⟨v,rfl,r⟩:=rr.one
   cases r.bl
   exact nX pins s σ H _ us Q I rus (.inr ⟨i,rfl,post.here R (.int _)⟩)
 ·exact BT.dN q
theorem uO:eH X (.type "list") (rBi X.prog X.w X.K .list mu):=by
 intro pins s σ H vs us Q I rus h
 obtain ⟨m,h,ws,z,h',R,rws,e,post⟩:=h
 obtain ⟨ds,d,e1,e2,hz⟩:=jA e
 have rr:=fL R rws e1
 have fin:∀ {p:N2}{vt:List V}{xs:List BT.D},d=.lst xs->H p=none->RDs X.K m H vt xs->Q (.ref p) (upd H p (.lst vt)):=by
  intro p vt xs ed hp r
  rcases hz with ⟨_,rfl,rfl⟩ | ⟨ys,_,e3,rfl,rfl⟩
  ·subst ed;exact i9 R hp r post
  ·rw[ed] at e3;cases e3;exact uM R hp r post
 match ds,e2 with
 | [.tup xs],e2 =>
  cases e2
  obtain ⟨v,rfl,r⟩:=rr.one
  obtain ⟨a,vt,rfl,ha,ra⟩:=r.tup
  exact jL pins s σ H _ us Q I rus ⟨a,vt,rfl,.inr ha,fun p hp=>fin rfl hp ra⟩
 | [.lst xs],e2 =>
  cases e2
  obtain ⟨v,rfl,r⟩:=rr.one
  obtain ⟨a,vt,rfl,ha,ra⟩:=r.lst
  exact jL pins s σ H _ us Q I rus ⟨a,vt,rfl,.inl ha.sq,fun p hp=>fin rfl hp ra⟩
theorem jR {K:NO}:∀ {ns:List Int}{vs:List V},RDs K m H vs (ns.map BT.D.int)->vs=ns.map V.int
 | [],vs,r=>by cases r;rfl
 | n :: ns,vs,r=>by
  cases r with
  | cons r t=>cases r;rw[jR t];rfl
theorem yZ:eH X (.type "tuple") (rBi X.prog X.w X.K .tuple false):=by
 intro pins s σ H vs us Q I rus h
 obtain ⟨m,h,ws,z,h',R,rws,e,post⟩:=h
 obtain ⟨ds,d,e1,e2,⟨_,rfl,rfl⟩ | ⟨_,q,_⟩⟩:=jA e
 ·have rr:=fL R rws e1
  match ds,e2 with
  | [.tup xs],e2 =>
   cases e2
   obtain ⟨v,rfl,r⟩:=rr.one
   obtain ⟨a,vt,rfl,ha,ra⟩:=r.tup
   refine jo pins s σ H _ us Q I rus ⟨a,vt,rfl,.inr ⟨ha,?_⟩⟩
   cases r with
   | d r=>exact post.here R r
  | [.lst xs],e2 =>
   cases e2
   obtain ⟨v,rfl,r⟩:=rr.one
   obtain ⟨a,vt,rfl,ha,ra⟩:=r.lst
   exact jo pins s σ H _ us Q I rus ⟨a,vt,rfl,.inl ⟨ha.sq,fun p hp=>i8 R hp ra post⟩⟩
 ·exact BT.dN q
noncomputable def tyD:BT.D->String
 | .non=>"NoneType"
 | .bl _=>"bool"
 | .int _=>"int"
 | .str _=>"str"
 | .tup _=>"tuple"
 | .lst _=>"list"
theorem BN {E:NS->NT->Prop}
 (I:Inv X pins σ H s) (r:RR X.K m H v d) (rv:RelV v u) (e:Pf X.K (.type (tyD d)) (.type c)=some b) (h:∀ tk,Q (.bool b) { s with toks:=tk }) :
 wpAny (Oi X.prog X.w) A (call (.builtin "isinstance") [u,.type c]) Q E s:=by
 cases d with
 | non=>cases r.non;cases rv;exact P9 PySem.W.kitx_none I.kIn P8 e (fun z=>nomatch z) h
 | bl y=>cases r.bl;cases rv;exact P9 PySem.W.kitx_bool I.kIn P8 e (fun z=>nomatch z) h
 | int i=>cases r.int;obtain ⟨t,rfl⟩:=rv;exact P9 PySem.W.kitx_int I.kIn P8 e (fun z=>nomatch z) h
 | str y=>obtain ⟨rfl,_⟩:=r.str;obtain ⟨t,rfl⟩:=rv;exact P9 PySem.W.kitx_str I.kIn P8 e (fun z=>nomatch z) h
 | tup xs =>
  obtain ⟨a,vt,rfl,ha,_⟩:=r.tup
  cases rv
  obtain ⟨its,_,⟨o,h1,h2,_⟩,_⟩:=I.tuple ha
  exact P9 PySem.W.kitx_tuple I.kIn ⟨o,h1,h2⟩ e (fun z=>nomatch z) h
 | lst xs =>
  obtain ⟨a,vt,rfl,ha,_⟩:=r.lst
  cases rv
  obtain ⟨_,its,n,_,_,h1⟩:=rdL I ha
  exact P9 PySem.W.kitx_list I.kIn ⟨_,h1,rfl⟩ e (fun z=>nomatch z) h
theorem za (K:NO) (t:String):Pf K (.type t) (.type t)=some true:=by
 unfold Pf
 rw[if_pos (by simp)]
theorem zb (h:q8 b=some (c,f)) (d:BT.D):BT.biD b [d]=some (.bl (f d)):=by
 cases b<;>simp only[q8] at h<;>try contradiction
 all_goals (cases h;rfl)
theorem zc (h:q8 b=some (c,f)) (K:NO) (d:BT.D):Pf K (.type (tyD d)) (.type c)=some (f d):=by
 cases b<;>simp only[q8] at h<;>try contradiction
 all_goals (cases h;cases d)
 all_goals first
  | exact za K _
  | (simp only[tyD];unfold Pf;rw[if_neg (by decide)];unfold PySem.W.kitCls;first | rfl | kernel_rfl | decide +kernel)
end
end BS
end
section
namespace BX
open PySem PySem.Spec PyProof.Rows
section
variable {prog:Oc}{w:Oo}{A:ON}{R:Result->NT->Prop}{I:N2}{fp wr:List N2}{n:Nat}{P:Nat->NS->Prop}{St:Nat->Heap->Prop}{kw:List (Str×NS)}
end
end BX
end
section
namespace BS
open PySem PySem.Spec PyProof.Rows L2
noncomputable abbrev FT:=BT.FK->List BT.W->BT.HH->Option (BT.W×BT.HH)
inductive spF (P:Oc) (w:Oo) (K:NO) (g:List BT.W->BT.HH->Option (BT.W×BT.HH)) (vs:List V) (H:Hp) (Q:VK) (E:XK):Prop where
 | mk (m:List N2) (ws:List BT.W) (h:BT.HH) (z:BT.W) (h':BT.HH) (R:RH K m H h) (r:RWs P w K m H vs ws) (e:g ws h=some (z,h')) (p:Post P w K m H z h' Q):spF P w K g vs H Q E
inductive tD (X:Cx) (F:FT) (G:Str->Option BT.W) (e:BT.E) (σ:L2.St) (H:Hp) (Q:VK):Prop where
 | mk (m:List N2) (s:BT.Sl) (h:BT.HH) (z:BT.W) (h':BT.HH) (R:RH X.K m H h) (S:RS X.prog X.w X.K m H σ s) (q:BT.ev F G e s h=some (z,h')) (p:Post X.prog X.w X.K m H z h' Q):tD X F G e σ H Q
inductive tDs (X:Cx) (F:FT) (G:Str->Option BT.W) (es:BT.Es) (σ:L2.St) (H:Hp) (Q:List V->Hp->Prop):Prop where
 | mk (m:List N2) (s:BT.Sl) (h:BT.HH) (zs:List BT.W) (h':BT.HH) (R:RH X.K m H h) (S:RS X.prog X.w X.K m H σ s) (q:BT.evs F G es s h=some (zs,h')) (p:∀ vs H' m',Ext m H m' H'->RH X.K m' H' h'->RWs X.prog X.w X.K m' H' vs zs->Q vs H'):tDs X F G es σ H Q
inductive tDT (X:Cx) (F:FT) (G:Str->Option BT.W) (e:BT.E) (σ:L2.St) (H:Hp) (Q:Bool->Hp->Prop):Prop where
 | mk (m:List N2) (s:BT.Sl) (h:BT.HH) (b:Bool) (h':BT.HH) (R:RH X.K m H h) (S:RS X.prog X.w X.K m H σ s) (q:BT.ev F G e s h=some (.p (.bl b),h')) (p:∀ H' m',Ext m H m' H'->RH X.K m' H' h'->Q b H'):tDT X F G e σ H Q
noncomputable def rA (P:Oc) (w:Oo) (K:NO) (mg:Str->Option NS) (base:Heap) (k L:Nat) (g:List BT.W->BT.HH->Option (BT.W×BT.HH)):Prop :=
 ∀ (A:ON) (outer:List Env) (s:NT) (H:Hp) (f:N2) (us:List NS) (vs cvs:List V) (m:List N2) (ws:List BT.W) (cs:List BT.Cp) (h:BT.HH) (z:BT.W) (h':BT.HH) (Q:VK) (E:XK),eV k A->o4 P w K mg base A outer s H->cX vs us →
  RH K m H h->RWs P w K m H vs ws->BT.noC ws=true->jN m H f L cvs->RCs K m H cvs cs->g (ws++cs.map BT.Cp.w) h=some (z,h')->Post P w K m H z h' Q->codeAny (Oi P w) A (.call (.ref f) ⟨us,[]⟩) (CR CX0 outer P w H s Q E) s
structure LX (X:Cx) (x:Str):Prop where
 mem:x∈BT.gk
 ex:∃ c P,Pe X.K x=some (c,P)/\X.env.code=.ref c/\PySem.W.CodeHd X.base c P/\∀ y∈BT.gk,∀ c2,Pe X.K y=some (c2,P)->y=x
 ql:X.env.qual=x++".<locals>."
 bm:∃ bm ob,X.mg "__builtins__"=some (.ref bm)/\bm≠Qi/\X.base.get? bm=some ob/\ob.cls=.type "module"/\ob.dict=some Qi/\ob.data=.plain
noncomputable def JF:List Str:=["len","abs","int","list","tuple","isinstance","str","bool","range","reversed","enumerate","zip","min","max","sorted","sum","all","any","set","ValueError","dict"]
inductive OkC (P:Oc) (w:Oo) (K:NO) (mg:Str->Option NS) (base:Heap) (A:ON) (f:Str) (sp:Sp):Prop where
 | mk (fa:N2) (fd:Pu) (ps:List Str) (k:Nat) (h1:mg f=some (.ref fa)) (h2:OZ K (.ref fa)=true) (h3:Binds K fd ps []) (h4:eV k A) (h5:gP P w K mg base CX0 k fa fd ps sp):OkC P w K mg base A f sp
inductive OkM (P:Oc) (w:Oo) (K:NO) (mg:Str->Option NS) (base:Heap) (A:ON) (CX:CXT) (c m:Str) (sp:Sp):Prop where
 | mk (C g:N2) (fd:Pu) (ps:List Str) (k:Nat) (h1:oB K c C) (h2:yb K C m g) (h3:Binds K fd ps []) (h4:eV k A) (h5:gP P w K mg base CX k g fd ps sp):OkM P w K mg base A CX c m sp
inductive OkN (P:Oc) (w:Oo) (K:NO) (mg:Str->Option NS) (base:Heap) (A:ON) (c:Str) (sp:Sp):Prop where
 | mk (C g:N2) (fd:Pu) (ps:List Str) (k:Nat) (h1:oB K c C) (h2:mg c=some (.ref C)) (h3:Mk K C g) (h4:Binds K fd ps []) (h5:eV (k+1) A) (h6:gP P w K mg base CX0 k g fd ps sp):OkN P w K mg base A c sp
structure Ok (X:Cx) (F:FT) (G:Str->Option BT.W) (sc:OS) (N:List Str):Prop where
 hsc:X.env.scope=sc
 hN:X.N=N
 nd:X.N.Nodup
 calm:gm N=true->X.calm=true
 hu:X.A.units+150 < cLine
 own:PassesOwn (Oi X.prog X.w) X.A X.env X.xe
 glob:∀ x z,G x=some z->∃ u v,X.mg x=some u/\RelV v u/\∀ m H,RW X.prog X.w X.K m H v z
 call:∀ (f:Str) ws h r,F (.f f) ws h=some r->OkC X.prog X.w X.K X.mg X.base X.A f (spF X.prog X.w X.K (F (.f f)))
 meth:∀ (c m:Str) ws h r,F (.m c m) ws h=some r->OkM X.prog X.w X.K X.mg X.base X.A CX0 c m (spF X.prog X.w X.K (F (.m c m)))
 mkc:∀ (c:Str) ws h r,F (.m c "__init__") ws h=some r->OkN X.prog X.w X.K X.mg X.base X.A c (spF X.prog X.w X.K (F (.m c "__init__")))
 blt:∀ x∈JF,X.mg x=none
 lam:∀ (L:Nat) ws h r,F (.l L) ws h=some r->∃ k,eV k X.A/\rA X.prog X.w X.K X.mg X.base k L (F (.l L))
 lamx:(∀ x,X.fn x=true)->∀ x,N.contains (BT.f6 x)=true->LX X x
theorem PE.weak (h:PE X e t) (q:∀ σ H Q,t' σ H Q->t σ H Q):PE X e t':=fun pins s σ H Q I hw=>h pins s σ H Q I (q _ _ _ hw)
theorem PT.weak (h:PT X e t) (q:∀ σ H Q,t' σ H Q->t σ H Q):PT X e t':=fun pins s σ H Q I hw=>h pins s σ H Q I (q _ _ _ hw)
theorem PW.weak (h:PW X e t) (q:∀ σ H Q,t' σ H Q->t σ H Q):PW X e t':=fun wh pins s σ H Q I hw=>h wh pins s σ H Q I (q _ _ _ hw)
theorem PA.weak (h:PA X es t) (q:∀ σ H Q,t' σ H Q->t σ H Q):PA X es t':=fun pos pins s σ H Q I hw=>h pos pins s σ H Q I (q _ _ _ hw)
theorem cV (h:noStar e=true):Ow (e :: es) env=(false,eval e env) :: Ow es env:=by
 cases e<;>first | rfl | exact BT.dN h
theorem zd (h:lH b=true):uG b:=fun o i=>by
 cases b<;>first | rfl | exact BT.dN h
theorem jS (h:dh o=true):Rq o name env (eval o env)=eval o env:=by
 cases o with
 | Call fn as ks p =>
  cases fn with
  | Attribute _ _ _=>rfl
  | _=>exact BT.dN h
 | _=>first | rfl | exact cR h
noncomputable def cU:List NY->Bool
 | []=>true
 | e :: es=>noStar e&&cU es
theorem dw:∀ {es:List NY},cU es=true->(QC pos (Ow es env)).any (·.1)=false
 | [],_=>rfl
 | e :: es,h=>by
  simp only[cU,NX] at h
  rw[cV h.1]
  show (false||(QC pos (Ow es env)).any (·.1))=false
  rw[dw h.2];rfl
theorem iT:∀ {es:List NY},cU es=true->(QC pos (Ow es env)).all (fun x=>!x.1)=true
 | [],_=>rfl
 | e :: es,h=>by
  simp only[cU,NX] at h
  rw[cV h.1]
  show (!false&&(QC pos (Ow es env)).all (fun x=>!x.1))=true
  rw[iT h.2];rfl
noncomputable def JG:Tq->Prop
 | .es _ xs=>cU xs=true
 | _=>True
theorem ze (h:CQ sc N t):JG t:=by
 induction h with
 | es_nil=>exact rfl
 | es_cons hs _ _ _ ih =>
  show (noStar _&&cU _)=true
  rw[NX];exact ⟨hs,ih⟩
 | _=>exact P8
theorem gG (h:CEs sc N as es):cU es=true:=ze h
noncomputable def noM:Tq->Prop
 | .es (.cons _ _) []=>False
 | _=>True
theorem FL (h:CQ sc N t):noM t:=by
 induction h with
 | _=>exact P8
theorem mR (h:CEs sc N (.cons a r) []):False:=FL h
section
theorem pR (he:∀ s h,BT.ev F G e s h=BT.bnd (BT.ev F G a s h) (BT.k2 (BT.ev F G b s) f)) (σ:L2.St) (H:Hp) (Q:VK) (q:tD X F G e σ H Q) :
 tOp (rOp X.prog X.w X.K f) (tD X F G a) (tD X F G b) σ H Q:=by
 obtain ⟨m,s,h,z,h',R,S,ee,post⟩:=q
 rw[he] at ee
 obtain ⟨x,h1,e1,e2⟩:=cT ee
 simp only[BT.k2] at e2
 obtain ⟨y,h2,e3,e4⟩:=cT e2
 refine ⟨m,s,h,x,h1,R,S,e1,fun v H1 m1 x1 R1 r1=>?_⟩
 refine ⟨m1,s,h1,y,h2,R1,S.ext x1,e3,fun u H2 m2 x2 R2 r2=>?_⟩
 exact ⟨m2,h2,x,y,z,h',R2,r1.ext x2,r2,e4,fun w' H3 m3 x3 R3 r3=>post w' H3 m3 ((x1.trans x2).trans x3) R3 r3⟩
theorem mS (h:∀ σ H Q,tD X F G e σ H Q->t σ H Q) (σ:L2.St) (H:Hp) (Q:Bool->Hp->Prop) (q:tDT X F G e σ H Q):xX t σ H Q:=by
 obtain ⟨m,s,h0,b,h',R,S,ee,post⟩:=q
 refine h σ H _ ⟨m,s,h0,_,h',R,S,ee,fun v H' m' x R' r=>?_⟩
 cases r with
 | p r=>cases r;exact ⟨b,rfl,post H' m' x R'⟩
theorem opB (h:DQ o op=true):OpR X (Pc op) (rOp X.prog X.w X.K (BT.nH o)):=by
 rw[of_decide_eq_true h]
 cases o
 ·exact Fw
 ·exact Fx
 ·exact FA
 ·exact Fy
 ·exact BA
 ·exact Fz
theorem DV:∀ {es:List (Str×V)}{kvs:List (Str×BT.D)}{K:NO},RDk K es kvs->KV (es.map fun q=>((Sum.inr q.1:Key),q.2)) vs->(valueAt vs (Sum.inr k)).isSome=(BT.dB k kvs).isSome:=by
 intro es
 induction es generalizing vs with
 | nil =>
  intro kvs K r q
  cases r
  cases q
  rfl
 | cons p es ih =>
  intro kvs K r q
  cases r with
  | @cons x v dd _ kvs r t =>
   cases q with
   | @cons p z l1 l2 q1 q2 =>
    obtain ⟨z1,z2⟩:=z
    obtain ⟨q11,q12⟩:=q1
    simp only at q11 q12
    subst q11
    rw[BT.dB]
    by_cases c:k=x
    ·subst c
     simp[valueAt]
    ·rw[if_neg c]
     have ne:¬ ((Sum.inr x:Key)=Sum.inr k):=fun z=>c (Sum.inr.inj z).symm
     have:=ih t q2
     simp only[valueAt] at this ⊢
     rw[Rf (by simpa using ne)]
     exact this
theorem opC (O:Ok X F G sc N) (h:Bx o op=true):OpR X (OP op) (rOp X.prog X.w X.K (BT.ju o)):=by
 rw[of_decide_eq_true h]
 cases o
 ·exact JC O.hu
 ·exact JD O.hu
 ·exact pQ HX rfl rfl fun _ _=>rfl
 ·exact pQ HY rfl rfl fun _ _=>rfl
 ·exact pQ HZ rfl rfl fun _ _=>rfl
 ·exact pQ Ia rfl rfl fun _ _=>rfl
 ·exact FD
 ·exact BH
 ·refine FE O.hu ?_
  intro kvs x b m H v u v' u' pins σ s Q I rv ru rx rk e q
  cases kvs with
  | t kvs =>
   cases x with
   | p d =>
    cases d<;>first | exact cR e | skip
    obtain rfl:=N4 e
    cases rk with
    | @k a es _ kd rk =>
     cases ru
     cases rx with
     | p rx =>
      cases rx with
      | str x ok =>
       obtain ⟨t,rfl⟩:=rv
       obtain ⟨hm,vs,kv,dd⟩:=kd
       have D:=dd s.heap I.kIn
       refine wpAny_in_of (knd:=c8 X.prog X.w) (e9 _ _ _ t) hm D.mapOf ?_
       rw[DV rk kv]
       exact ⟨.bl _,H,I.tok _,rfl,q⟩
   | _=>exact cR e
  | l kvs =>
   cases x with
   | p d =>
    obtain ⟨k,g1,g2⟩:=cY (show (BT.nF d).map (fun k=>(BT.fc kvs k).isSome)=some b from e)
    subst g2
    cases rk with
    | @kl a ob ws _ hh rk =>
     cases ru
     cases rx with
     | p rx =>
      have ek:=yU rx g1
      subst ek
      cases tK I (.inr ⟨_,hh.1⟩) rk k with
      | no vs dd n g1 g2 =>
       refine wpAny_in_of (knd:=c8 X.prog X.w) (yo rv) n dd.mapOf ?_
       rw[g2]
       exact ⟨.bl _,H,I.tok _,rfl,by rw[g1] at q;exact q⟩
      | is vs dd n x v1 u1 g1 g2 g3 g4 =>
       refine wpAny_in_of (knd:=c8 X.prog X.w) (yo rv) n dd.mapOf ?_
       rw[g2]
       exact ⟨.bl _,H,I.tok _,rfl,by rw[g1] at q;exact q⟩
   | _=>exact cR e
 ·refine BI O.hu ?_
  intro kvs x b m H v u v' u' pins σ s Q I rv ru rx rk e q
  cases kvs with
  | t kvs =>
   cases x with
   | p d =>
    cases d<;>first | exact cR e | skip
    obtain rfl:=N4 e
    cases rk with
    | @k a es _ kd rk =>
     cases ru
     cases rx with
     | p rx =>
      cases rx with
      | str x ok =>
       obtain ⟨t,rfl⟩:=rv
       obtain ⟨hm,vs,kv,dd⟩:=kd
       have D:=dd s.heap I.kIn
       refine wpAny_notIn_of (knd:=c8 X.prog X.w) (e9 _ _ _ t) hm D.mapOf ?_
       rw[DV rk kv]
       exact ⟨.bl _,H,I.tok _,rfl,q⟩
   | _=>exact cR e
  | l kvs=>exact cR e
end
section
variable {X:Cx}{F:FT}{G:Str->Option BT.W}{sc:OS}{N:List Str}
theorem BP (O:Ok X F G sc N) (x:Str):X.env.kindOf x=sc.names.lookup x:=by rw[← O.hsc];rfl
theorem f7 (h:fu x=true):(x==("__debug__":Str))=false/\(x==("__classdict__":Str))=false/\x≠"__name__":=by
 simp only[fu,NX,Qn] at h
 exact ⟨h.1.1,h.1.2,fun e=>by rw[e] at h;simp at h⟩
theorem dU (O:Ok X F G sc N) (h:dR sc x=true):Gl X x:=by
 show X.env.kindOf x=_
 rw[BP O]
 exact eq_of_beq h
theorem FM (O:Ok X F G sc N) (h:q9 sc x=true):Vis X.env.scope x:=by
 rw[O.hsc]
 unfold q9 at h
 unfold Vis
 cases e:sc.names.lookup x with
 | none=>rw[e] at h;exact BT.dN h
 | some k=>rw[e] at h;cases k<;>first | (exact .inl rfl) | (exact .inr (.inl rfl)) | (exact .inr (.inr rfl)) | exact BT.dN h
theorem uP (O:Ok X F G sc N) (h2:N[i]?=some y) (h3:q9 sc y=true) (h4:fu y=true):PE X (.Name y pos) (tD X F G (.var i)):=by
 obtain ⟨d1,d2,_⟩:=f7 h4
 refine PE.weak (Ec (i:=i) (by rw[O.hN];exact h2) (FM O h3) d1 d2) fun σ H Q q=>?_
 obtain ⟨m,s,h,z,h',R,S,ee,post⟩:=q
 simp only[BT.ev] at ee
 split at ee
 ·rename_i w e
  cases ee
  obtain ⟨v,hv,r⟩:=S.get i _ e
  exact ⟨v,hv,post v H m (.refl _ _) R r⟩
 ·exact cR ee
theorem BQ (h:DR d c=true):PE X (.Constant c k pos) (tD X F G (.cst d)):=by
 have fin:∀ {v:V},(∀ m H,RD X.K m H v d)->∀ σ H Q,tD X F G (.cst d) σ H Q->tC v σ H Q:=fun r σ H Q q=>by
  obtain ⟨m,s,h,z,h',R,S,ee,post⟩:=q
  simp only[BT.ev] at ee
  cases ee
  exact post _ H m (.refl _ _) R (.p (r m H))
 cases d<;>cases c<;>first | exact BT.dN h | skip
 ·exact PE.weak Ed (fin fun _ _=>.non)
 ·cases eq_of_beq h;exact PE.weak HA (fin fun _ _=>.bl _)
 ·cases eq_of_beq h;exact PE.weak oW (fin fun _ _=>.int _)
 ·have h:=Bool.and_eq_true_iff.mp h
  cases eq_of_beq h.1;exact PE.weak Ef (fin fun _ _=>.str _ h.2)
theorem BU (O:Ok X F G sc N) (h2:dR sc y=true) (h3:fu y=true):PE X (.Name y pos) (tD X F G (.glo y)):=by
 obtain ⟨d1,d2,_⟩:=f7 h3
 intro pins s σ H Q I q
 obtain ⟨m,s',h,z,h',R,S,ee,post⟩:=q
 simp only[BT.ev] at ee
 obtain ⟨w,e1,e2⟩:=cY ee
 cases e2
 obtain ⟨u,v,hm,r,rw⟩:=O.glob _ _ e1
 exact uw (dU O h2) hm r d1 pins s σ H Q I (post v H m (.refl _ _) R (rw m H))
theorem DW (he:∀ s h,BT.ev F G e s h=BT.bnd (BT.ev F G a s h) k) (q:tD X F G e σ H Q)
 (h1:∀ m h x z h' v H1,RH X.K m H1 h->RW X.prog X.w X.K m H1 v x->k x h=some (z,h')->Post X.prog X.w X.K m H1 z h' Q->R' v H1):tD X F G a σ H R':=by
 obtain ⟨m,s,h,z,h',R,S,ee,post⟩:=q
 rw[he] at ee
 obtain ⟨x,g,e1,e2⟩:=cT ee
 exact ⟨m,s,h,x,g,R,S,e1,fun v H1 m1 x1 R1 r1=>h1 m1 g x z h' v H1 R1 r1 e2 fun w' H3 m3 x3 R3 r3=>post w' H3 m3 (x1.trans x3) R3 r3⟩
theorem jT (he:∀ s h,BT.ev F G e s h=BT.bnd (BT.evs F G as s h) k) (q:tD X F G e σ H Q)
 (h1:∀ m h xs z h' vs H1,RH X.K m H1 h->RWs X.prog X.w X.K m H1 vs xs->k xs h=some (z,h')->Post X.prog X.w X.K m H1 z h' Q->R' vs H1):tDs X F G as σ H R':=by
 obtain ⟨m,s,h,z,h',R,S,ee,post⟩:=q
 rw[he] at ee
 obtain ⟨x,g,e1,e2⟩:=cT ee
 exact ⟨m,s,h,x,g,R,S,e1,fun v H1 m1 x1 R1 r1=>h1 m1 g x z h' v H1 R1 r1 e2 fun w' H3 m3 x3 R3 r3=>post w' H3 m3 (x1.trans x3) R3 r3⟩
theorem ty_list (R:RH X.K m H h) (r:RW X.prog X.w X.K m H v (.r n)) (ok:BT.nI (.r n) h=true):tyV X.K "list" v H:=by
 cases r with
 | @r a _ hn =>
  obtain ⟨xs,e⟩:=Option.isSome_iff_exists.mp ok
  obtain ⟨vs,e,_⟩:=R.cell n a xs hn e
  exact .inl ⟨rfl,vs,.inl (.inl e)⟩
theorem uQ (e:BT.kMe m ea x h=some r):BT.nI x h=true/\BT.bnd (ea h) (BT.meW m x)=some r:=by
 unfold BT.kMe at e
 split at e
 ·rename_i c;exact ⟨c,e⟩
 ·exact cR e
theorem MF (hm:m=.append\/m=.pop\/m=.extend) (e:BT.meW m x ws h=some (z,h')):∃ n,x=.r n:=by
 cases x with
 | r n=>exact ⟨n,rfl⟩
 | p d =>
  rcases hm with rfl | rfl | rfl<;>cases ws<;>rw[rm] at e<;>(split at e<;>(try exact cR e))<;>exact cR e
 | k q =>
  rcases hm with rfl | rfl | rfl<;>cases ws<;>(first | exact cR e | simp[BT.meW] at e)
 | x _ =>
  rcases hm with rfl | rfl | rfl<;>cases ws<;>(first | exact cR e | simp[BT.meW] at e)
 | c _ _ =>
  rcases hm with rfl | rfl | rfl<;>cases ws<;>(first | exact cR e | simp[BT.meW] at e)
 | o q =>
  rcases hm with rfl | rfl | rfl<;>cases ws<;>(first | exact cR e | simp[BT.meW] at e)
end
section
theorem pS {X:Cx}{e a:BT.E}{k:BT.Sl->BT.W->BT.HH->Option (BT.W×BT.HH)} (he:∀ s h,BT.ev F G e s h=BT.bnd (BT.ev F G a s h) (k s)) {σ:L2.St}{H:Hp}{Q:VK} (q:tD X F G e σ H Q) {R':V->Hp->Prop}
 (h1:∀ m s h x z h' v H1,RH X.K m H1 h->RS X.prog X.w X.K m H1 σ s->RW X.prog X.w X.K m H1 v x->k s x h=some (z,h')->Post X.prog X.w X.K m H1 z h' Q->R' v H1):tD X F G a σ H R':=by
 obtain ⟨m,s,h,z,h',R,S,ee,post⟩:=q
 rw[he] at ee
 obtain ⟨x,g,e1,e2⟩:=cT ee
 exact ⟨m,s,h,x,g,R,S,e1,fun v H1 m1 x1 R1 r1=>h1 m1 s g x z h' v H1 R1 (S.ext x1) r1 e2 fun w' H3 m3 x3 R3 r3=>post w' H3 m3 (x1.trans x3) R3 r3⟩
theorem FN {X:Cx}{e a:BT.E}{k:BT.Sl->Bool->BT.HH->Option (BT.W×BT.HH)}{kk:BT.Sl->BT.W->BT.HH->Option (BT.W×BT.HH)} (he:∀ s h,BT.ev F G e s h=BT.bnd (BT.ev F G a s h) (kk s))
 (hk:∀ s x h r,kk s x h=some r->∃ b,x=.p (.bl b)/\k s b h=some r) {σ:L2.St}{H:Hp}{Q:VK} (q:tD X F G e σ H Q) {R':Bool->Hp->Prop}
 (h1:∀ m s h b z h' H1,RH X.K m H1 h->RS X.prog X.w X.K m H1 σ s->k s b h=some (z,h')->Post X.prog X.w X.K m H1 z h' Q->R' b H1):tDT X F G a σ H R':=by
 obtain ⟨m,s,h,z,h',R,S,ee,post⟩:=q
 rw[he] at ee
 obtain ⟨x,g,e1,e2⟩:=cT ee
 obtain ⟨b,rfl,e3⟩:=hk _ _ _ _ e2
 exact ⟨m,s,h,b,g,R,S,e1,fun H1 m1 x1 R1=>h1 m1 s g b z h' H1 R1 (S.ext x1) e3 fun w' H3 m3 x3 R3 r3=>post w' H3 m3 (x1.trans x3) R3 r3⟩
theorem kE {K:NO} (r:RW P w K m H v (.p (.bl b))):v=.bl b:=by
 cases r with | p r=>cases r;rfl
theorem uR (e:BT.Bs eb x h=some r):∃ b,x=.p (.bl b)/\(if b=true then eb h else some (.p (.bl false),h))=some r:=by
 cases x with
 | p d =>
  cases d<;>simp only[BT.Bs] at e<;>try contradiction
  exact ⟨_,rfl,e⟩
 | r n=>exact cR e
 | k q=>exact cR e
 | c _ _=>exact cR e
 | x _=>exact cR e
 | o q=>exact cR e
theorem zf (e:BT.kOr eb x h=some r):∃ b,x=.p (.bl b)/\(if b=true then some (.p (.bl true),h) else eb h)=some r:=by
 cases x with
 | p d =>
  cases d<;>simp only[BT.kOr] at e<;>try contradiction
  exact ⟨_,rfl,e⟩
 | r n=>exact cR e
 | k q=>exact cR e
 | c _ _=>exact cR e
 | x _=>exact cR e
 | o q=>exact cR e
theorem BV (e:BT.Bt ea eb x h=some r):∃ b,x=.p (.bl b)/\(if b=true then ea h else eb h)=some r:=by
 cases x with
 | p d =>
  cases d<;>simp only[BT.Bt] at e<;>try contradiction
  exact ⟨_,rfl,e⟩
 | r n=>exact cR e
 | k q=>exact cR e
 | c _ _=>exact cR e
 | x _=>exact cR e
 | o q=>exact cR e
theorem uS (e:BT.Br x h=some r):∃ b,x=.p (.bl b)/\r=(.p (.bl (!b)),h):=by
 cases x with
 | p d =>
  cases d<;>simp only[BT.Br] at e<;>try contradiction
  cases e;exact ⟨_,rfl,rfl⟩
 | r n=>exact cR e
 | k q=>exact cR e
 | c _ _=>exact cR e
 | x _=>exact cR e
 | o q=>exact cR e
theorem BW (e:BT.Bq x h=some r):∃ i,x=.p (.int i)/\r=(.p (.int (-i)),h):=by
 cases x with
 | p d =>
  cases d<;>simp only[BT.Bq] at e<;>try contradiction
  cases e;exact ⟨_,rfl,rfl⟩
 | r n=>exact cR e
 | k q=>exact cR e
 | c _ _=>exact cR e
 | x _=>exact cR e
 | o q=>exact cR e
theorem uT {X:Cx}{a b:BT.E} (σ:L2.St) (H:Hp) (Q:VK) (q:tD X F G (.and a b) σ H Q):DC (tD X F G a) (tD X F G b) σ H Q:=by
 refine pS (k:=fun s=>BT.Bs (BT.ev F G b s)) (fun s h=>by simp only[BT.ev]) q fun m s h x z h' v H1 R S r e post=>?_
 obtain ⟨c,rfl,e2⟩:=uR e
 refine ⟨c,kE r,?_⟩
 cases c with
 | true=>rw[if_pos rfl] at e2 ⊢;exact ⟨m,s,h,z,h',R,S,e2,post⟩
 | false=>rw[if_neg (by decide)] at e2 ⊢;cases e2;exact post.here R (.bl _)
theorem zg {X:Cx}{a b:BT.E} (σ:L2.St) (H:Hp) (Q:VK) (q:tD X F G (.or a b) σ H Q):HD (tD X F G a) (tD X F G b) σ H Q:=by
 refine pS (k:=fun s=>BT.kOr (BT.ev F G b s)) (fun s h=>by simp only[BT.ev]) q fun m s h x z h' v H1 R S r e post=>?_
 obtain ⟨c,rfl,e2⟩:=zf e
 refine ⟨c,kE r,?_⟩
 cases c with
 | true=>rw[if_pos rfl] at e2 ⊢;cases e2;exact post.here R (.bl _)
 | false=>rw[if_neg (by decide)] at e2 ⊢;exact ⟨m,s,h,z,h',R,S,e2,post⟩
theorem uU (σ:L2.St) (H:Hp) (Q:Bool->Hp->Prop) (q:tDT X F G (.and a b) σ H Q):HB (tDT X F G a) (tDT X F G b) σ H Q:=by
 obtain ⟨m,s,h,c,h',R,S,ee,post⟩:=q
 simp only[BT.ev] at ee
 obtain ⟨x,g,e1,e2⟩:=cT ee
 obtain ⟨d,rfl,e3⟩:=uR e2
 refine ⟨m,s,h,d,g,R,S,e1,fun H1 m1 x1 R1=>?_⟩
 cases d with
 | true=>rw[if_pos rfl] at e3 ⊢;exact ⟨m1,s,g,c,h',R1,S.ext x1,e3,fun H2 m2 x2 R2=>post H2 m2 (x1.trans x2) R2⟩
 | false=>rw[if_neg (by decide)] at e3 ⊢;cases e3;exact post H1 m1 x1 R1
theorem zh (σ:L2.St) (H:Hp) (Q:Bool->Hp->Prop) (q:tDT X F G (.or a b) σ H Q):tOr (tDT X F G a) (tDT X F G b) σ H Q:=by
 obtain ⟨m,s,h,c,h',R,S,ee,post⟩:=q
 simp only[BT.ev] at ee
 obtain ⟨x,g,e1,e2⟩:=cT ee
 obtain ⟨d,rfl,e3⟩:=zf e2
 refine ⟨m,s,h,d,g,R,S,e1,fun H1 m1 x1 R1=>?_⟩
 cases d with
 | true=>rw[if_pos rfl] at e3 ⊢;cases e3;exact post H1 m1 x1 R1
 | false=>rw[if_neg (by decide)] at e3 ⊢;exact ⟨m1,s,g,c,h',R1,S.ext x1,e3,fun H2 m2 x2 R2=>post H2 m2 (x1.trans x2) R2⟩
theorem BY (σ:L2.St) (H:Hp) (Q:Bool->Hp->Prop) (q:tDT X F G (.not a) σ H Q):HC (tDT X F G a) σ H Q:=by
 obtain ⟨m,s,h,c,h',R,S,ee,post⟩:=q
 simp only[BT.ev] at ee
 obtain ⟨x,g,e1,e2⟩:=cT ee
 obtain ⟨d,rfl,e3⟩:=uS e2
 cases e3
 exact ⟨m,s,h,d,h',R,S,e1,fun H1 m1 x1 R1=>post H1 m1 x1 R1⟩
theorem BZ {X:Cx}{a:BT.E} (σ:L2.St) (H:Hp) (Q:VK) (q:tD X F G (.not a) σ H Q):DE (tD X F G a) σ H Q:=by
 refine pS (k:=fun s=>BT.Br) (fun s h=>by simp only[BT.ev]) q fun m s h x z h' v H1 R S r e post=>?_
 obtain ⟨c,rfl,e2⟩:=uS e
 cases e2
 exact ⟨c,kE r,post.here R (.bl _)⟩
theorem FO {X:Cx}{c a b:BT.E} (σ:L2.St) (H:Hp) (Q:VK) (q:tD X F G (.ite c a b) σ H Q):tIf (tDT X F G c) (tD X F G a) (tD X F G b) σ H Q:=by
 refine FN (k:=fun s t h=>if t=true then BT.ev F G a s h else BT.ev F G b s h) (kk:=fun s=>BT.Bt (BT.ev F G a s) (BT.ev F G b s)) (fun s h=>by simp only[BT.ev]) (fun s x h r e=>BV e) q fun m s h t z h' H1 R S e post=>?_
 cases t with
 | true=>rw[if_pos rfl] at e ⊢;exact ⟨m,s,h,z,h',R,S,e,post⟩
 | false=>rw[if_neg (by decide)] at e ⊢;exact ⟨m,s,h,z,h',R,S,e,post⟩
theorem FP {X:Cx}{a:BT.E} (σ:L2.St) (H:Hp) (Q:VK) (q:tD X F G (.neg a) σ H Q):tUn (rU fun i=>.int (-i)) (tD X F G a) σ H Q:=by
 refine pS (k:=fun s=>BT.Bq) (fun s h=>by simp only[BT.ev]) q fun m s h x z h' v H1 R S r e post=>?_
 obtain ⟨c,rfl,e2⟩:=BW e
 cases e2
 cases r with | p r=>cases r;exact ⟨c,rfl,post.here R (.int _)⟩
theorem rB (σ:L2.St) (H:Hp) (Q:VK) (q:tD X F G (.chain o o' a b c) σ H Q) :
 sD (rOp X.prog X.w X.K (BT.ju o)) (rOp X.prog X.w X.K (BT.ju o')) (tD X F G a) (tD X F G b) (tD X F G c) σ H Q:=by
 obtain ⟨m,s,h,z,h',R,S,ee,post⟩:=q
 simp only[BT.ev] at ee
 obtain ⟨x,h1,e1,e2⟩:=cT ee
 simp only[BT.k2] at e2
 obtain ⟨y,h2,e3,e4⟩:=cT e2
 refine ⟨m,s,h,x,h1,R,S,e1,fun v H1 m1 x1 R1 r1=>?_⟩
 refine ⟨m1,s,h1,y,h2,R1,S.ext x1,e3,fun u H2 m2 x2 R2 r2=>?_⟩
 unfold BT.oCh at e4
 cases g1:BT.rd x h2 with
 | none=>rw[g1] at e4;exact cR e4
 | some d =>
  cases y with
  | r _=>rw[g1] at e4;exact cR e4
  | k _=>rw[g1] at e4;exact cR e4
  | c _ _=>rw[g1] at e4;exact cR e4
  | x _=>rw[g1] at e4;exact cR e4
  | o _=>rw[g1] at e4;exact cR e4
  | p d' =>
   rw[g1] at e4
   simp only at e4
   have ho:∀ (o:BT.Cm) (x':BT.W) (hh:BT.HH) dd,BT.rd x' hh=some dd->∀ y' dd',BT.rd y' hh=some dd'->BT.ju o x' y' hh=(BT.eS o dd dd').map fun z=>(.p (.bl z),hh):=by
    intro o x' hh dd q1 y' dd' q2
    unfold BT.ju
    cases y' with
    | p _=>simp only[q1,q2]
    | r _=>simp only[q1,q2]
    | k _=>exact cR q2
    | c _ _=>exact cR q2
    | x _=>exact cR q2
    | o _=>exact cR q2
   cases g3:BT.eS o d d' with
   | none=>rw[g3] at e4;exact cR e4
   | some t =>
    rw[g3] at e4
    refine ⟨m2,h2,x,.p d',.p (.bl t),h2,R2,r1.ext x2,r2,by rw[ho o x h2 d g1 (.p d') d' rfl,g3];rfl,fun v3 H3 m3 x3 R3 r3=>⟨t,kE r3,?_⟩⟩
    cases t with
    | false =>
     rw[if_neg (by decide)]
     cases e4
     exact post _ H3 m3 ((x1.trans x2).trans x3) R3 (.p (.bl _))
    | true =>
     rw[if_pos rfl]
     obtain ⟨w3,h3,e5,e6⟩:=cT e4
     refine ⟨m3,s,h2,w3,h3,R3,((S.ext x1).ext x2).ext x3,e5,fun v4 H4 m4 x4 R4 r4=>?_⟩
     unfold BT.IV at e6
     cases g4:BT.rd w3 h3 with
     | none=>rw[g4] at e6;exact cR e6
     | some f =>
      rw[g4] at e6
      simp only at e6
      refine ⟨m4,h3,.p d',w3,z,h',R4,(r2.ext x3).ext x4,r4,by rw[ho o' (.p d') h3 d' rfl w3 f g4];exact e6,fun v5 H5 m5 x5 R5 r5=>post v5 H5 m5 ((((x1.trans x2).trans x3).trans x4).trans x5) R5 r5⟩
theorem FQ {lo:BT.Es} (hl:∀ σ H (Q:Option Int->Hp->Prop),(∃ m s h l zs h',RH X.K m H h/\RS X.prog X.w X.K m H σ s/\BT.evs F G lo s h=some (zs,h')/\(BT.dj zs).bind BT.o9=some l/\∀ H' m',Ext m H m' H'->RH X.K m' H' h'->Q l H')->tl σ H Q)
 (hh:∀ σ H (Q:Option Int->Hp->Prop),(∃ m s h l zs h',RH X.K m H h/\RS X.prog X.w X.K m H σ s/\BT.evs F G hi s h=some (zs,h')/\(BT.dj zs).bind BT.o9=some l/\∀ H' m',Ext m H m' H'->RH X.K m' H' h'->Q l H')->th σ H Q)
 (σ:L2.St) (H:Hp) (Q:VK) (q:tD X F G (.slc a lo hi) σ H Q):tSl (rSl X.prog X.w X.K) (tD X F G a) tl th σ H Q:=by
 obtain ⟨m,s,h,z,h',R,S,ee,post⟩:=q
 simp only[BT.ev] at ee
 obtain ⟨x,h1,e1,e2⟩:=cT ee
 simp only[BT.IY] at e2
 obtain ⟨ls,h2,e3,e4⟩:=cT e2
 simp only[BT.IX] at e4
 obtain ⟨us,h3,e5,e6⟩:=cT e4
 unfold BT.IW at e6
 cases g1:BT.rd x h3 with
 | none=>rw[g1] at e6;exact cR e6
 | some d =>
  cases g2:(BT.dj ls).bind BT.o9 with
  | none=>rw[g1,g2] at e6;exact cR e6
  | some l =>
   cases g3:(BT.dj us).bind BT.o9 with
   | none=>rw[g1,g2,g3] at e6;exact cR e6
   | some u =>
    rw[g1,g2,g3] at e6
    simp only at e6
    obtain ⟨b,e7,e8⟩:=cY e6
    cases e8
    refine ⟨m,s,h,x,h1,R,S,e1,fun v H1 m1 x1 R1 r1=>hl σ H1 _ ⟨m1,s,h1,l,ls,h2,R1,S.ext x1,e3,g2,fun H2 m2 x2 R2=>hh σ H2 _ ⟨m2,s,h2,u,us,h',R2,(S.ext x1).ext x2,e5,g3,fun H3 m3 x3 R3=>?_⟩⟩⟩
    exact ⟨m3,h',x,d,b,R3,(r1.ext x2).ext x3,g1,e7,fun v5 H5 m5 x5 R5 r5=>post v5 H5 m5 (((x1.trans x2).trans x3).trans x5) R5 r5⟩
end
section
theorem uV (hs:sp=spF X.prog X.w X.K (F (.f f))) (q:tD X F G (.call f as) σ H Q):yd sp [] E0 (tDs X F G as) σ H Q:=by
 subst hs
 refine jT (k:=fun ws h=>F (.f f) ws h) (fun s h=>by simp only[BT.ev]) q fun m h xs z h' vs H1 R r e post=>?_
 rw[OJ]
 exact ⟨m,xs,h,z,h',R,r,e,post⟩
theorem jd (q:tDs X F G .nil σ H Q):yc σ H Q:=by
 obtain ⟨m,s,h,zs,h',R,S,ee,post⟩:=q
 simp only[BT.evs] at ee
 cases ee
 exact post [] H m (.refl _ _) R .nil
theorem zj (O:Ok X F G sc N) (hg:dR sc f=true) (hn:fu f=true) (hc:CEs sc N as es) (ha:PA X es (tDs X F G as)) :
 PE X (.Call (.Name f p) es [] pos) (tD X F G (.call f as)):=by
 have hst:=gG hc
 intro pins s σ H Q I q
 have q0:=q
 obtain ⟨m,s',h,z,h',R,S,ee,post⟩:=q
 simp only[BT.ev] at ee
 obtain ⟨ws,h1,e1,e2⟩:=cT ee
 obtain ⟨fa,fd,ps,k,hm,hk,hb,hr,ok⟩:=O.call _ _ _ _ e2
 cases es with
 | nil =>
  cases as with
  | cons a r=>exact (mR hc).elim
  | nil=>exact (PE.weak (yh ok hr (dU O hg) hm hk hb .nil n9 (f7 hn).1) (fun σ H Q z=>jd (uV (X:=X) rfl z))) pins s σ H Q I q0
 | cons e es =>
  simp only[cU,NX] at hst
  exact (PE.weak (A5 ok hr (dU O hg) hm hk hb .nil n9 ha (f7 hn).1 (cV hst.1) (dw hst.2)) (fun σ H Q z=>uV rfl z)) pins s σ H Q I q0
theorem kF {id:String} (pa:Uv T) (slot:Slot T name id)
 (hty:typeOf (.builtin id)=pure (.type "method_descriptor")) (hm:MtR X id (rMe X.prog X.w X.K me)) (hb:dh oe=true) (hl:(apos.endLine==cpos.line)=true) (hlen:es.length < 20) (ho:PE X oe (tD X F G o)) (hc:CEs sc N as es) (ha:PA X es (tDs X F G as))
 (ty:∀ (m:List N2) (h h2:BT.HH) (H:Hp) (v:V) (x:BT.W) ws r,RH X.K m H h->RW X.prog X.w X.K m H v x->BT.nI x h=true->BT.meW me x ws h2=some r->(∃ σ s,RS X.prog X.w X.K m H σ s/\∃ h0,BT.ev F G o s h0=some (x,h))->tyV X.K T v H) :
 PE X (.Call (.Attribute oe name apos) es [] cpos) (tD X F G (.me me o as)):=by
 have hst:=gG hc
 have key:∀ σ H Q,tD X F G (.me me o as) σ H Q->tBM X.K T (rMe X.prog X.w X.K me) (tD X F G o) (tDs X F G as) σ H Q:=by
  intro σ H Q q
  obtain ⟨m,s,h,z,h',R,S,ee,post⟩:=q
  simp only[BT.ev] at ee
  obtain ⟨x,h1,e1,e2⟩:=cT ee
  obtain ⟨ok,e2⟩:=uQ e2
  obtain ⟨ws,h2,e3,e4⟩:=cT e2
  refine ⟨m,s,h,x,h1,R,S,e1,fun v H1 m1 x1 R1 r1=>⟨ty m1 h1 h2 H1 v x ws _ R1 r1 ok e4 ⟨σ,s,S.ext x1,h,e1⟩,m1,s,h1,ws,h2,R1,S.ext x1,e3,fun vs H2 m2 x2 R2 r2=>?_⟩⟩
  exact ⟨m2,h2,x,ws,z,h',R2,r1.ext x2,r2,e4,fun v5 H5 m5 x5 R5 r5=>post v5 H5 m5 ((x1.trans x2).trans x5) R5 r5⟩
 cases es with
 | nil =>
  cases as with
  | cons a r=>exact (mR hc).elim
  | nil =>
   refine PE.weak (EO pa slot hty hm ho (jS hb) hl) fun σ H Q q=>?_
   obtain ⟨m,s,h,z,h',R,S,ee,post⟩:=key σ H Q q
   exact ⟨m,s,h,z,h',R,S,ee,fun v H1 m1 x1 R1 r1=>⟨(post v H1 m1 x1 R1 r1).1,jd (post v H1 m1 x1 R1 r1).2⟩⟩
 | cons e es =>
  simp only[cU,NX] at hst
  refine PE.weak (DI pa slot hty hm ho ha (jS hb) ?_ hl (cV hst.1) (dw hst.2)) key
  rw[iT (es:=e :: es) (by simp only[cU,NX];exact hst)]
  have h30:decide ((e :: es).length+([]:List QJ).length+(if ([]:List QJ).isEmpty then 0 else 1) < 30)=true:=decide_eq_true (by
   simp only[N7,QH,Sj,if_true] at hlen ⊢;lia)
  rw[h30];rfl
theorem kY (q:tD X F G (.bi b mu as) σ H Q):tCB (rBi X.prog X.w X.K b mu) (tDs X F G as) σ H Q:=by
 refine jT (k:=fun ws h=>BT.kBi b mu ws h) (fun s h=>by simp only[BT.ev]) q fun m h xs z h' vs H1 R r e post=>?_
 exact ⟨m,h,xs,z,h',R,r,e,post⟩
theorem FU (O:Ok X F G sc N) (hu:gm N=true) (hb:DS b mu x=true) (hg:dR sc x=true) (hst:cU (e :: es)=true) (ha:PA X (e :: es) (tDs X F G as)) :
 PE X (.Call (.Name x p) (e :: es) [] pos) (tD X F G (.bi b mu as)):=by
 simp only[cU,NX] at hst
 have hx:yM b mu=some x:=eq_of_beq hb
 have hB:=O.blt
 cases b<;>cases mu<;>first | exact cR hx | (change some _=some _ at hx)
 all_goals (cases hx)
 ·exact PE.weak (gA FH (dU O hg) (hB _ (by decide)) PySem.boot_len ha (by decide) (by decide) (cV hst.1) (dw hst.2)) (fun σ H Q z=>kY z)
 ·exact PE.weak (gA FI (dU O hg) (hB _ (by decide)) (by decide +kernel) ha (by decide) (by decide) (cV hst.1) (dw hst.2)) (fun σ H Q z=>kY z)
 ·exact PE.weak (fV FJ (dU O hg) (hB _ (by decide)) (by decide +kernel) ha (by decide) (by decide) (cV hst.1) (dw hst.2)) (fun σ H Q z=>kY z)
 ·exact PE.weak (fV uO (dU O hg) (hB _ (by decide)) (by decide +kernel) ha (by decide) (by decide) (cV hst.1) (dw hst.2)) (fun σ H Q z=>kY z)
 ·exact PE.weak (fV uO (dU O hg) (hB _ (by decide)) (by decide +kernel) ha (by decide) (by decide) (cV hst.1) (dw hst.2)) (fun σ H Q z=>kY z)
 ·exact PE.weak (fV yZ (dU O hg) (hB _ (by decide)) (by decide +kernel) ha (by decide) (by decide) (cV hst.1) (dw hst.2)) (fun σ H Q z=>kY z)
theorem wR (hb:q8 b=some (c,f)):eH X (.builtin "isinstance") (fun vs H Q=>∃ v,vs=[v,.ty c]/\rBi X.prog X.w X.K b false [v] H Q):=by
 intro pins s σ H vs us Q I rus h
 obtain ⟨v,rfl,m,h,ws,z,h',R,rws,e,post⟩:=h
 obtain ⟨u,u2,rfl,ru,ru2⟩:=rus.two
 cases ru2
 obtain ⟨ds,d,e1,e2,⟨_,rfl,rfl⟩ | ⟨_,q,_⟩⟩:=jA e
 ·have rr:=fL R rws e1
  cases rr with
  | cons r t =>
   cases t
   rw[zb hb] at e2
   cases e2
   exact BN I r ru (zc hb X.K _) fun tk=>⟨.bl _,H,I.tok tk,rfl,post.here R (.bl _)⟩
 ·exact BT.dN q
theorem zk (O:Ok X F G sc N) (hb:q8 b=some (c,f)) (hg:dR sc "isinstance"=true) (hg2:dR sc (NR c)=true) (hst:noStar e=true) (ha:PE X e (tD X F G a)) :
 PE X (.Call (.Name "isinstance" p) [e,.Name (NR c) p2] [] pos) (tD X F G (.bi b false (.cons a .nil))):=by
 have hB:=O.blt
 have hc:PE X (.Name (NR c) p2) (tC (.ty c)):=by
  cases b<;>simp only[q8] at hb<;>try contradiction
  all_goals (cases hb)
  ·exact jG (dU O hg2) (hB _ (by decide)) (u:=.type "int") (by decide +kernel) rfl (by decide) (by decide)
  ·exact jG (dU O hg2) (hB _ (by decide)) (u:=.type "bool") (by decide +kernel) rfl (by decide) (by decide)
  ·exact jG (dU O hg2) (hB _ (by decide)) (u:=.type "str") (by decide +kernel) rfl (by decide) (by decide)
  ·exact jG (dU O hg2) (hB _ (by decide)) (u:=.type "tuple") (by decide +kernel) rfl (by decide) (by decide)
  ·exact jG (dU O hg2) (hB _ (by decide)) (u:=.type "list") (by decide +kernel) rfl (by decide) (by decide)
 refine PE.weak (gA (wR hb) (dU O hg) (hB _ (by decide)) (by decide +kernel) (gO ha (gO hc oZ) (cV hst)) (by decide) (by decide) (cV hst) rfl) fun σ H Q q=>?_
 obtain ⟨m,s,h,z,h',R,S,ee,post⟩:=q
 simp only[BT.ev,BT.evs] at ee
 obtain ⟨ws,h1,e1,e2⟩:=cT ee
 obtain ⟨x,h2,e3,e4⟩:=cT e1
 simp only[BT.mL,BT.dm,BT.gT] at e4
 cases e4
 refine ⟨m,s,h,x,h1,R,S,e3,fun v H1 m1 x1 R1 r1=>?_⟩
 exact ⟨v,rfl,m1,h1,[x],z,h',R1,.cons r1 .nil,e2,fun v5 H5 m5 x5 R5 r5=>post v5 H5 m5 (x1.trans x5) R5 r5⟩
theorem FW (σ:L2.St) (H:Hp) (Q:VK) (q:tD X F G (.tup as) σ H Q):Ie (tDs X F G as) σ H Q:=by
 refine jT (k:=fun ws h=>BT.E9 ws h) (fun s h=>by simp only[BT.ev]) q fun m h xs z h' vs H1 R r e post=>?_
 unfold BT.E9 at e
 cases g:BT.dj xs with
 | none=>rw[g] at e;exact cR e
 | some ds =>
  rw[g] at e
  simp only at e
  obtain ⟨c,e⟩:=c6 e
  cases e
  have rd:=r.pure g
  have:=fy
  have hl:=rd.length
  exact ⟨by lia,fun p hp=>i8 R hp rd post⟩
theorem FY (σ:L2.St) (H:Hp) (Q:VK) (q:tD X F G (.lst mu as) σ H Q):Ig (tDs X F G as) σ H Q:=by
 refine jT (k:=fun ws h=>BT.Fb mu ws h) (fun s h=>by simp only[BT.ev]) q fun m h xs z h' vs H1 R r e post=>?_
 unfold BT.Fb at e
 cases g:BT.dj xs with
 | none=>rw[g] at e;exact cR e
 | some ds =>
  rw[g] at e
  simp only at e
  split at e
  ·rename_i c
   have rd:=r.pure g
   have:=fy
   have hl:=rd.length
   have ez:BT.new mu ds h=(z,h'):=N4 e
   exact ⟨by lia,fun p hp=>pL (mu:=mu) R hp rd (by rw[ez];exact post)⟩
  ·exact cR e
theorem cons_of (σ:L2.St) (H:Hp) (Q:List V->Hp->Prop) (q:tDs X F G (.cons a as) σ H Q):DG (tD X F G a) (tDs X F G as) σ H Q:=by
 obtain ⟨m,s,h,zs,h',R,S,ee,post⟩:=q
 simp only[BT.evs] at ee
 obtain ⟨x,h1,e1,e2⟩:=cT ee
 simp only[BT.mL] at e2
 obtain ⟨xs,h2,e3,e4⟩:=cT e2
 simp only[BT.gT] at e4
 cases e4
 exact ⟨m,s,h,x,h1,R,S,e1,fun v H1 m1 x1 R1 r1=>⟨m1,s,h1,xs,h',R1,S.ext x1,e3,fun vs H2 m2 x2 R2 r2=>post _ H2 m2 (x1.trans x2) R2 (.cons (r1.ext x2) r2)⟩⟩
end
section
variable {K:NO}
theorem RFs.get:∀ {vs:List (Str×V)}{fs:List (Str×BT.W)},RFs K m H vs fs->BT.iH f fs=some x->∃ v,vs.lookup f=some v/\RA K m H v x
 | _,_,.nil,e=>by exact cR e
 | _,_,.cons (f:=g) r t,e=>by
  rw[BT.om] at e
  by_cases c:f=g
  ·rw[if_pos c] at e;cases e;subst c;exact ⟨_,by simp,r⟩
  ·rw[if_neg c] at e
   obtain ⟨v,h1,h2⟩:=RFs.get t e
   exact ⟨v,by rw[Pw];rw[beq_false_of_ne c];exact h1,h2⟩
theorem RFs.none:∀ {vs:List (Str×V)}{fs:List (Str×BT.W)},RFs K m H vs fs->(BT.iH f fs).isNone=true->vs.lookup f=none
 | _,_,.nil,_=>rfl
 | _,_,.cons (f:=g) r t,e=>by
  rw[BT.om] at e
  by_cases c:f=g
  ·rw[if_pos c] at e;exact BT.dN e
  ·rw[if_neg c] at e
   rw[Pw,beq_false_of_ne c]
   exact RFs.none t e
theorem RFs.put (q:RA K m H v x):∀ {vs:List (Str×V)}{fs:List (Str×BT.W)},RFs K m H vs fs->RFs K m H (L2.eB f v vs) (BT.eB f x fs)
 | _,_,.nil=>.cons q .nil
 | _,_,.cons (f:=g) r t=>by
  rw[L2.eB,BT.wG]
  by_cases c:f=g
  ·rw[if_pos c,if_pos c.symm];subst c;exact .cons q t
  ·rw[if_neg c,if_neg (Re c)];exact .cons r (RFs.put q t)
theorem RFs.length:∀ {vs:List (Str×V)}{fs:List (Str×BT.W)},RFs K m H vs fs->vs.length=fs.length
 | _,_,.nil=>rfl
 | _,_,.cons _ t=>by rw[N7,N7,RFs.length t]
end
section
theorem B0 (e:BT.Bu f x h=some r):∃ n c fs w,x=.o n/\BT.oat h n=some (c,fs)/\BT.iH f fs=some w/\r=(w,h):=by
 cases x with
 | o n =>
  rw[BT.Fd] at e
  cases g:BT.oat h n with
  | none=>rw[g] at e;exact cR e
  | some q =>
   obtain ⟨c,fs⟩:=q
   rw[g] at e
   obtain ⟨w,e1,e2⟩:=cY e
   exact ⟨n,c,fs,w,rfl,g,e1,e2.symm⟩
 | p d=>exact cR e
 | r n=>exact cR e
 | k q=>exact cR e
 | c _ _=>exact cR e
 | x _=>exact cR e
theorem B3 {sc:OS}{N:List Str} (hb:dh x=true) (hf:attrName f=true) (ha:PE X x (tD X F G a)):PE X (.Attribute x f p) (tD X F G (.fld a f)):=by
 refine PE.weak (EC ha (jS hb)) fun σ H Q q=>?_
 refine DW (k:=BT.Bu f) (fun s h=>by simp only[BT.ev]) q fun m h x z h' v H1 R r e post=>?_
 obtain ⟨n,c,fs,w,rfl,e1,e2,e3⟩:=B0 e
 cases e3
 cases r with
 | o hn =>
  obtain ⟨C,dx,vs,h1,h2,h3⟩:=R.rj _ _ _ _ hn e1
  obtain ⟨u,l,ra⟩:=h3.get e2
  exact ⟨_,C,dx,vs,u,rfl,h1,h2.cls,h2.no f hf,l,post u H1 m (.refl _ _) R ra.rw⟩
theorem oF (hb:dh o=true) (hst:cU args=true) (hlen:args.length < 20) (hl:(apos.endLine==pos.line)=true) :
 eval (.Call (.Attribute o m apos) args [] pos) env=(do
  let ov ← eval o env
  TF apos.atName
  let (f,first) ← Ro [ov] (TH ov m (do return (← importBound o env).getD true))
  callWith pos f first (QC pos (Ow args env)) (Su pos (QV [] env))):=by
 have hf:methodCallForm (args.length+([]:List QJ).length) (QC pos (Ow args env)) (Su pos (QV [] env))=true:=by
  unfold methodCallForm
  have h30:decide (args.length+([]:List QJ).length+(if (Su pos (QV [] env)).isEmpty then 0 else 1) < 30)=true:=decide_eq_true (by
   show args.length+0+0 < 30
   lia)
  rw[h30,iT hst];rfl
 rw[arm_eval_Call,jS hb]
 unfold methodCall
 rw[hf]
 have hp:methodCallPos true o env apos pos=pure pos:=by
  unfold methodCallPos
  rw[hl];rfl
 rw[hp]
 rfl
theorem zl (e:BT.yx F m ea x h=some r) :
 ∃ n c fs ws g,x=.o n/\BT.oat h n=some (c,fs)/\(BT.iH m fs).isNone=true/\ea h=some (ws,g)/\F (.m c m) (.o n :: ws) g=some r:=by
 cases x with
 | o n =>
  rw[BT.Bv] at e
  cases g:BT.oat h n with
  | none=>rw[g] at e;exact cR e
  | some q =>
   obtain ⟨c,fs⟩:=q
   rw[g] at e
   simp only at e
   split at e
   ·rename_i c1
    obtain ⟨ws,g2,e1,e2⟩:=cT e
    exact ⟨n,c,fs,ws,g2,rfl,g,c1,e1,e2⟩
   ·exact cR e
 | p d=>exact cR e
 | r n=>exact cR e
 | k q=>exact cR e
 | c _ _=>exact cR e
 | x _=>exact cR e
theorem zm (O:Ok X F G sc N) (hb:dh oe=true) (hl:(apos.endLine==cpos.line)=true) (hlen:es.length < 20) (ho:PE X oe (tD X F G o)) (hc:CEs sc N as es) (ha:PA X es (tDs X F G as)) :
 PE X (.Call (.Attribute oe m apos) es [] cpos) (tD X F G (.meth o m as)):=by
 have hst:=gG hc
 intro pins s σ H Q I q
 obtain ⟨m0,s',h,z,h',R,S,ee,post⟩:=q
 simp only[BT.ev] at ee
 obtain ⟨x,h1,e1,e2⟩:=cT ee
 obtain ⟨n,c,fs,ws,g,rfl,e3,e4,e5,e6⟩:=zl e2
 obtain ⟨C,ga,fd,ps,k,hC,hM,hB,hR,ok⟩:=O.meth _ _ _ _ _ e6
 have key:ye C m (spF X.prog X.w X.K (F (.m c m))) [] E0 (tD X F G o) (tDs X F G as) σ H Q:=by
  refine ⟨m0,s',h,.o n,h1,R,S,e1,fun v H1 m1 x1 R1 r1=>?_⟩
  cases r1 with
  | @o a _ hn =>
   obtain ⟨C',dx,vs,q1,q2,q3⟩:=R1.rj _ _ _ _ hn e3
   cases q2.cn.inj hC.cn
   refine ⟨a,dx,vs,rfl,q1,q3.none e4,m1,s',h1,ws,g,R1,S.ext x1,e5,fun us H2 m2 x2 R2 r2=>?_⟩
   show spF X.prog X.w X.K (F (.m c m)) (V.ref a :: (us++[])) H2 Q E0
   rw[OJ]
   exact ⟨m2,.o n :: ws,g,z,h',R2,.cons (.o (x2.ix hn)) r2,e6,fun v5 H5 m5 x5 R5 r5=>post v5 H5 m5 ((x1.trans x2).trans x5) R5 r5⟩
 cases es with
 | nil =>
  cases as with
  | cons a r=>exact (mR hc).elim
  | nil =>
   refine yi ho hC.cls hM ok hR hB .nil n9 (oF hb hst hlen hl) pins s σ H Q I ?_
   obtain ⟨m,s,h,z,h',R,S,ee,post⟩:=key
   refine ⟨m,s,h,z,h',R,S,ee,fun v H1 m1 x1 R1 r1=>?_⟩
   obtain ⟨a,dx,fs,q1,q2,q3,q4⟩:=post v H1 m1 x1 R1 r1
   exact ⟨a,dx,fs,q1,q2,q3,jd q4⟩
 | cons e es =>
  have hst':=hst
  simp only[cU,NX] at hst'
  exact A6 ho hC.cls hM ok hR hB .nil n9 ha (cV hst'.1) (dw hst'.2) (oF hb hst hlen hl) pins s σ H Q I key
theorem zo (O:Ok X F G sc N) (hg:dR sc c=true) (hn:fu c=true) (hc:CEs sc N as es) (ha:PA X es (tDs X F G as)) :
 PE X (.Call (.Name c p) es [] pos) (tD X F G (.make c as)):=by
 have hst:=gG hc
 intro pins s σ H Q I q
 obtain ⟨m0,s',h,z,h',R,S,ee,post⟩:=q
 simp only[BT.ev] at ee
 obtain ⟨ws,h1,e1,e2⟩:=cT ee
 rw[BT.yy] at e2
 obtain ⟨y,h2,e3,e4⟩:=cT e2
 have e5:y=.p .non/\(z,h')=(.o h1.length,h2):=by
  cases y with
  | p d=>cases d<;>simp[BT.uK] at e4;exact ⟨rfl,by rw[e4.1,e4.2]⟩
  | r n=>exact cR e4
  | k q=>exact cR e4
  | c _ _=>exact cR e4
  | x _=>exact cR e4
  | o n=>exact cR e4
 obtain ⟨rfl,e5⟩:=e5
 cases e5
 obtain ⟨C,ga,fd,ps,k,hC,hmg,hM,hB,hR,ok⟩:=O.mkc _ _ _ _ e3
 have key:yf C (spF X.prog X.w X.K (F (.m c "__init__"))) [] E0 (tDs X F G as) σ H Q:=by
  refine ⟨m0,s',h,ws,h1,R,S,e1,fun us H1 m1 x1 R1 r1 x dx nx ndx ne=>?_⟩
  rw[OJ]
  have xa:Ext m1 H1 m1 (upd H1 dx (.own x)):=gW ndx
  have Ra:RH X.K m1 (upd H1 dx (.own x)) h1:=R1.new ndx
  have nx':upd H1 dx (.own x) x=none:=by rw[c5 (Re ne)];exact nx
  have xb:Ext m1 (upd H1 dx (.own x)) (m1++[x]) (upd (upd H1 dx (.own x)) x (.ins C dx [])):=jO nx'
  have Rb:RH X.K (m1++[x]) (upd (upd H1 dx (.own x)) x (.ins C dx [])) (h1++[.o c []]):=Ra.Jz nx' ⟨C,dx,[],dS,hC,.nil⟩
  have ix:(m1++[x])[h1.length]?=some x:=by rw[← R1.len];simp
  refine ⟨m1++[x],.o h1.length :: ws,h1++[.o c []],.p .non,h',Rb,.cons (.o ix) (r1.ext (xa.trans xb)),e3,fun v H2 m2 x2 R2 r2=>?_⟩
  cases r2 with
  | p r2 =>
   cases r2
   exact ⟨rfl,post _ H2 m2 (((x1.trans xa).trans xb).trans x2) R2 (.o (x2.ix ix))⟩
 cases es with
 | nil =>
  cases as with
  | cons a r=>exact (mR hc).elim
  | nil =>
   refine yj hM ok hR (dU O hg) hmg hB .nil n9 (f7 hn).1 pins s σ H Q I ?_
   exact jd key
 | cons e es =>
  simp only[cU,NX] at hst
  exact A7 hM ok hR (dU O hg) hmg hB .nil n9 ha (f7 hn).1 (cV hst.1) (dw hst.2) pins s σ H Q I key
noncomputable def FZ (o:BT.Bin):TIp:=fun x y H Q=>∃ i j z,x=.int i/\y=.int j/\BT.mj o (.int i) (.int j)=some (.int z)/\Q (.int z) H
noncomputable def zp:BT.Bin->Q5->Bool
 | .add,.Add=>true
 | .sub,.Sub=>true
 | .mul,.Mult=>true
 | _,_=>false
theorem uW (h:zp o op=true):PIp X op (FZ o):=by
 rintro pins s σ H x y u v Q I rx ry ⟨i,j,z,rfl,rfl,e,q⟩
 obtain ⟨t,rfl⟩:=(show ∃ t,u=RK i t from rx)
 obtain ⟨t',rfl⟩:=(show ∃ t',v=RK j t' from ry)
 cases o<;>cases op<;>cases h
 ·cases e;exact PyProof.Rows.iadd_int ⟨.int (i+j),H,I.tok _,⟨_,rfl⟩,q⟩
 ·cases e;exact PyProof.Rows.isub_int ⟨.int (i - j),H,I.tok _,⟨_,rfl⟩,q⟩
 ·rw[BT.qT] at e
  obtain ⟨c,e⟩:=c6 e
  cases e
  have hc:A0 i j:=by
   rcases Qh _ _ ▸ c with c | c
   ·exact .inl (pN c)
   ·exact .inr (pN c)
  exact PyProof.Rows.imul_int ⟨.int (i*j),H,I.tok _,⟨_,rfl⟩,q⟩ hc.ok
theorem uX (h:BT.mj o d e=some z):∃ i j k,d=.int i/\e=.int j/\z=.int k:=by
 cases d with
 | int i =>
  cases e with
  | int j =>
   refine ⟨i,j,?_⟩
   cases o with
   | add=>exact ⟨_,rfl,rfl,(N4 h).symm⟩
   | sub=>exact ⟨_,rfl,rfl,(N4 h).symm⟩
   | mul =>
    rw[BT.qT] at h
    split at h
    ·exact ⟨_,rfl,rfl,(N4 h).symm⟩
    ·exact cR h
   | _=>exact cR h
  | _=>cases o<;>exact cR h
 | _=>cases o<;>exact cR h
end
section
variable {K:NO}
end
theorem kG (r:cX vs us):∀ l:List Nat,cX (l.filterMap fun i=>vs[i]?) (l.filterMap fun i=>us[i]?)
 | []=>.nil
 | i :: l=>by
  rw[O1,O1]
  cases g:vs[i]? with
  | none =>
   have:us[i]?=none:=by
    have h:=r.length
    rw[Td] at g ⊢
    lia
   rw[this]
   exact kG r l
  | some d =>
   obtain ⟨v,e,q⟩:=r.get g
   rw[e]
   exact .cons q (kG r l)
noncomputable def rC (k:Int) (xs:List V):List V:=(Ur (OM none none (some k) xs.length).1 (OM none none (some k) xs.length).2.1 (OM none none (some k) xs.length).2.2).filterMap fun i=>xs[i]?
section
theorem F0 (hk:k≠0) (he:PE X e te) (hs:PE X se (tC (.int k))) :
 PE X (.Subscript e (.Slice none none (some se) p2) pos) (fun σ H Q=>te σ H fun x H1=>∃ a xs,x=.ref a/\SqL X.K H1 a xs/\∀ p,H1 p=none->Q (.ref p) (upd H1 p (.lst (rC k xs)))):=by
 intro pins s σ H Q I h
 refine SK (thn (he pins s σ H _ I h) fun v s1 zq=>?_)
 obtain ⟨x,H1,I1,r1,a,xs,ex,hx,q⟩:=zq
 subst ex
 cases r1
 refine Tz ?_
 rw[Rp]
 refine wpAny_pure (wpAny_pure ?_)
 rw[Sq]
 refine thn (hs pins s1 σ H1 (fun v H'=>v=.int k/\H'=H1) I1 ⟨rfl,rfl⟩) fun vs s3 zq=>?_
 obtain ⟨y,H3,I3,r3,hy,hh⟩:=zq
 subst hy hh
 obtain ⟨t,rfl⟩:=r3
 have I4:Inv X pins σ H3 { s3 with heap:=s3.heap.push { cls:=.type "slice",data:=.fields #[.none,.none,.int k t] } }:=I3.kept (t':=s3.toks) fun b ob q=>NQ _ q
 obtain ⟨its,rv,p,hz⟩:=I4.list hx
 have hg:wpAny (Oi X.prog X.w) X.A (Q7 (.ref a) (.ref s3.heap.objs.size)) (EP X pins σ Q) X.xe { s3 with heap:=s3.heap.push { cls:=.type "slice",data:=.fields #[.none,.none,.int k t] } }:=by
  have hlen:=rv.length
  refine Uq p.isList (Qu ..) .none .none (.int k t) (by intro z;exact hk (N4 z)) ?_ (by rw[NV];lia)
  have hp:slicePick its.toArray none none (some k)=((Ur (OM none none (some k) xs.length).1 (OM none none (some k) xs.length).2.1 (OM none none (some k) xs.length).2.2).filterMap fun i=>its[i]?).toArray:=by
   unfold slicePick
   rw[NV,← hlen]
   simp
  rw[hp]
  have hq:=kG rv (Ur (OM none none (some k) xs.length).1 (OM none none (some k) xs.length).2.1 (OM none none (some k) xs.length).2.2)
  have hz':(rC k xs).length<=xs.length:=by
   have:=slicePick_size_le its.toArray none none (some k)
   rw[hp,NV,NV] at this
   have e:=hq.length
   unfold rC
   lia
  refine ⟨.ref (s3.heap.push { cls:=.type "slice",data:=.fields #[.none,.none,.int k t] }).objs.size,_,I4.laid (t':=s3.toks) (o:=.lst (rC k xs)) (fun b ob q=>NQ _ q) (N1 _) ?_,rfl,q _ (I4.hok.fresh (N1 _))⟩
  exact ⟨by lia,_,0,hq,N9 _ rfl⟩
 show wpAny (Oi X.prog X.w) X.A (Rn e (.Slice none none (some se) p2) (.ref a) (.ref s3.heap.objs.size)) (EP X pins σ Q) X.xe { s3 with heap:=s3.heap.push { cls:=.type "slice",data:=.fields #[.none,.none,.int k t] } }
 exact So (ops:=[.ref a,.ref s3.heap.objs.size]) p.isList.typeIs slot_list_getitem.lookup hg (by with_unfolding_all rfl)
theorem uY (h:(By e).bind cInt=some k):∃ a b,e=.Constant (.int k) a b:=by
 cases e with
 | Constant c a b =>
  cases c with
  | int j=>cases h;exact ⟨a,b,rfl⟩
  | _=>exact absurd (show (none:Option Int)=some _ from h) (fun z=>nomatch z)
 | _=>exact absurd (show (none:Option Int)=some _ from h) (fun z=>nomatch z)
theorem zu (h:pJ k e=true):(∃ a b,e=.Constant (.int k) a b/\0 < k)\/∃ j a b p,e=.UnaryOp .USub (.Constant (.int j) a b) p/\k=-j/\0 < j:=by
 unfold pJ at h
 rw[Qh,NX,NX,decide_eq_true_eq,decide_eq_true_eq] at h
 rcases h with ⟨h1,h2⟩ | ⟨h1,h2⟩
 ·obtain ⟨a,b,e1⟩:=uY (eq_of_beq h1)
  exact .inl ⟨a,b,e1,h2⟩
 ·have h1:=eq_of_beq h1
  cases e with
  | UnaryOp o e p =>
   by_cases c:o=.USub
   ·subst c
    have h3:(By e).bind cInt=some (-k):=h1
    obtain ⟨a,b,rfl⟩:=uY h3
    exact .inr ⟨-k,a,b,p,rfl,by lia,by lia⟩
   ·have:unE (.UnaryOp o e p)=none:=if_neg c
    rw[this] at h1
    exact cR h1
  | _=>exact absurd (show (none:Option Int)=some _ from h1) (fun z=>nomatch z)
theorem B4 (hk:pJ k se=true) (ha:PE X x (tD X F G a)):PE X (.Subscript x (.Slice none none (some se) p2) p) (tD X F G (.stp mu k a)):=by
 have hs:k≠0/\PE X se (tC (.int k)):=by
  rcases zu hk with ⟨a,b,rfl,h⟩ | ⟨j,a,b,p,rfl,rfl,h⟩
  ·exact ⟨by lia,oW⟩
  ·exact ⟨by lia,PE.weak (xV sC oW) fun σ H Q q=>⟨_,rfl,q⟩⟩
 refine PE.weak (F0 hs.1 ha hs.2) fun σ H Q q=>?_
 refine DW (k:=BT.Fc mu k) (fun s h=>by simp only[BT.ev]) q fun m h x z h' v H1 R r e post=>?_
 unfold BT.Fc at e
 cases g:BT.rd x h with
 | none=>rw[g] at e;exact cR e
 | some d =>
  rw[g] at e
  cases d with
  | lst xs =>
   simp only at e
   have r1:=dD R r g
   obtain ⟨a,vs,rfl,hl,rr⟩:=r1.lst
   have ez:BT.new mu (BT.yw k xs) h=(z,h'):=N4 e
   refine ⟨a,vs,rfl,hl.sq,fun p hp=>pL (mu:=mu) R hp ?_ (by rw[ez];exact post)⟩
   unfold rC BT.yw
   rw[rr.length]
   exact RDs.pick rr _
  | _=>exact cR e
theorem zw {X:Cx}{b:BT.Bi}{g:Int->Int->Int} (hb:∀ ds d,BT.biD b ds=some d->∃ i j,ds=[.int i,.int j]/\d=.int (g i j)) {id:String} (hc:eH X (.builtin id) (fun xs H Q=>∃ i j,xs=[.int i,.int j]/\Q (.int (g i j)) H)):eH X (.builtin id) (rBi X.prog X.w X.K b false):=by
 intro pins s σ H vs us Q I rus h
 obtain ⟨m,h,ws,z,h',R,rws,e,post⟩:=h
 obtain ⟨ds,d,e1,e2,⟨_,rfl,rfl⟩ | ⟨_,q,_⟩⟩:=jA e
 ·have rr:=fL R rws e1
  obtain ⟨i,j,rfl,rfl⟩:=hb _ _ e2
  cases rr with
  | cons r t =>
   cases t with
   | cons r' t' =>
    cases t'
    cases r.int
    cases r'.int
    exact hc pins s σ H _ us Q I rus ⟨i,j,rfl,post.here R (.int _)⟩
 ·exact BT.dN q
theorem B5 {X:Cx}{sc:OS}{N:List Str} (O:Ok X F G sc N) (hu:gm N=true) {b:BT.Bi}{as:BT.Es}{x:Str}{e:NY}{es:List NY}{p pos:Pos} (hb:yN b x=true) (hg:dR sc x=true) (hst:cU (e :: es)=true) (ha:PA X (e :: es) (tDs X F G as)) :
 PE X (.Call (.Name x p) (e :: es) [] pos) (tD X F G (.bi b false as)):=by
 simp only[cU,NX] at hst
 have hB:=O.blt
 cases b<;>first | exact BT.dN hb | (replace hb:=eq_of_beq hb)
 ·subst hb
  refine PE.weak (gA (zw (b:=.min2) (g:=fun i j=>if j < i then j else i) (fun ds d h=>?_) (we (O.calm hu))) (dU O hg) (hB _ (by decide +kernel)) (by decide +kernel) ha (by decide) (by decide) (cV hst.1) (dw hst.2)) (fun σ H Q z=>kY z)
  match ds,h with
  | [.int i,.int j],h=>exact ⟨i,j,rfl,(N4 h).symm⟩
 ·subst hb
  refine PE.weak (gA (zw (b:=.max2) (g:=fun i j=>if j > i then j else i) (fun ds d h=>?_) (v9 (O.calm hu))) (dU O hg) (hB _ (by decide +kernel)) (by decide +kernel) ha (by decide) (by decide) (cV hst.1) (dw hst.2)) (fun σ H Q z=>kY z)
  match ds,h with
  | [.int i,.int j],h=>exact ⟨i,j,rfl,(N4 h).symm⟩
end
section
variable {K:NO}
noncomputable def nL (H H':Hp):Prop:=(∀ a vs,Rd H a (.tup vs)->Rd H' a (.tup vs))/\∀ a vs,Rd H a (.lst vs)->Rd H' a (.lst vs)
mutual
theorem RD.tr (q:nL H H'):∀ {v:V}{d:BT.D},RD K m H v d->RD K m H' v d
 | _,_,.non=>.non
 | _,_,.bl b=>.bl b
 | _,_,.int i=>.int i
 | _,_,.str y h=>.str y h
 | _,_,.tup h r=>.tup (h.elim (fun z=>.inl ⟨q.1 _ _ z.1,z.2⟩) .inr) (RDs.tr q r)
 | _,_,.lst h r=>.lst (h.elim (fun z=>.inl ⟨q.2 _ _ z.1,z.2⟩) .inr) (RDs.tr q r)
theorem RDs.tr (q:nL H H'):∀ {vs:List V}{ds:List BT.D},RDs K m H vs ds->RDs K m H' vs ds
 | _,_,.nil=>.nil
 | _,_,.cons r t=>.cons (RD.tr q r) (RDs.tr q t)
end
theorem RA.tr (q:nL H H') (r:RA K m H v x):RA K m H' v x:=by
 cases r with
 | p r=>exact .p (r.tr q)
 | r h=>exact .r h
 | o h=>exact .o h
theorem RFs.tr (q:nL H H') (r:RFs K m H vs fs):RFs K m H' vs fs:=by
 induction r with
 | nil=>exact .nil
 | cons r t ih=>exact .cons (r.tr q) ih
theorem RCs.tr (q:nL H H') (r:RCs K m H vs cs):RCs K m H' vs cs:=by
 induction r with
 | nil=>exact .nil
 | cons r t ih=>exact .cons (r.tr q) ih
theorem RWs.tr (q:nL H H') (r:RWs P w K m H vs ws) (n:BT.noC ws=true):RWs P w K m H' vs ws:=by
 induction r with
 | nil=>exact .nil
 | cons r t ih =>
  cases r with
  | p r=>exact .cons (.p (r.tr q)) (ih n)
  | r h=>exact .cons (.r h) (ih n)
  | k _ _=>exact BT.dN n
  | kl _ _=>exact BT.dN n
  | o h=>exact .cons (.o h) (ih n)
  | c _ _=>exact BT.dN n
  | x _=>exact BT.dN n
  | g _ _=>exact BT.dN n
theorem RCs.ws (r:RCs K m H vs cs):RWs P w K m H vs (cs.map BT.Cp.w):=by
 induction r with
 | nil=>exact .nil
 | cons r t ih=>exact .cons r.rw ih
theorem RWs.app (r:RWs P w K m H vs ws) (t:RWs P w K m H us zs):RWs P w K m H (vs++us) (ws++zs):=by
 induction r with
 | nil=>exact t
 | cons r _ ih=>exact .cons r ih
theorem RKs.tr (q:nL H H') (r:RKs K m H vs kvs):RKs K m H' vs kvs:=by
 induction r with
 | nil=>exact .nil
 | cons hk r t ih=>exact .cons (hk.tr q) (r.tr q) ih
theorem RH.tr (R:RH K m H h) (q:nL H H') (k:∀ a∈m,H' a=H a) (tb:TB K H'):RH K m H' h:=by
 refine ⟨R.nd,R.len,fun i a c e1 e2=>?_,tb⟩
 have z:=R.cl i a c e1 e2
 have e:=k a (Oe e1)
 cases c with
 | l xs=>obtain ⟨vs,h1,h2⟩:=z;exact ⟨vs,e.trans h1,h2.tr q⟩
 | o c fs=>obtain ⟨C,dx,vs,h1,h2,h3⟩:=z;exact ⟨C,dx,vs,e.trans h1,h2,h3.tr q⟩
 | d kvs=>obtain ⟨vs,h1,h2⟩:=z;exact ⟨vs,e.trans h1,h2.tr q⟩
 | z=>obtain ⟨ob,vs,h1⟩:=z;exact ⟨ob,vs,e.trans h1⟩
theorem Le.sq (q:Le H H'):nL H H':=⟨fun a vs r=>r.elim (fun z=>.inl (q _ _ z)) fun ⟨o,z⟩=>.inr ⟨o,q _ _ z⟩,fun a vs r=>r.elim (fun z=>.inl (q _ _ z)) fun ⟨o,z⟩=>.inr ⟨o,q _ _ z⟩⟩
theorem RH.le (R:RH K m H h) (q:Le H H'):RH K m H' h:=R.tr q.sq (fun a ha=>by
 obtain ⟨o,e,_⟩:=R.mu ha
 rw[e];exact q _ _ e) (q.tb R.tb)
theorem iN.le (q:Le H H') (r:iN m H cl xs vs):iN m H' cl xs vs:=by
 induction r with
 | nil=>exact .nil
 | cons h1 h2 h3 r t ih=>exact .cons h1 ⟨q _ _ h2.1,h2.2⟩ h3 r ih
theorem jN.le (q:Le H H') (h:jN m H f L vs):jN m H' f L vs:=by
 obtain ⟨bt,ps,fs,pa,be,sc,cl,pm,ctv,c',oc,os,t,ql,h0,h1,h2,h3,h4,h5,h6,h7,h8,h9,h10⟩:=h
 exact ⟨bt,ps,fs,pa,be,sc,cl,pm,ctv,c',oc,os,t,ql,h0,h1,h2,h3,h4,h5,⟨q _ _ h6.1,h6.2⟩,⟨q _ _ h7.1,h7.2⟩,h8,h9,h10.le q⟩
theorem RW.le (q:Le H H') {v:V}{x:BT.W} (r:RW P w K m H v x):RW P w K m H' v x:=by
 cases r with
 | p r=>exact .p (r.tr q.sq)
 | r h=>exact .r h
 | k h r=>exact .k h r
 | kl h r=>exact .kl ⟨q _ _ h.1,h.2⟩ (r.tr q.sq)
 | o h=>exact .o h
 | c h r=>exact .c (h.le q) (r.tr q.sq)
 | x h n xt=>exact .x (q _ _ h) n xt
 | g h r=>exact .g h r
end
noncomputable def ff (cl:List (Str×N2)) (H:Hp):Prop:=∀ x c,cl.lookup x=some c->∃ o u,H c=some (.frz o (.own 0))/\o.data=.cell u
open Classical in
noncomputable def hid (cl:List (Str×N2)) (H:Hp):Hp:=fun b=>if ∃ x,cl.lookup x=some b then none else H b
open Classical in
noncomputable def ret (cl:List (Str×N2)) (H0 H:Hp):Hp:=fun b=>if ∃ x,cl.lookup x=some b then H0 b else H b
section
theorem zx (e:cl.lookup x=some b):hid cl H b=none:=if_pos ⟨x,e⟩
theorem je (e:¬ ∃ x,cl.lookup x=some b):hid cl H b=H b:=if_neg e
theorem gH (e:H b=none):hid cl H b=none:=by
 unfold hid;split<;>first | rfl | exact e
theorem mT (e:cl.lookup x=some b):ret cl H H' b=H b:=if_pos ⟨x,e⟩
theorem fP (e:¬ ∃ x,cl.lookup x=some b):ret cl H H' b=H' b:=if_neg e
theorem F2 (e:hid cl H b=some u):H b=some u/\¬ ∃ x,cl.lookup x=some b:=by
 unfold hid at e
 split at e
 ·exact BT.jr e
 ·rename_i c;exact ⟨e,c⟩
noncomputable def jU:HO->Bool
 | .frz o (.own _)=>match o.data with | .cell _=>true | _=>false
 | _=>false
theorem JH {o:HO} (z:Fv o=true):jU o=false:=by
 cases o with
 | frz ob u=>cases u<;>first | rfl | exact BT.dN z
 | _=>first | rfl | exact BT.dN z
theorem ff.out (C:ff cl H) (e:H b=some u) (n:jU u=false):¬ ∃ x,cl.lookup x=some b:=fun ⟨x,q⟩=>by
 obtain ⟨o,v,h1,h2⟩:=C x b q
 rw[e] at h1;cases h1
 simp[jU,h2] at n
theorem ff.hid (C:ff cl H) (e:H b=some u) (n:jU u=false):BS.hid cl H b=some u:=by rw[je (C.out e n)];exact e
theorem ff.sq (C:ff cl H):nL H (BS.hid cl H):=⟨fun a vs r=>r.elim (fun z=>.inl (C.hid z rfl)) fun ⟨o,z⟩=>.inr ⟨o,C.hid z rfl⟩,fun a vs r=>r.elim (fun z=>.inl (C.hid z rfl)) fun ⟨o,z⟩=>.inr ⟨o,C.hid z rfl⟩⟩
theorem ff.tb (C:ff cl H) {K:NO} (t:TB K H):TB K (BS.hid cl H):=t.mono (fun P ps e=>C.hid e rfl) fun a o vs d e=>C.hid e (by simp[jU,d])
theorem ff.rh (C:ff cl H) {K:NO} (R:RH K m H h):RH K m (BS.hid cl H) h:=R.tr C.sq (fun a ha=>by
 obtain ⟨o,e,z⟩:=R.mu ha
 rw[e];exact C.hid e (JH z)) (C.tb R.tb)
theorem F3 (N:∀ x c,cl.lookup x=some c->H' c=none):Le H' (ret cl H H'):=fun a u e=>by
 rw[fP (fun ⟨x,q⟩=>by rw[N x a q] at e;exact BT.jr e)];exact e
theorem ff.F4 (C:ff cl H) (N:∀ x c,cl.lookup x=some c->H' c=none) {K:NO} (x:Ext m (BS.hid cl H) m' H') (R:RH K m' H' h'):Ext m H m' (ret cl H H'):=by
 obtain ⟨e,hm,he⟩:=x.pre
 refine ⟨⟨e,hm,fun a ha=>?_⟩,fun a o h n t=>?_,fun a h=>?_,fun a ob vs h=>?_⟩
 ·have z:=he a ha
  have hne:¬ ∃ y,cl.lookup y=some a:=fun ⟨y,q⟩=>by
   obtain ⟨o,e1,_⟩:=R.mu (a:=a) (by rw[hm];exact Ou _ ha)
   rw[N y a q] at e1;exact BT.jr e1
  rw[je hne] at z;exact z
 ·by_cases c:∃ y,cl.lookup y=some a
  ·obtain ⟨y,q⟩:=c;rw[mT q];exact h
  ·rw[fP c];exact x.keep a o (by rw[je c];exact h) n t
 ·by_cases c:∃ y,cl.lookup y=some a
  ·obtain ⟨y,q⟩:=c;rw[mT q] at h;exact h
  ·rw[fP c] at h;have z:=x.live a h;rw[je c] at z;exact z
 ·by_cases c:∃ y,cl.lookup y=some a
  ·obtain ⟨y,q⟩:=c;rw[mT q];exact h
  ·rw[fP c];exact x.frz a ob vs (by rw[je c];exact h)
end
theorem iN.get (r:iN m H cl fs vs):∀ {i:Nat}{x:Str},fs[i]?=some x->∃ c o u v,cl.lookup x=some c/\Tr m H c o/\o.data=.cell (some u)/\vs[i]?=some v/\RelV v u:=by
 induction r with
 | nil=>intro i x e;simp at e
 | cons h1 h2 h3 r t ih =>
  intro i x e
  cases i with
  | zero=>simp at e;subst e;exact ⟨_,_,_,_,h1,h2,h3,rfl,r⟩
  | succ i=>simpa using ih (by simpa using e)
theorem iN.len (r:iN m H cl fs vs):vs.length=fs.length:=by
 induction r with
 | nil=>rfl
 | cons h1 h2 h3 r t ih=>simp[ih]
theorem iN.cells (r:iN m H cl fs vs) (hf:∀ x c,cl.lookup x=some c->x∈fs):ff cl H:=fun x c e=>by
 obtain ⟨i,hi⟩:=Pk (hf x c e)
 obtain ⟨c',o,u,v,h1,h2,h3,_⟩:=r.get hi
 rw[e] at h1;cases h1
 exact ⟨o,_,h2.1,h3⟩
theorem B6 (hp:LPa pa ps) (hl:us.length=ps.length):UF (PySem.W.kla_fn name q pa be sc cl pm cdv ctv) ⟨us,[]⟩=pure (ps.zip us):=by
 cases hp with
 | one=>match us,hl with | [_],_=>rfl
 | two=>match us,hl with | [_,_],_=>rfl
theorem F5 (hp:LPa pa ps) (nd:ps.Nodup) (hl:us.length=ps.length) {i:Nat} (e:ps[i]?=some x):∃ u,us[i]?=some u/\(ps.zip us).reverse.lookup x=some u:=by
 cases hp with
 | one =>
  match us,hl,i,e with
  | [u],_,0,e=>simp at e;subst e;exact ⟨u,rfl,by simp⟩
  | [u],_,i+1,e=>simp at e
 | two =>
  match us,hl,i,e with
  | [u,v],_,0,e =>
   simp at e;subst e
   simp at nd
   exact ⟨u,rfl,by simp[Pw,beq_false_of_ne nd]⟩
  | [u,v],_,1,e=>simp at e;subst e;exact ⟨v,rfl,by simp⟩
  | [u,v],_,i+2,e=>simp at e
structure LF (ps fs:List Str) (sc:OS):Prop where
 kd:sc.kind=.function
 co:sc.isCoroutine=false
 ge:sc.isGenerator=false
 cell:∀ y∈sc.names,y.2≠.cell
 loc:∀ x∈ps,sc.names.lookup x=some .local
 fre:∀ x∈fs,sc.names.lookup x=some .free/\(x,OY)∈sc.names
 all:∀ y∈sc.names,y.2=.free->y.1∈fs
 nd:(ps++fs).Nodup
theorem mU:∀ {l:List Str},jx l=true->l.Nodup
 | [],_=>Tc
 | x :: r,h=>by
  simp only[jx,NX,Qn] at h
  refine List.nodup_cons.mpr ⟨fun z=>?_,mU h.2⟩
  have:=h.1
  simp[z] at this
theorem MG (h:rg ps fs sc=true):LF ps fs sc:=by
 simp only[rg,NX,Qn] at h
 obtain ⟨⟨⟨⟨⟨⟨⟨h1,h2⟩,h3⟩,h4⟩,h5⟩,h6⟩,h7⟩,h8⟩:=h
 rw[OL] at h4 h5 h6 h7
 refine ⟨eq_of_beq h1,h2,h3,fun y hy e=>?_,fun x hx=>eq_of_beq (h5 x hx),fun x hx=>?_,fun y hy e=>?_,mU h8⟩
 ·have:=h4 y hy;rw[e] at this;exact BT.dN this
 ·have:=h6 x hx
  simp only[NX] at this
  exact ⟨eq_of_beq this.1,by simpa using this.2⟩
 ·have:=h7 y hy
  rw[e] at this
  simpa using this
noncomputable def zy (P:Oc) (w:Oo) (K:NO) (mg:Str->Option NS) (base:Heap) (N:List Str) (q:Str) (sc:OS) (cl:List (Str×N2)) (f c':N2) (A:ON) (outer:List Env) (s:NT) (H:Hp):Cx where
 prog:=P
 w:=w
 K:=K
 mg:=mg
 base:=base
 A:=A.deeper (QG q sc s.heap.objs.size f (.ref c') cl)
 N:=N
 s₀:=s
 H₀:=hid cl H
 env:=QG q sc s.heap.objs.size f (.ref c') cl
 outer:=outer
 stack:=QG q sc s.heap.objs.size f (.ref c') cl :: outer
 ex:=[]
 calm:=true
 fn:=fun _=>false
 pn:=[]
 xe:=fun _ _=>False
theorem B7 (C:ff cl H) (ok:HOk P w H h) (k:∀ b o,h.get? b=some o->h1.get? b=some o):HOk P w (hid cl H) h1:=fun b u e=>by
 obtain ⟨e1,_⟩:=F2 e
 exact (ok b u e1).stay (fun c o _ q=>k c o q) (fun c q=>C.hid q rfl) fun c xs q=>C.hid q rfl
theorem B8 {K:NO}
 (hp:LPa pa ps) (F:LF ps fs sc) (inj:∀ x y c,cl.lookup x=some c->cl.lookup y=some c->x=y) (hfs:∀ x c,cl.lookup x=some c->x∈fs) (cp:iN m H cl fs cvs) (hd:A.handled=none) (e0:o4 P w K mg base A outer s H) (r:cX vs us) (hl:us.length=ps.length)
 (hns:h1.Ns s.heap.objs.size (fun y=>(ps.zip us).reverse.lookup y)) (hk1:∀ b o,s.heap.get? b=some o->h1.get? b=some o) :
 Inv (zy P w K mg base (ps++fs) q sc cl f c' A outer s H) [] (vs.map some++cvs.map some) (hid cl H) { s with heap:=h1,toks:=tk }:=by
 have C:=cp.cells hfs
 have lv:vs.length=ps.length:=r.length.trans hl
 have lc:=cp.len
 have noA:∀ b:N2,b∉(zy P w K mg base (ps++fs) q sc cl f c' A outer s H).ex:=fun b z=>absurd (show b∈([]:List N2) from z) (by simp)
 have cel:∀ x c,cl.lookup x=some c->∃ u,s.heap.IsCell c (some u):=fun x c e=>by
  obtain ⟨i,hi⟩:=Pk (hfs x c e)
  obtain ⟨c2,o,u,v,g1,g2,g3,_⟩:=cp.get hi
  rw[e] at g1;cases g1
  exact ⟨u,o,(e0.hok _ _ g2.1).1,g3⟩
 refine ⟨⟨e0.mod,F.kd,rfl,rfl,N1 _,inj,fun x hx=>?_,fun x c z=>absurd (show false=true from z) (by decide),fun _=>hd,T5 e0.frames,.inr ⟨rfl,rfl⟩,fun b z=>absurd z (noA b),fun b o e=>⟨(e0.bs b o e).1,gH (e0.bs b o e).2⟩,e0.bsz,fun b _ _=>noA b,fun b z=>absurd z (noA b),e0.jE,fun b hb=>gH (e0.frf b hb)⟩,
  rfl,e0.bare,Un.kept hk1,⟨_,hns,fun i x v g1 g2 g3=>?_⟩,fun x c e=>?_,gH (e0.hok.fresh (N1 _)),fun x c e=>zx e,fun p hp=>absurd (show p∈([]:List (N2×Obj)) from hp) (by simp),B7 C e0.hok hk1,?_⟩
 ·have hx:sc.names.lookup x=some .cell\/sc.names.lookup x=some .free:=hx
  rcases hx with hx | hx
  ·exact absurd rfl (F.cell _ (Pa hx))
  ·obtain ⟨i,hi⟩:=Pk (F.all _ (Pa hx) rfl)
   obtain ⟨c,_,_,_,g1,_⟩:=cp.get hi
   exact ⟨c,g1⟩
 ·have g1:(ps++fs)[i]?=some x:=g1
  by_cases c:i < ps.length
  ·rw[N6 c] at g1
   rw[N6 (by simpa [lv] using c),OE] at g2
   obtain ⟨u,g4,g5⟩:=F5 hp (F.nd.sublist (List.sublist_append_left _ _)) hl g1
   obtain ⟨v',g6,g7⟩:=Option.map_eq_some_iff.mp g2
   cases g7
   obtain ⟨u',g8,rv⟩:=r.get g6
   rw[g4] at g8;cases g8
   exact ⟨u,rv,.inl ⟨F.loc x (Oe g1),g5⟩⟩
  ·rw[Os (by lia)] at g1
   rw[Os (by simp[lv];lia),OE] at g2
   simp only[N5,lv] at g2
   obtain ⟨c2,o,u,v2,k1,k2,k3,k4,k5⟩:=cp.get g1
   rw[k4] at g2
   cases g2
   exact ⟨u,k5,.inr ⟨.inr (F.fre x (Oe g1)).1,c2,k1,o,hk1 _ _ (e0.hok _ _ k2.1).1,k3⟩⟩
 ·obtain ⟨u,o,z1,z2⟩:=cel x c e
  exact ⟨some u,o,hk1 _ _ z1,z2⟩
 ·show _=(ps++fs).length
  simp[lv,lc]
section
end
section
open PySem.W PySem.Calls PySem.Builtin PySem.Builtin.ObjectAttr PySem.Builtin.Getset_descriptor
variable {E:NS->NT->Prop}{K:NO}
end
section
end
section
variable {X:Cx}
theorem wU (hu:X.A.units+150 < cLine):MtR X "list.index" (rMe X.prog X.w X.K .lindex):=by
 intro pins s σ H v vs v' us Q I rv rus h
 obtain ⟨m,h,x,ws,z,h',R,rx,rws,e,post⟩:=h
 cases x with
 | r n=>cases ws with
  | nil=>(first | exact cR e | simp[BT.meW] at e)
  | cons _ _=>(first | exact cR e | simp[BT.meW] at e)
 | k kvs=>(first | exact cR e | simp[BT.meW] at e)
 | c _ _=>(first | exact cR e | simp[BT.meW] at e)
 | x _=>(first | exact cR e | simp[BT.meW] at e)
 | o kvs=>(first | exact cR e | simp[BT.meW] at e)
 | p d =>
  rw[BT.sU] at e
  cases g:BT.dj ws with
  | none=>rw[g] at e;exact cR e
  | some ds =>
   rw[g] at e
   obtain ⟨b,e1,e2⟩:=cY e
   cases e2
   have rds:=rws.pure g
   cases d<;>first | exact cR e1 | skip
   rename_i xs
   cases ds with
   | nil=>exact cR e1
   | cons d0 dr =>
    cases dr with
    | cons _ _=>exact cR e1
    | nil =>
     rw[BT.EW] at e1
     split at e1
     ·rename_i c
      obtain ⟨j,e3,e4⟩:=cY e1
      subst e4
      obtain ⟨i,rfl,hi,h1,h2⟩:=jz e3
      cases rds with
      | cons r0 rn =>
       cases rn
       obtain ⟨u,rfl,ru⟩:=rus.one
       cases rx with
       | p rx =>
        obtain ⟨a,vt,rfl,ha,ra⟩:=RR.lst (.d rx)
        cases rv
        obtain ⟨zz,its,n,q1,_,ho⟩:=rdL I ha
        have sl:sizeLine=16777216:=R8
        have hl:=q1.length
        have hl2:=ra.length
        have hi':i < its.toArray.size:=by rw[NV];lia
        refine Pj F.slot_list_index ⟨_,ho,rfl⟩ F.entry_list_index (F.args_list_index_2 _ _)
         (SeqAt.list_indexAt a its.toArray n none #[] u (eN s.heap (pd d0)) i hi' (by lia) ?_ ?_) ⟨ho,?_,?_⟩
        ·rw[show its.toArray[i]=its[i]'(by lia) by simp,jc I ra q1 i (by lia) hi];exact h1
        ·intro k hk hlt
         have hk':k < its.length:=by simpa using hk
         rw[show its.toArray[k]=its[k]'hk' by simp,jc I ra q1 k hk' (by lia)];exact h2 k (by lia) hlt
        ·intro y hy
         exact gn hu I (.d r0) ru ra q1 c y (by simpa using hy)
        ·refine ⟨.int (((0+i:Nat):Nat):Int),H,I.tok _,⟨s.toks,?_⟩,post.here R (.int _)⟩
         simp
     ·exact cR e1
theorem zA (hu:X.A.units+150 < cLine):MtR X "list.count" (rMe X.prog X.w X.K .count):=by
 intro pins s σ H v vs v' us Q I rv rus h
 obtain ⟨m,h,x,ws,z,h',R,rx,rws,e,post⟩:=h
 cases x with
 | r n=>cases ws with
  | nil=>(first | exact cR e | simp[BT.meW] at e)
  | cons _ _=>(first | exact cR e | simp[BT.meW] at e)
 | k kvs=>(first | exact cR e | simp[BT.meW] at e)
 | c _ _=>(first | exact cR e | simp[BT.meW] at e)
 | x _=>(first | exact cR e | simp[BT.meW] at e)
 | o kvs=>(first | exact cR e | simp[BT.meW] at e)
 | p d =>
  rw[BT.wB] at e
  cases g:BT.dj ws with
  | none=>rw[g] at e;exact cR e
  | some ds =>
   rw[g] at e
   obtain ⟨b,e1,e2⟩:=cY e
   cases e2
   have rds:=rws.pure g
   cases d<;>first | exact cR e1 | skip
   rename_i xs
   cases ds with
   | nil=>exact cR e1
   | cons d0 dr =>
    cases dr with
    | cons _ _=>exact cR e1
    | nil =>
     rw[BT.EV] at e1
     obtain ⟨c,e1⟩:=c6 e1
     cases e1
     cases rds with
     | cons r0 rn =>
      cases rn
      obtain ⟨u,rfl,ru⟩:=rus.one
      cases rx with
      | p rx =>
       obtain ⟨a,vt,rfl,ha,ra⟩:=RR.lst (.d rx)
       cases rv
       obtain ⟨zz,its,n,q1,_,ho⟩:=rdL I ha
       have hl:=q1.length
       have hl2:=ra.length
       have ec:its.countP (eN s.heap (pd d0))=xs.countP fun y=>BT.eqv y d0:=by
        have key:its.map (eN s.heap (pd d0))=xs.map fun y=>BT.eqv y d0:=by
         refine List.ext_getElem (by rw[N5,N5];lia) fun i h1 h2=>?_
         rw[N5] at h1 h2
         rw[List.getElem_map,List.getElem_map]
         exact jc I ra q1 i h1 h2
        have cm:∀ {α:Type} (f:α->Bool) (l:List α),l.countP f=(l.map f).countP id:=fun f l=>by rw[List.countP_map];rfl
        rw[cm,cm (fun y=>BT.eqv y d0),key]
       refine Pj F.slot_list_count ⟨_,ho,rfl⟩ F.entry_list_count (F.args_list_count_2 _ _) (SeqAt.list_countAt a its.toArray n none #[] u (eN s.heap (pd d0))) ⟨ho,?_,?_⟩
       ·intro y hy
        exact gn hu I (.d r0) ru ra q1 c y (by simpa using hy)
       ·refine ⟨.int ((xs.countP fun y=>BT.eqv y d0:Nat):Int),H,I.tok _,⟨s.toks,?_⟩,post.here R (.int _)⟩
        rw[← ec]
end
structure nM (K:NO) (J:It) (m0:List N2) (H0:Hp) (ds:List BT.D) (C:BT.HH->Prop):Prop where
 go:∀ m H h (i:Nat),Ext m0 H0 m H->RH K m H h->C h->i < ds.length->J.go i H
 yld:∀ m H h (i:Nat) x H' d,Ext m0 H0 m H->RH K m H h->C h->ds[i]?=some d->J.yld i H x H'->Ext m H m H'/\Le H H'/\RD K m H' x d
 stop:∀ m H h,Ext m0 H0 m H->RH K m H h->C h->J.stop ds.length H
noncomputable def uZ (sr:BT.Sr) (ws:List BT.W):Prop:=BT.jn ws=true\/(sr=.seq/\∃ q,ws=[.r q])
noncomputable def pT (ws:List BT.W) (ds:List BT.D) (h:BT.HH):Prop:=∀ q,ws=[.r q]->BT.lat h q=some ds
theorem uZ.p (h:uZ sr ws) (n:sr≠.seq):BT.jn ws=true:=h.resolve_right fun z=>n z.1
theorem mV (a:BT.jn ws=true):pT ws ds h:=fun q e=>by subst e;exact BT.dN a
noncomputable def Itv (K:NO) (a:N2) (n:Nat):It :=
 ⟨fun i H=>i < n/\∃ xs,SqL K H a xs/\xs.length=n,fun i H x H'=>H'=H/\∀ xs,SqL K H a xs->xs[n - 1 - i]?=some x,fun i H=>i=n⟩
theorem zB {K:NO} (a it:N2) (n:Nat):Turn P w K tg (Itv K a n) [it] it (fun i h=>h.IsRevIter it a ((n:Int) - 1 - i)) where
 mem:=by simp
 obj:=fun i h st b hb=>by
  have e:b=it:=by simpa using hb
  subst e
  obtain ⟨o,e,c,d⟩:=st
  exact ⟨o,e,fun v z=>by rw[d] at z;cases z⟩
 keep:=fun i h h' st k=>st.at fun o e=>k it (by simp) o e
 item:=by
  intro X hP hw hK hc i pins s σ H E I hf st hg
  subst hP hw hK
  obtain ⟨hi,xs,hq,hx⟩:=hg
  obtain ⟨its,rv,p,hz⟩:=I.list hq
  have hl:=rv.length
  have hj:n - 1 - i < xs.length:=by lia
  obtain ⟨u,hu,ru⟩:=rv.get (N8 hj)
  obtain ⟨f0,f1,f2,f3,f4,f5⟩:=hf it (by simp)
  have ei:((n:Int) - 1 - (i:Int))=(((n - 1 - i:Nat)):Int):=by lia
  have st':s.heap.IsRevIter it a (((n - 1 - i:Nat)):Int):=by rw[← ei];exact st
  refine wpAny_pyNext_rev_item st' p.isList (x:=u) (by simpa using hu) fun h' st'' sb=>?_
  have I1:Inv X pins σ H { s with heap:=h' }:=I.turned (t':=s.toks) (fun b o hb e=>(sb.2 b hb).trans e) f0 f1 f3 f4 f5
  obtain ⟨o,e,c,d⟩:=id st''
  refine ⟨u,rfl,nW (s:={ s with heap:=h' }) e c d (by decide) ⟨_,H,I1,ru,⟨rfl,fun ys hy=>by rw[I.lV hy hq];exact N8 hj⟩,?_,fun b hb=>(hf b hb).1⟩⟩
  have e2:(((n - 1 - i:Nat)):Int) - 1=(n:Int) - 1 - ((i+1:Nat):Int):=by lia
  rw[e2] at st''
  exact st''
 done:=by
  intro X hP hw hK hc i pins s σ H E I hf st hg
  subst hP hw hK
  have hg:i=n:=hg
  subst hg
  obtain ⟨f0,f1,f2,f3,f4,f5⟩:=hf it (by simp)
  have e1:(i:Int) - 1 - (i:Int)=-1:=by lia
  have st':s.heap.IsRevIter it a (-1):=by rw[← e1];exact st
  exact wpAny_pyNext_rev_end (I.ok.hd hc) st' fun h' eb=>⟨rfl,I.turned (t':=s.toks) (fun b o hb e=>eb b o hb e) f0 f1 f3 f4 f5⟩
 self:=fun _ _ _ _ _ st h=>wpAny_pyIter_revIter st h
theorem Inv.u0 {X:Cx}{pins:List (N2×Obj)}{σ:L2.St}{H H':Hp}{s:NT}{h':Heap}{fp:List N2}{tk:Nat} (I:Inv X pins σ H s) (hf:∀ b∈fp,nC X pins H b)
 (k:∀ b o,b∉fp->s.heap.get? b=some o->h'.get? b=some o) (hs:∀ b,b < s.heap.objs.size->H' b=H b) (hok:HOk X.prog X.w H' h'):Inv X pins σ H' { s with heap:=h',toks:=tk }:=by
 have hlt:∀ b u,H b=some u->H' b=some u:=fun b u e=>by rw[hs b (I.hok.lt e)];exact e
 refine I.step (g':=s.gens) (d':=s.drawn) (ch:=fp) (fun b hb=>?_) (fun b o _ _ hc e _=>k b o hc e) (fun b o _ _ hc e _=>⟨o.slots,k b o hc e⟩) (fun b o _ e n=>by rw[hs b (N3 e)];exact n)
  (fun b o hc e=>⟨o,k b o hc e⟩) (fun b xs e=>hlt b _ e) (fun b o u e=>hlt b _ e) (fun b ps e=>⟨#[],by rw[hlt b _ e];simp⟩) (fun m hm=>?_) hok I.bare
 ·obtain ⟨_,f1,_,f3,f4,f5⟩:=hf b hb
  exact ⟨f3,f1,f4,f5⟩
 ·obtain ⟨o,es,ep,ho,r⟩:=hm
  exact ⟨o,es,ep,k _ o (fun z=>(hf _ z).2.1 rfl) ho,r⟩
inductive iD (X:Cx) (F:FT) (G:Str->Option BT.W) (sr:BT.Sr) (sa:BT.Es) (σ:L2.St) (H:Hp) (R:It->Hp->Prop):Prop where
 | mk (m:List N2) (s:BT.Sl) (h:BT.HH) (ws:List BT.W) (h':BT.HH) (ds:List BT.D) (RR:RH X.K m H h) (S:RS X.prog X.w X.K m H σ s) (e:BT.evs F G sa s h=some (ws,h')) (e2:(BT.rds ws h').bind (BT.fK sr)=some ds) (ha:uZ sr ws)
  (p:∀ H' m' J,Ext m H m' H'->RH X.K m' H' h'->nM X.K J m' H' ds (pT ws ds)->R J H'):iD X F G sr sa σ H R
theorem PI.weak (h:PI X tg e t) (q:∀ σ H R,t' σ H R->t σ H R):PI X tg e t':=fun pins s σ H R I hw=>h pins s σ H R I (q _ _ _ hw)
section
theorem B9 {K:NO} (h:(Rd H0 a (.lst vs)/\a∉m0)\/KL K a vs) (r:RDs K m0 H0 vs ds):nM K (Itl K a) m0 H0 ds C:=by
 have k:∀ {m H},Ext m0 H0 m H->SqL K H a vs:=fun x=>LL.sq (h.elim (fun q=>.inl (Rd.ext x q.1 q.2).1) .inr)
 refine ⟨fun m H hh i x _ _ hi=>?_,fun m H hh i v H' d x RR _ hd y=>?_,fun m H _ x _ _=>⟨vs,k x,by rw[r.length];exact N1 _⟩⟩
 ·exact ⟨vs,_,k x,N8 (by rw[r.length];exact hi)⟩
 ·obtain ⟨rfl,y⟩:=y
  obtain ⟨u,h1,h2⟩:=(r.ext x).get hd
  have:=y vs (k x)
  rw[h1] at this
  cases this
  exact ⟨.refl _ _,fun _ _ e=>e,h2⟩
theorem F6 {K:NO} (h:(Rd H0 a (.tup vs)/\a∉m0)\/KT K a vs) (r:RDs K m0 H0 vs ds):nM K (Itt K a) m0 H0 ds C:=by
 have k:∀ {m H},Ext m0 H0 m H->SqT K H a vs:=fun x=>h.elim (fun q=>.inl (Rd.ext x q.1 q.2).1) fun ⟨o,its,n,q,_⟩=>.inr ⟨o,its,n,q⟩
 refine ⟨fun m H hh i x _ _ hi=>?_,fun m H hh i v H' d x RR _ hd y=>?_,fun m H _ x _ _=>⟨vs,k x,by rw[r.length];exact N1 _⟩⟩
 ·exact ⟨vs,_,k x,N8 (by rw[r.length];exact hi)⟩
 ·obtain ⟨rfl,y⟩:=y
  obtain ⟨u,h1,h2⟩:=(r.ext x).get hd
  have:=y vs (k x)
  rw[h1] at this
  cases this
  exact ⟨.refl _ _,fun _ _ e=>e,h2⟩
theorem F7 {K:NO} (h:(Rd H0 a (.lst vs)/\a∉m0)\/KL K a vs) (r:RDs K m0 H0 vs ds):nM K (Itv K a ds.length) m0 H0 ds.reverse C:=by
 have k:∀ {m H},Ext m0 H0 m H->SqL K H a vs:=fun x=>LL.sq (h.elim (fun q=>.inl (Rd.ext x q.1 q.2).1) .inr)
 refine ⟨fun m H hh i x _ _ hi=>?_,fun m H hh i v H' d x RR _ hd y=>?_,fun m H _ x _ _=>by show ds.reverse.length=ds.length;simp⟩
 ·exact ⟨by simpa using hi,vs,k x,r.length⟩
 ·obtain ⟨rfl,y⟩:=y
  have hi:i < ds.length:=by
   have:=getD_some hd
   simpa using this
  have hd':ds[ds.length - 1 - i]?=some d:=by
   rw[Ub hi] at hd
   exact hd
  obtain ⟨u,h1,h2⟩:=(r.ext x).get hd'
  have:=y vs (k x)
  rw[h1] at this
  cases this
  exact ⟨.refl _ _,fun _ _ e=>e,h2⟩
theorem F8 {K:NO} (lo:Int) (n:Nat):nM K (Itr lo n) m0 H0 (BT.upto lo n) C:=by
 have hl:(BT.upto lo n).length=n:=by simp[BT.upto]
 refine ⟨fun m H hh i x _ _ hi=>by rw[hl] at hi;exact hi,fun m H hh i v H' d x RR _ hd y=>?_,fun m H _ x _ _=>by rw[hl];exact N1 n⟩
 obtain ⟨rfl,rfl⟩:=y
 have:d=.int (lo+i):=by
  have hi:i < n:=by
   have:=getD_some hd
   rw[hl] at this
   exact this
  simp only[BT.upto,OE] at hd
  rw[RC hi] at hd
  simpa using hd.symm
 subst this
 exact ⟨.refl _ _,fun _ _ e=>e,.int _⟩
theorem pU:∀ {ws:List BT.W},BT.jn ws=true->∃ ds:List BT.D,ws=ds.map BT.W.p:=by
 intro ws
 induction ws with
 | nil=>exact fun _=>⟨[],rfl⟩
 | cons w ws ih =>
  intro h
  cases w with
  | p d =>
   obtain ⟨ds,rfl⟩:=ih h
   exact ⟨d :: ds,rfl⟩
  | _=>exact BT.dN h
theorem pV (h:BT.HH) (ds:List BT.D):BT.rds (ds.map BT.W.p) h=some ds:=by
 induction ds with
 | nil=>rfl
 | cons d ds ih =>
  show (BT.rds (ds.map BT.W.p) h).map (d :: ·)=_
  rw[ih];rfl
theorem zC (hs:sr=.seq\/sr=.rev\/sr=.rng1) (e:(BT.rds ws h).bind (BT.fK sr)=some ds) (ha:BT.jn ws=true):∃ d,ws=[.p d]/\BT.fK sr [d]=some ds:=by
 obtain ⟨xs,rfl⟩:=pU ha
 rw[pV,OI] at e
 cases xs with
 | nil=>rcases hs with rfl | rfl | rfl<;>exact cR e
 | cons d xs =>
  cases xs with
  | nil=>exact ⟨d,rfl,e⟩
  | cons d2 xs=>rcases hs with rfl | rfl | rfl<;>cases d<;>exact cR e
theorem lJ (e:BT.evs F G (.cons a .nil) s h=some (ws,h')):∃ w,ws=[w]/\BT.ev F G a s h=some (w,h'):=by
 simp only[BT.evs] at e
 obtain ⟨w,g,e1,e2⟩:=cT e
 simp only[BT.mL,BT.dm,BT.gT] at e2
 cases e2
 exact ⟨w,rfl,e1⟩
theorem Ca {K:NO} (hq:m0[q]?=some a):nM K (Itl K a) m0 H0 ds (pT [.r q] ds):=by
 have k:∀ {m H h},Ext m0 H0 m H->RH K m H h->pT [.r q] ds h->∃ vs,SqL K H a vs/\RDs K m H vs ds:=fun {m H h} x RR c=>by
  obtain ⟨e,rfl,_⟩:=x.pre
  have e1:(m0++e)[q]?=some a:=by rw[N6 (List.getElem?_eq_some_iff.mp hq).1];exact hq
  obtain ⟨vs,c1,c2⟩:=RR.cell q a ds e1 (c q rfl)
  exact ⟨vs,LL.sq (.inl (.inl c1)),c2⟩
 refine ⟨fun m H hh i x RR c hi=>?_,fun m H hh i v H' d x RR c hd y=>?_,fun m H hh x RR c=>?_⟩
 ·obtain ⟨vs,k1,k2⟩:=k x RR c
  exact ⟨vs,_,k1,N8 (by rw[k2.length];exact hi)⟩
 ·obtain ⟨vs,k1,k2⟩:=k x RR c
  obtain ⟨rfl,y⟩:=y
  obtain ⟨u,h1,h2⟩:=k2.get hd
  have:=y vs k1
  rw[h1] at this
  cases this
  exact ⟨.refl _ _,fun _ _ e=>e,h2⟩
 ·obtain ⟨vs,k1,k2⟩:=k x RR c
  exact ⟨vs,k1,by rw[k2.length];exact N1 _⟩
theorem Cb (he:PE X x (tD X F G a)):PI X tg x (iD X F G .seq (.cons a .nil)):=by
 intro pins s σ H R I q
 obtain ⟨m,s',h,ws,h',ds,RR,S,e,e2,ha,post⟩:=q
 rcases ha with ha | ⟨_,q,rfl⟩
 case inr =>
  obtain ⟨w,ew,e4⟩:=lJ e
  cases ew
  have g:BT.lat h' q=some ds:=by
   simp only[BT.rds,BT.rd,Qc] at e2
   cases g:BT.lat h' q with
   | none=>rw[g] at e2;exact cR e2
   | some xs=>rw[g] at e2;cases e2;rfl
  refine uA he pins s σ H R I ⟨m,s',h,_,h',RR,S,e4,fun v H1 m1 x1 R1 r1=>?_⟩
  cases r1 with
  | @r a n hn =>
   obtain ⟨vs,c1,c2⟩:=R1.cell q a ds hn g
   exact ⟨a,rfl,⟨vs,LL.sq (.inl (.inl c1))⟩,post H1 m1 _ x1 R1 (Ca hn)⟩
 obtain ⟨d,rfl,e3⟩:=zC (.inl rfl) e2 ha
 obtain ⟨w,ew,e4⟩:=lJ e
 cases ew
 rw[BT.yv] at e3
 cases d<;>simp only[BT.pC] at e3<;>try contradiction
 ·cases e3
  refine Er he pins s σ H R I ⟨m,s',h,_,h',RR,S,e4,fun v H1 m1 x1 R1 r1=>?_⟩
  cases r1 with
  | p r1 =>
   cases r1 with
   | @tup a vs _ h r=>exact ⟨a,rfl,⟨vs,h.elim (fun q=>.inl q.1) fun ⟨o,its,n,q,_⟩=>.inr ⟨o,its,n,q⟩⟩,post H1 m1 _ x1 R1 (F6 h r)⟩
 ·cases e3
  refine uA he pins s σ H R I ⟨m,s',h,_,h',RR,S,e4,fun v H1 m1 x1 R1 r1=>?_⟩
  cases r1 with
  | p r1 =>
   cases r1 with
   | @lst a vs _ h r=>exact ⟨a,rfl,⟨vs,LL.sq (h.elim (fun q=>.inl q.1) .inr)⟩,post H1 m1 _ x1 R1 (B9 h r)⟩
theorem zD (O:Ok X F G sc N) (hg:dR sc "range"=true) (hs:noStar e=true) (ha:PA X [e] (tDs X F G sa)):PI X tg (.Call (.Name "range" p) [e] [] pos) (iD X F G .rng1 sa):=by
 refine PI.weak (v7 (dU O hg) (O.blt _ (by decide)) ha (cV hs)) fun σ H R q=>?_
 obtain ⟨m,s',h,ws,h',ds,RR,S,e,e2,ha,post⟩:=q
 obtain ⟨d,rfl,e3⟩:=zC (.inr (.inr rfl)) e2 (ha.p (fun z=>by cases z))
 refine ⟨m,s',h,_,h',RR,S,e,fun vs H1 m1 x1 R1 r1=>?_⟩
 obtain ⟨j,rfl⟩:∃ j:Int,d=.int j:=by
  cases d with
  | int j=>exact ⟨j,rfl⟩
  | _=>exact absurd (show (none:Option (List BT.D))=some _ from e3) (fun z=>nomatch z)
 rw[BT.wD] at e3
 obtain ⟨c,e3⟩:=c6 e3
 simp only[NX,decide_eq_true_eq] at c
 cases e3
 cases r1 with
 | cons r t =>
  cases t
  cases r with
  | p r =>
   cases r
   exact ⟨j,rfl,by lia,by lia,post H1 m1 _ x1 R1 (F8 0 j.toNat)⟩
theorem Cd (O:Ok X F G sc N) (hg:dR sc "reversed"=true) (hs:noStar e=true) (he:PE X e (tD X F G a)):PI X tg (.Call (.Name "reversed" p) [e] [] pos) (iD X F G .rev (.cons a .nil)):=by
 intro pins s σ H R I q
 obtain ⟨m,s',h,ws,h',ds,RR,S,e,e2,ha,post⟩:=q
 obtain ⟨d,rfl,e3⟩:=zC (.inr (.inl rfl)) e2 (ha.p (fun z=>by cases z))
 obtain ⟨w,ew,e4⟩:=lJ e
 cases ew
 obtain ⟨xs,rfl⟩:∃ xs:List BT.D,d=.lst xs:=by
  cases d with
  | lst xs=>exact ⟨xs,rfl⟩
  | _=>exact absurd (show (none:Option (List BT.D))=some _ from e3) (fun z=>nomatch z)
 ·cases e3
  refine Call_ (jq (u:=.type "reversed") I (dU O hg) (O.blt _ (by decide)) (by decide +kernel) (O5 (thn (gO he oZ (cV hs) pos pins s σ H (fun vs H1=>∃ a vt,vs=[.ref a]/\∃ m1,Ext m H m1 H1/\RH X.K m1 H1 h'/\((Rd H1 a (.lst vt)/\a∉m1)\/KL X.K a vt)/\RDs X.K m1 H1 vt xs) I ?_) fun us s1 ⟨vs,H1,I1,r1,q1⟩=>?_) (cV hs) rfl))
  ·refine ⟨m,s',h,_,h',RR,S,e4,fun v H1 m1 x1 R1 r1=>?_⟩
   cases r1 with
   | p r1 =>
    cases r1 with
    | @lst a vt _ hh r=>exact ⟨a,vt,rfl,m1,x1,R1,hh,r⟩
  ·obtain ⟨a,vt,rfl,m1,x1,R1,hh,r⟩:=q1
   obtain ⟨u,rfl,ru⟩:=vals1 r1
   cases ru
   obtain ⟨z,its,nn,rv,hl,ee⟩:=rdL I1 (hh.elim (fun q=>.inl q.1) .inr)
   have hL:s1.heap.IsList a its.toArray:=⟨_,ee,rfl,_,rfl⟩
   have hlen:=r.length
   refine call_reversed_list hL ?_
   have stt:({ s1 with heap:=s1.heap.push (revObj a ((its.toArray.size:Int) - 1)) }:NT).heap.IsRevIter s1.heap.objs.size a ((xs.length:Int) - 1 - ((0:Nat):Int)):=by
    refine ⟨_,N9 _ rfl,rfl,?_⟩
    show Data.fields #[.ref a,rawInt ((its.toArray.size:Int) - 1)]=_
    rw[NV,← hl,hlen]
    simp
   refine wpAny_pyIter_revIter stt ?_
   refine ⟨s1.heap.objs.size,[s1.heap.objs.size],_,_,H1,rfl,I1.kept (t':=s1.toks) fun b o e=>NQ _ e,zB a _ xs.length,stt,fun b hb=>?_,post H1 m1 _ x1 R1 (F7 hh r)⟩
   have e:b=s1.heap.objs.size:=by simpa using hb
   subst e
   exact I1.sj (N1 _) (I1.hok.fresh (N1 _))
end
section
variable {K:NO}
end
section
variable {X:Cx}{F:FT}{G:Str->Option BT.W}
noncomputable def ND:V->V->V->Hp->(Hp->Prop)->Prop:=fun o i v H Q=>∃ p kvs k,o=.ref p/\i=kV k/\H p=some (.dK kvs)/\kvs.length < sizeLine/\Q (upd H p (.dK (putK kvs k v)))
end
section
variable {E:NS->NT->Prop}
end
section
variable {X:Cx}{F:FT}{G:Str->Option BT.W}
end
section
variable {X:Cx}{F:FT}{G:Str->Option BT.W}{K:NO}{m:List N2}{H:Hp}
end
section
variable {F:FT}{G:Str->Option BT.W}
end
section
variable {F:FT}{G:Str->Option BT.W}
end
section
variable {X:Cx}{F:FT}{G:Str->Option BT.W}
noncomputable def MtX (X:Cx) (id:String) (k:BT.Tx):Prop:=∀ (pins:List (N2×Obj)) (s:NT) (σ:L2.St) (H:Hp) (v:V) (vs:List V) (v':NS) (us:List NS) (Q:VK) (m:List N2) (h:BT.HH) (x:BT.W) (ws:List BT.W) (z:BT.W) (h':BT.HH),
 Inv X pins σ H s->RelV v v'->cX vs us->RH X.K m H h->RW X.prog X.w X.K m H v x->RWs X.prog X.w X.K m H vs ws->BT.kTx k (x :: ws) h=some (z,h')->Post X.prog X.w X.K m H z h' Q →
 wpAny (Oi X.prog X.w) X.A (call (.builtin id) (v' :: us)) (EP X pins σ Q) X.xe s
noncomputable def TyX (X:Cx) (T:String) (k:BT.Tx):Prop:=∀ (pins:List (N2×Obj)) (s:NT) (σ:L2.St) (H:Hp) (v:V) (v':NS) (m:List N2) (x:BT.W) (ws:List BT.W) (h:BT.HH) (r:BT.W×BT.HH),
 Inv X pins σ H s->RelV v v'->RW X.prog X.w X.K m H v x->BT.kTx k (x :: ws) h=some r->s.TypeIs v' T/\∀ a,v'=.ref a->∃ ob,s.heap.get? a=some ob/\ob.dict=none
theorem pW {k:BT.Tx}{T id:String}{name:Str}{o:BT.E}{as:BT.Es}{oe e:NY}{es:List NY}{apos cpos:Pos} (pa:Uv T) (slot:Slot T name id) (hty:typeOf (.builtin id)=pure (.type "method_descriptor")) (ty:TyX X T k) (hm:MtX X id k)
 (hb:dh oe=true) (hl:(apos.endLine==cpos.line)=true) (hst:cU (e :: es)=true) (hlen:(e :: es).length < 20) (ho:PE X oe (tD X F G o)) (ha:PA X (e :: es) (tDs X F G as)):PE X (.Call (.Attribute oe name apos) (e :: es) [] cpos) (tD X F G (.tx k (.cons o as))):=by
 intro pins s σ H Q I q
 obtain ⟨m,sl,h,z,h',R,S,ee,post⟩:=q
 simp only[BT.ev,BT.evs] at ee
 obtain ⟨xs,h1,e1,e2⟩:=cT ee
 obtain ⟨x,h2,e3,e4⟩:=cT e1
 obtain ⟨ws,h3,e5,e6⟩:=cT e4
 simp only[BT.gT] at e6
 cases e6
 have hs2:noStar e=true/\cU es=true:=by simpa only[cU,NX] using hst
 have few:((QC cpos (Ow (e :: es) X.env)).all (fun x=>!x.1)&&(Su cpos (QV [] X.env)).all (fun x=>x.1.isSome)
 &&decide ((e :: es).length+([]:List QJ).length+(if ([]:List QJ).isEmpty then 0 else 1) < 30))=true:=by
  rw[iT hst]
  have h30:decide ((e :: es).length+([]:List QJ).length+(if ([]:List QJ).isEmpty then 0 else 1) < 30)=true:=decide_eq_true (by
   simp only[N7,QH,Sj,if_true] at hlen ⊢;lia)
  rw[h30];rfl
 refine wpAny_Call_method_late (jS hb) few hl rfl (thn (ho pins s σ H (fun v H1=>∃ m1,Ext m H m1 H1/\RH X.K m1 H1 h2/\RW X.prog X.w X.K m1 H1 v x) I ⟨m,sl,h,x,h2,R,S,e3,fun v H1 m1 x1 R1 r1=>⟨m1,x1,R1,r1⟩⟩) fun v s1 zq=>?_)
 obtain ⟨xv,H1,I1,r1,m1,x1,R1,w1⟩:=zq
 obtain ⟨t1,t2⟩:=ty pins s1 σ H1 xv v m1 x ws h1 _ I1 r1 w1 e2
 refine ⟨T,id,pa,slot,hty,t1,t2,?_⟩
 have hA:=ha cpos pins s1 σ H1 (fun vs H2=>∃ m2,Ext m1 H1 m2 H2/\RH X.K m2 H2 h1/\RWs X.prog X.w X.K m2 H2 vs ws) I1 ⟨m1,sl,h2,ws,h1,R1,S.ext x1,e5,fun vs H2 m2 x2 R2 r2=>⟨m2,x2,R2,r2⟩⟩
 rw[cV hs2.1] at hA ⊢
 refine Rc (by show (false||(QC cpos (Ow es X.env)).any (·.1))=false;rw[dw hs2.2];rfl) (Ug ?_)
 refine thn hA fun us s2 zq=>?_
 obtain ⟨vs,H2,I2,r2,m2,x2,R2,w2⟩:=zq
 exact hm pins s2 σ H2 xv vs v us Q m2 h1 x ws z h' I2 r1 r2 R2 (w1.ext x2) w2 e2 fun v5 H5 m5 x5 R5 r5=>post v5 H5 m5 ((x1.trans x2).trans x5) R5 r5
theorem gq {k:BT.Tx}{ws:List BT.W}{h:BT.HH}{z:BT.W}{h':BT.HH} (hk:k≠.dget) (e:BT.kTx k ws h=some (z,h')):∃ ds d,BT.rds ws h=some ds/\BT.txD k ds=some d/\z=.p d/\h'=h:=by
 have e:((BT.rds ws h).bind fun ds=>(BT.txD k ds).map fun d=>(BT.W.p d,h))=some (z,h'):=by
  cases k with
  | dget=>exact absurd rfl hk
  | _=>exact e
 obtain ⟨ds,e1,e2⟩:=Option.bind_eq_some_iff.mp e
 obtain ⟨d,e3,e4⟩:=cY e2
 cases e4
 exact ⟨ds,d,e1,e3,rfl,rfl⟩
theorem zE {β:Type}{c:Prop} [Decidable c] {a:Option β}{b:β} (h:(if c then a else none)=some b):c/\a=some b:=by
 by_cases z:c
 ·rw[if_pos z] at h;exact ⟨z,h⟩
 ·rw[if_neg z] at h;exact cR h
theorem rD {ds:List BT.D}{d:BT.D} (e:BT.txD .join ds=some d):∃ x ys ts,ds=[.str x,.lst ys]/\BT.strsOf ys=some ts/\(ts.length<=1000/\x.length<=10/\∀ t∈ts,t.length<=1000)/\d=.str (NZ x ts):=by
 match ds,e with
 | [.str x,.lst ys],e =>
  obtain ⟨ts,e1,e2⟩:=Option.bind_eq_some_iff.mp (show ((BT.strsOf ys).bind fun ts=>if ts.length<=1000/\x.length<=10/\∀ t∈ts,t.length<=1000 then some (BT.D.str (NZ x ts)) else none)=some d from e)
  obtain ⟨c,e3⟩:=c6 e2
  exact ⟨x,ys,ts,rfl,e1,c,e3.symm⟩
theorem oG {ds:List BT.D}{d:BT.D} (e:BT.txD .split ds=some d):∃ x y,ds=[.str x,.str y]/\(y.length=1/\x.length<=BT.lim)/\d=.lst ((Txt.split x y).map .str):=by
 match ds,e with
 | [.str x,.str y],e =>
  obtain ⟨c,e3⟩:=c6 (show (if y.length=1/\x.length<=BT.lim then some (BT.D.lst ((Txt.split x y).map .str)) else none)=some d from e)
  exact ⟨x,y,rfl,c,e3.symm⟩
theorem jB {w:BT.W}{h:BT.HH}{x:Str} (e:BT.rd w h=some (.str x)):w=.p (.str x):=by
 cases w with
 | p d=>exact congrArg BT.W.p (N4 e)
 | r n=>obtain ⟨_,_,q⟩:=cY (show (BT.lat h n).map BT.D.lst=some (.str x) from e);cases q
 | _=>exact cR e
theorem fh {w:BT.W}{ws:List BT.W}{h:BT.HH}{ds:List BT.D} (e:BT.rds (w :: ws) h=some ds):∃ d r,ds=d :: r/\BT.rd w h=some d/\BT.rds ws h=some r:=by
 cases g:BT.rd w h with
 | none=>simp[BT.rds,g] at e
 | some d =>
  cases g2:BT.rds ws h with
  | none=>simp[BT.rds,g,g2] at e
  | some r=>simp[BT.rds,g,g2] at e;exact ⟨d,r,e.symm,rfl,rfl⟩
theorem Ce {K:NO}{m:List N2}{H:Hp}:∀ {vs:List V}{ys:List BT.D}{ts:List Str}{us:List NS},RDs K m H vs ys->cX vs us->BT.strsOf ys=some ts->∃ l:List (Str×Tok),us=strValues l/\l.map (·.1)=ts/\∀ t∈ts,PyData.strOk t=true:=by
 intro vs
 induction vs with
 | nil =>
  intro ys ts us r rv e
  cases r
  cases rv
  cases e
  exact ⟨[],rfl,rfl,fun t ht=>absurd ht (by simp)⟩
 | cons v vs ih =>
  intro ys ts us r rv e
  cases r with
  | @cons _ d _ ys r t =>
   cases rv with
   | @cons _ u _ us ru tv =>
    cases d with
    | str x =>
     obtain ⟨ts',e1,e2⟩:=cY (show (BT.strsOf ys).map (x :: ·)=some ts from e)
     subst e2
     obtain ⟨l,q1,q2,q3⟩:=ih t tv e1
     cases r with
     | str _ ok =>
      obtain ⟨tk,rfl⟩:=ru
      refine ⟨(x,tk) :: l,by rw[q1];rfl,by simp[q2],fun y hy=>?_⟩
      rcases List.mem_cons.mp hy with rfl | hy
      ·exact ok
      ·exact q3 y hy
    | _=>exact cR e
theorem Cf (x:Str):∀ (ts:List Str),PyData.strOk x=true->(∀ t∈ts,PyData.strOk t=true)->PyData.strOk (NZ x ts)=true:=by
 have ap:∀ a b:Str,PyData.strOk a=true->PyData.strOk b=true->PyData.strOk (a++b)=true:=by
  intro a b ha hb
  unfold PyData.strOk at *
  show (a.cps++b.cps).all _=true
  rw[Sh,ha,hb];rfl
 intro ts hx
 induction ts with
 | nil=>intro _;unfold NZ PyData.strOk;simp[Str.empty]
 | cons t r ih =>
  intro h
  cases r with
  | nil=>exact h t NW
  | cons u r =>
   show PyData.strOk (t++x++NZ x (u :: r))=true
   exact ap _ _ (ap _ _ (h t NW) hx) (ih fun y hy=>h y (NU _ hy))
theorem Cg {x:Str}{ts:List Str} (c:ts.length<=1000/\x.length<=10/\∀ t∈ts,t.length<=1000):JoinOk x ts=true:=by
 unfold JoinOk
 have:=StrLaws.joinFits (sep:=x) (texts:=ts) (B:=1000) c.2.2 (by
  have h1:=Nat.mul_le_mul c.1 (N1 1000)
  have h2:=Nat.mul_le_mul c.1 c.2.1
  lia)
 rw[this];rfl
theorem ty_str {k:BT.Tx} (hk:k≠.dget) (h:∀ ds d,BT.txD k ds=some d->∃ x r,ds=.str x :: r):TyX X "str" k:=by
 intro pins s σ H v v' m x ws hh r I rv rw0 e
 obtain ⟨ds,d,e1,e2,_,_⟩:=gq hk e
 obtain ⟨y,r,rfl⟩:=h _ _ e2
 obtain ⟨d0,r0,q1,q2,_⟩:=fh e1
 cases q1
 have ew:=jB q2
 subst ew
 cases rw0 with
 | p r =>
  cases r with
  | str _ ok =>
   obtain ⟨t,rfl⟩:=rv
   exact ⟨typeIs_str s y t,fun _ e=>nomatch e⟩
theorem Ci:MtX X "str.join" .join:=by
 intro pins s σ H v vs v' us Q m h x ws z h' I rv rus R w1 w2 e post
 obtain ⟨ds,d,e1,e2,rfl,rfl⟩:=gq (k:=.join) (fun q=>nomatch q) e
 obtain ⟨sx,ys,ts,rfl,e3,c,rfl⟩:=rD e2
 obtain ⟨d0,r0,q1,q2,q3⟩:=fh e1
 cases q1
 have ew:=jB q2
 subst ew
 have rr:=fL R w2 q3
 obtain ⟨v2,rfl,r⟩:=rr.one
 obtain ⟨a,vt,rfl,ha,ra⟩:=r.lst
 obtain ⟨u,rfl,ru⟩:=vals1 rus
 cases ru
 cases w1 with
 | p r1 =>
  cases r1 with
  | str _ ok =>
   obtain ⟨t,rfl⟩:=rv
   obtain ⟨its,q4,p,hz⟩:=I.list ha.sq
   obtain ⟨l,rfl,hl,hs⟩:=Ce ra q4 e3
   refine PySem.SC.join p.isList hl (Cg c) fun t' tk=>?_
   rw[show Txt.join sx ts=NZ sx ts from StrLaws.glued_eq_join sx ts]
   refine ⟨.str _,H,I.tok tk,⟨t',rfl⟩,?_⟩
   exact post.here R (.str _ (Cf sx ts ok hs))
theorem tL {a b:Str} (h:PyData.strOk (a++b)=true):PyData.strOk a=true/\PyData.strOk b=true:=by
 unfold PyData.strOk at *
 have h:(a.cps++b.cps).all _=true:=h
 rw[Sh,NX] at h
 exact h
theorem rE (y:Str):∀ (ts:List Str),PyData.strOk (NZ y ts)=true->∀ t∈ts,PyData.strOk t=true
 | [],_,t,ht=>absurd ht (by simp)
 | [x],h,t,ht=>by
  have:t=x:=by simpa using ht
  subst this;exact h
 | x :: u :: r,h,t,ht=>by
  have h:PyData.strOk (x++y++NZ y (u :: r))=true:=h
  obtain ⟨h1,h2⟩:=tL h
  rcases List.mem_cons.mp ht with rfl | ht
  ·exact (tL h1).1
  ·exact rE y (u :: r) h2 t ht
theorem oH {y:Str} (hy:y.length=1):∀ (ts:List Str),ts.length<=(NZ y ts).length+1
 | []=>Qs _
 | [x]=>by simp
 | x :: u :: r=>by
  have ih:=oH hy (u :: r)
  have e:(NZ y (x :: u :: r)).length=x.length+y.length+(NZ y (u :: r)).length:=by
   show (x++y++NZ y (u :: r)).length=_
   rw[O9,O9]
  simp only[N7] at ih ⊢
  lia
theorem mW {pins:List (N2×Obj)}{σ:L2.St}{H:Hp}{s:NT}{m:List N2}{h:BT.HH}{Q:VK}{l:List (Str×Tok)}{ts:List Str}{tk:Nat} (I:Inv X pins σ H s) (R:RH X.K m H h) (hl:l.map (·.1)=ts) (hs:∀ t∈ts,PyData.strOk t=true) (hn:ts.length<=200000) (post:Post X.prog X.w X.K m H (.p (.lst (ts.map .str))) h Q) :
 EP X pins σ Q (.ref s.heap.objs.size) { s with heap:=s.heap.push { cls:=.type "list",data:=.seq (strValues l).toArray },toks:=tk }:=by
 subst hl
 have rv:∀ l:List (Str×Tok),cX ((l.map (·.1)).map V.str) (strValues l):=by
  intro l
  induction l with
  | nil=>exact .nil
  | cons p l ih=>exact .cons ⟨p.2,rfl⟩ ih
 have rd:∀ l:List Str,(∀ t∈l,PyData.strOk t=true)->RDs X.K m H (l.map V.str) (l.map BT.D.str):=by
  intro l
  induction l with
  | nil=>intro _;exact .nil
  | cons t l ih=>intro h;exact .cons (.str t (h t NW)) (ih fun y hy=>h y (NU _ hy))
 have sl:sizeLine=16777216:=R8
 have hr:=rv l
 rw[N5] at hn
 refine ⟨.ref _,_,I.laid (a:=s.heap.objs.size) (o:=.lst ((l.map (·.1)).map V.str)) (t':=tk) (fun b u q=>NQ _ q) (N1 _) ⟨by rw[N5,N5];lia,strValues l,0,hr,N9 _ rfl⟩,rfl,i9 R (I.hok.fresh (N1 _)) (rd _ hs) post⟩
theorem zF:MtX X "str.split" .split:=by
 intro pins s σ H v vs v' us Q m h x ws z h' I rv rus R w1 w2 e post
 obtain ⟨ds,d,e1,e2,rfl,rfl⟩:=gq (k:=.split) (fun q=>nomatch q) e
 obtain ⟨sx,sy,rfl,c,rfl⟩:=oG e2
 obtain ⟨d0,r0,q1,q2,q3⟩:=fh e1
 cases q1
 have ew:=jB q2
 subst ew
 obtain ⟨d1,r1,q4,q5,q6⟩:=fh (w:=ws.headD (.p .non)) (ws:=ws.tail) (h:=h') (ds:=[BT.D.str sy]) (by
  cases ws with
  | nil=>cases q3
  | cons a b=>exact q3)
 cases ws with
 | nil=>cases q3
 | cons wy ws =>
  cases q4
  have ey:=jB q5
  have ey:wy=.p (.str sy):=ey
  subst ey
  cases w2 with
  | cons ry t2 =>
   have:ws=[]:=by
    cases ws with
    | nil=>rfl
    | cons a b =>
     obtain ⟨_,_,q7,_,_⟩:=fh (show BT.rds (a :: b) h'=some [] from q6)
     cases q7
   subst this
   cases t2
   obtain ⟨u,rfl,ru⟩:=vals1 rus
   cases w1 with
   | p rx =>
    cases rx with
    | str _ ok =>
     cases ry with
     | p ry =>
      cases ry with
      | str _ ok2 =>
       obtain ⟨t,rfl⟩:=rv
       obtain ⟨u,rfl⟩:=ru
       have hy:(sy.length==0)=false:=by rw[c.1];rfl
       have js:=Ry sx sy
       have hs:=rE sy (Txt.split sx sy) (by rw[js];exact ok)
       have hm:=oH c.1 (Txt.split sx sy)
       rw[js] at hm
       have cl:sx.length<=100000:=c.2
       have hn:(Txt.split sx sy).length<=200000:=by lia
       have sl:sizeLine=16777216:=R8
       cases g1:(decide (sx.length < sy.length)||decide (SR sx < SR sy)) with
       | true =>
        have es:Txt.split sx sy=[sx]:=if_pos g1
        refine Pj F.slot_str_split (typeIs_str _ _ _) F.entry_str_split (F.args_str_split_2 _ _) (meets_str_split_cannot_occur sx sy t u g1) ?_
        exact mW (l:=[(sx,t)]) (tk:=s.toks) I R (ts:=Txt.split sx sy) (by rw[es];rfl) hs hn post
       | false =>
        cases g2:(O4 sx sy 0 sx.length (sx.length+1)).isEmpty with
        | true =>
         have es:Txt.split sx sy=[sx]:=(if_neg (by rw[g1];exact OG)).trans (if_pos g2)
         refine Pj F.slot_str_split (typeIs_str _ _ _) F.entry_str_split (F.args_str_split_2 _ _) (meets_str_split_not_found sx sy t u g1 hy g2) ?_
         exact mW (l:=[(sx,t)]) (tk:=s.toks) I R (ts:=Txt.split sx sy) (by rw[es];rfl) hs hn post
        | false =>
         have es:Txt.split sx sy=Builtin.Str.partsBetween sx (O4 sx sy 0 sx.length (sx.length+1)) sy.length:=(if_neg (by rw[g1];exact OG)).trans (if_neg (by rw[g2];exact OG))
         refine Pj F.slot_str_split (typeIs_str _ _ _) F.entry_str_split (F.args_str_split_2 _ _) (meets_str_split_sep sx sy t u g1 hy g2 (by lia) (by rw[← es];lia)) ?_
         rw[← es,strsFrom_eq]
         exact mW (l:=numbered s.toks (Txt.split sx sy)) I R (ts:=Txt.split sx sy) (numbered_texts _ _) hs hn post
inductive rTx (P:Oc) (w:Oo) (K:NO) (k:BT.Tx) (vs:List V) (H:Hp) (Q:VK):Prop where
 | mk (m:List N2) (h:BT.HH) (ws:List BT.W) (z:BT.W) (h':BT.HH) (R:RH K m H h) (rs:RWs P w K m H vs ws) (e:BT.kTx k ws h=some (z,h')) (p:Post P w K m H z h' Q):rTx P w K k vs H Q
theorem zG {k:BT.Tx}{as:BT.Es}{σ:L2.St}{H:Hp}{Q:VK} (q:tD X F G (.tx k as) σ H Q):tCB (rTx X.prog X.w X.K k) (tDs X F G as) σ H Q:=by
 refine jT (k:=fun ws h=>BT.kTx k ws h) (fun s h=>by simp only[BT.ev]) q fun m h xs z h' vs H1 R r e post=>?_
 exact ⟨m,h,xs,z,h',R,r,e,post⟩
theorem F9 (x:String):PyData.strOk (NR x)=true:=by
 rw[Rg]
 unfold PyData.strOk
 rw[Array.all_eq_true]
 intro i hi
 rw[decide_eq_true_eq]
 have hc:∀ c:Char,c.toNat < 0x110000:=fun c=>by
  rcases c.valid with h | h
  ·exact Si h (by decide)
  ·exact h.2
 simpa using hc _
theorem Ga:eH X (.type "str") (rTx X.prog X.w X.K .str):=by
 intro pins s σ H vs us Q I rus h
 obtain ⟨m,h,ws,z,h',R,rws,e,post⟩:=h
 obtain ⟨ds,d,e1,e2,rfl,rfl⟩:=gq (k:=.str) (fun q=>nomatch q) e
 have rr:=fL R rws e1
 match ds,e2 with
 | [.int i],e2 =>
  obtain ⟨c,e3⟩:=c6 (show (if BT.big i=true then some (BT.D.str (toString i)) else none)=some d from e2)
  subst e3
  obtain ⟨v,rfl,r⟩:=rr.one
  cases r.int
  have hb:i.natAbs < 2 ^ 64:=of_decide_eq_true c
  refine oX pins s σ H _ us Q I rus ⟨i,rfl,?_,post.here R (.str _ (F9 _))⟩
  have:=Nat.log2_lt (n:=i.natAbs) (k:=64)
  by_cases z:i.natAbs=0
  ·rw[z];decide
  ·have:=(Nat.log2_lt z).mpr hb
   lia
 | [.str x],e2 =>
  cases e2
  obtain ⟨v,rfl,r⟩:=rr.one
  obtain ⟨rfl,ok⟩:=r.str
  obtain ⟨u,rfl,ru⟩:=vals1 rus
  obtain ⟨t,rfl⟩:=ru
  exact PySem.P.str_of_str ⟨.str x,H,I,⟨t,rfl⟩,post.here R (.str x ok)⟩
theorem Gb:eH X (.type "int") (rTx X.prog X.w X.K .intS):=by
 intro pins s σ H vs us Q I rus h
 obtain ⟨m,h,ws,z,h',R,rws,e,post⟩:=h
 obtain ⟨ds,d,e1,e2,rfl,rfl⟩:=gq (k:=.intS) (fun q=>nomatch q) e
 have rr:=fL R rws e1
 match ds,e2 with
 | [.str x],e2 =>
  obtain ⟨c,e3⟩:=zE (show (if x.length<=640 then (Qm x).map BT.D.int else none)=some d from e2)
  obtain ⟨n,e4,e5⟩:=cY e3
  subst e5
  obtain ⟨v,rfl,r⟩:=rr.one
  obtain ⟨rfl,ok⟩:=r.str
  obtain ⟨u,rfl,ru⟩:=vals1 rus
  obtain ⟨t,rfl⟩:=ru
  exact PySem.W.KIN.call_text e4 c ⟨.int n,H,I.tok _,⟨_,rfl⟩,post.here R (.int _)⟩
theorem zH {K:NO}{m:List N2}{H:Hp}:∀ {vs:List V}{xs:List BT.D}{us:List NS}{bs:List Bool},RDs K m H vs xs->cX vs us->BT.boolsOf xs=some bs->us=bs.map QW:=by
 intro vs
 induction vs with
 | nil=>intro xs us bs r rv e;cases r;cases rv;cases e;rfl
 | cons v vs ih =>
  intro xs us bs r rv e
  cases r with
  | @cons _ d _ xs r t =>
   cases rv with
   | @cons _ u _ us ru tv =>
    cases d with
    | bl b =>
     obtain ⟨bs',e1,e2⟩:=cY (show (BT.boolsOf xs).map (b :: ·)=some bs from e)
     subst e2
     rw[ih t tv e1]
     cases r
     cases ru
     rfl
    | _=>exact cR e
theorem Gc (hc:X.calm=true):eH X (.builtin "all") (rTx X.prog X.w X.K .all):=by
 intro pins s σ H vs us Q I rus h
 obtain ⟨m,h,ws,z,h',R,rws,e,post⟩:=h
 obtain ⟨ds,d,e1,e2,rfl,rfl⟩:=gq (k:=.all) (fun q=>nomatch q) e
 have rr:=fL R rws e1
 match ds,e2 with
 | [.lst xs],e2 =>
  obtain ⟨bs,e3,e4⟩:=cY (show (BT.boolsOf xs).map (fun bs=>BT.D.bl (bs.all id))=some d from e2)
  subst e4
  obtain ⟨v,rfl,r⟩:=rr.one
  obtain ⟨a,vt,rfl,ha,ra⟩:=r.lst
  obtain ⟨u,rfl,ru⟩:=vals1 rus
  cases ru
  obtain ⟨its,q4,p,hz⟩:=I.list ha.sq
  have ei:=zH ra q4 e3
  subst ei
  have lt:a < s.heap.objs.size:=by
   obtain ⟨o,ho,_⟩:=p.isList
   exact N3 ho
  have hh:X.A.in1.handled=none:=I.ok.hd hc
  refine call_all_walk (SI p.isList ⟨s.heap.objs.size,[s.heap.objs.size,a],[s.heap.objs.size],_,_,_,fun i=>(bs[i]?).getD true,rfl,Walks.list hh s.heap.objs.size a (Oh lt) (bs.map QW).toArray,⟨⟨_,N9 _ rfl,rfl,rfl⟩,p.isList.at fun o e=>NQ _ e⟩,?_,fun h' tk hk=>?_⟩)
  ·intro i v s' Q' E' hv hq
   have hv:((bs.map QW).toArray)[i]?=some v:=hv
   rw[Ua,OE] at hv
   obtain ⟨b,g1,g2⟩:=cY hv
   subst g2
   have hq:Q' ((bs[i]?).getD true) s':=hq
   rw[g1] at hq
   exact O3 hq
  ·have es:((PJ (bs.map QW).toArray.size).all fun i=>(bs[i]?).getD true)=bs.all id:=by
    rw[NV,N5,Bool.eq_iff_iff,OL,OL]
    constructor
    ·intro q b hb
     obtain ⟨i,hi,rfl⟩:=List.mem_iff_getElem.mp hb
     have:=q i (List.mem_range.mpr hi)
     rw[N8 hi] at this
     exact this
    ·intro q i hi
     rw[N8 (List.mem_range.mp hi)]
     exact q _ (List.getElem_mem _)
   rw[es]
   refine ⟨.bl _,H,I.kept (t':=tk) fun b o e=>hk b o ?_ (NQ _ e),rfl,post.here R (.bl _)⟩
   have:=N3 e
   simp
   exact Oh this
noncomputable def oTx (k:BT.Tx) (x y:BT.W) (h:BT.HH):Option (BT.W×BT.HH):=BT.kTx k [x,y] h
theorem tM {k:BT.Tx}{a b:BT.E} (σ:L2.St) (H:Hp) (Q:VK) (q:tD X F G (.tx k (.cons a (.cons b .nil))) σ H Q):tOp (rOp X.prog X.w X.K (oTx k)) (tD X F G a) (tD X F G b) σ H Q:=by
 obtain ⟨m,s,h,z,h',R,S,ee,post⟩:=q
 simp only[BT.ev,BT.evs] at ee
 obtain ⟨xs,h1,e1,e2⟩:=cT ee
 obtain ⟨x,h2,e3,e4⟩:=cT e1
 obtain ⟨ws,h3,e5,e6⟩:=cT e4
 obtain ⟨y,h4,e7,e8⟩:=cT e5
 simp only[BT.mL,BT.dm,BT.gT] at e8
 cases e8
 simp only[BT.gT] at e6
 cases e6
 refine ⟨m,s,h,x,h2,R,S,e3,fun v H1 m1 x1 R1 r1=>?_⟩
 refine ⟨m1,s,h2,y,h1,R1,S.ext x1,e7,fun u H2 m2 x2 R2 r2=>?_⟩
 exact ⟨m2,h1,x,y,z,h',R2,r1.ext x2,r2,e2,fun w' H3 m3 x3 R3 r3=>post w' H3 m3 ((x1.trans x2).trans x3) R3 r3⟩
theorem Cj {w1 w2:BT.W}{h:BT.HH}{ds:List BT.D}{x y:Str} (e:BT.rds [w1,w2] h=some ds) (q:ds=[.str x,.str y]):w1=.p (.str x)/\w2=.p (.str y):=by
 subst q
 obtain ⟨d0,r0,q1,q2,q3⟩:=fh e
 cases q1
 obtain ⟨d1,r1,q4,q5,q6⟩:=fh q3
 cases q4
 exact ⟨jB q2,jB q5⟩
theorem Gd {k:BT.Tx} (hk:k=.inS\/k=.ninS) {ds:List BT.D}{d:BT.D} (e:BT.txD k ds=some d):∃ x y,ds=[.str x,.str y]:=by
 rcases hk with rfl | rfl
 ·match ds,e with
  | [.str x,.str y],_=>exact ⟨x,y,rfl⟩
 ·match ds,e with
  | [.str x,.str y],_=>exact ⟨x,y,rfl⟩
theorem DX:OpR X (OP .In) (rOp X.prog X.w X.K (oTx .inS)):=by
 intro pins s σ H v u v' u' Q I rv ru h
 obtain ⟨m,h,x,y,z,h',R,rx,ry,e,post⟩:=h
 obtain ⟨ds,d,e1,e2,rfl,rfl⟩:=gq (k:=.inS) (fun q=>nomatch q) e
 obtain ⟨sx,sy,q⟩:=Gd (.inl rfl) e2
 obtain ⟨rfl,rfl⟩:=Cj e1 q
 subst q
 cases e2
 cases rx with
 | p rx =>
  cases rx with
  | str _ ok =>
   cases ry with
   | p ry =>
    cases ry with
    | str _ ok2 =>
     obtain ⟨t,rfl⟩:=rv
     obtain ⟨t2,rfl⟩:=ru
     exact PySem.SB.contains ⟨.bl _,H,I,rfl,post.here R (.bl _)⟩
inductive DY (X:Cx) (m:List N2) (H:Hp) (s:NT) (a:N2) (o:Option BT.D) (k:Key):Prop where
 | mk (vs:List (Key×NS)) (dd:s.heap.DictOf (c8 X.prog X.w) a vs) (n:(a==P1)=false) (h:(o=none/\valueAt vs k=none)\/∃ x v u,o=some x/\valueAt vs k=some u/\RelV v u/\RD X.K m H v x):DY X m H s a o k
theorem JI {K:NO}{m:List N2}{H:Hp}{vs:List (Key×NS)}{k:Str}:∀ {es:List (Str×V)}{kvs:List (Str×BT.D)},RDk K es kvs->KV (es.map fun q=>((Sum.inr q.1:Key),q.2)) vs->(BT.dB k kvs=none/\valueAt vs (Sum.inr k)=none)\/∃ x v u,BT.dB k kvs=some x/\valueAt vs (Sum.inr k)=some u/\RelV v u/\RD K m H v x:=by
 intro es
 induction es generalizing vs with
 | nil =>
  intro kvs r q
  cases r
  cases q
  exact .inl ⟨rfl,rfl⟩
 | cons p es ih =>
  intro kvs r q
  cases r with
  | @cons x v dd _ kvs r t =>
   cases q with
   | @cons p z l1 l2 q1 q2 =>
    obtain ⟨z1,z2⟩:=z
    obtain ⟨q11,q12⟩:=q1
    simp only at q11 q12
    subst q11
    rw[BT.dB]
    by_cases c:k=x
    ·subst c
     rw[if_pos rfl]
     exact .inr ⟨dd,v,z2,rfl,by simp[valueAt],q12,r m H⟩
    ·rw[if_neg c]
     have ne:¬ ((Sum.inr x:Key)=Sum.inr k):=fun z=>c (Sum.inr.inj z).symm
     have:=ih t q2
     simp only[valueAt] at this ⊢
     rw[Rf (by simpa using ne)]
     exact this
noncomputable def kdG:BT.Kd->Str->Option BT.D
 | .t kvs,x=>BT.dB x kvs
 | .l kvs,x=>BT.fc kvs (.inr x)
theorem zI {pins:List (N2×Obj)}{σ:L2.St}{H:Hp}{s:NT}{m:List N2}{q:BT.Kd}{v:V}{u:NS} (I:Inv X pins σ H s) (r:RW X.prog X.w X.K m H v (.k q)) (rv:RelV v u) (x:Str) :
 ∃ a,u=.ref a/\DY X m H s a (kdG q x) (.inr x):=by
 cases r with
 | @k a es kvs kd rk =>
  cases rv
  obtain ⟨hm,vs,kv,dd⟩:=kd
  exact ⟨a,rfl,vs,dd s.heap I.kIn,hm,JI rk kv⟩
 | @kl a ob ws kvs hh rk =>
  cases rv
  refine ⟨a,rfl,?_⟩
  cases tK I (.inr ⟨_,hh.1⟩) rk (.inr x) with
  | no vs dd n g1 g2=>exact ⟨vs,dd,n,.inl ⟨g1,g2⟩⟩
  | is vs dd n y v1 u1 g1 g2 g3 g4=>exact ⟨vs,dd,n,.inr ⟨y,v1,u1,g1,g2,g3,g4⟩⟩
theorem rF {x:BT.W}{ws:List BT.W}{h:BT.HH}{z:BT.W}{h':BT.HH} (e:BT.kTx .dget (x :: ws) h=some (z,h')):∃ q y,x=.k q/\h'=h/\((ws=[.p (.str y)]/\z=.p ((kdG q y).getD .non))\/∃ d,ws=[.p (.str y),.p d]/\z=.p ((kdG q y).getD d)):=by
 have no:∀ (o:Option (List BT.D)),(o.bind fun ds=>(BT.txD .dget ds).map fun d=>(BT.W.p d,h))=some (z,h')->False:=by
  intro o e
  obtain ⟨ds,_,e2⟩:=Option.bind_eq_some_iff.mp e
  obtain ⟨d,e3,_⟩:=cY e2
  exact cR (P:=False) (show (none:Option BT.D)=some d from by rw[← e3];unfold BT.txD;rfl)
 cases x with
 | k q =>
  cases q with
  | t kvs =>
   have e:BT.yF kvs ws h=some (z,h'):=e
   unfold BT.yF at e
   split at e
   ·cases e;exact ⟨_,_,rfl,rfl,.inl ⟨rfl,rfl⟩⟩
   ·cases e;exact ⟨_,_,rfl,rfl,.inr ⟨_,rfl,rfl⟩⟩
   ·exact cR e
  | l kvs =>
   have e:BT.sY kvs ws h=some (z,h'):=e
   unfold BT.sY at e
   split at e
   ·cases e;exact ⟨_,_,rfl,rfl,.inl ⟨rfl,rfl⟩⟩
   ·cases e;exact ⟨_,_,rfl,rfl,.inr ⟨_,rfl,rfl⟩⟩
   ·exact cR e
 | p d=>exact (no (BT.rds (.p d :: ws) h) e).elim
 | r n=>exact (no (BT.rds (.r n :: ws) h) e).elim
 | o n=>exact (no (BT.rds (.o n :: ws) h) e).elim
 | c f cs=>exact (no (BT.rds (.c f cs :: ws) h) e).elim
 | x c=>exact (no (BT.rds (.x c :: ws) h) e).elim
theorem ty_dict:TyX X "dict" .dget:=by
 intro pins s σ H v v' m x ws hh r I rv rw0 e
 obtain ⟨z,h'⟩:=r
 obtain ⟨q,y,rfl,_,_⟩:=rF e
 obtain ⟨a,rfl,vs,dd,n,_⟩:=zI I rw0 rv y
 refine ⟨dd.typeIs,fun b eb=>?_⟩
 cases eb
 obtain ⟨o,es,ep,ho,hx,_⟩:=dd
 exact ⟨o,ho,hx.2.1⟩
theorem zJ:MtX X "dict.get" .dget:=by
 intro pins s σ H v vs v' us Q m h x ws z h' I rv rus R w1 w2 e post
 obtain ⟨q,y,rfl,rfl,hz⟩:=rF e
 obtain ⟨a,rfl,vs',dd,n,hg⟩:=zI I w1 rv y
 rcases hz with ⟨rfl,rfl⟩ | ⟨d,rfl,rfl⟩
 ·cases w2 with
  | cons ry t =>
   cases t
   obtain ⟨u,rfl,ru⟩:=vals1 rus
   cases ry with
   | p ry =>
    cases ry with
    | str _ ok =>
     obtain ⟨t,rfl⟩:=ru
     refine call_meetsIn Qk dd.typeIs S7 (PySem.F.args_dict_get_2 _ _) (meets_dict_get (c8 X.prog X.w) a (e9 _ _ y t) n) ⟨_,dd.mapOf,?_⟩
     rcases hg with ⟨g1,g2⟩ | ⟨x,v1,u1,g1,g2,g3,g4⟩
     ·rw[g1] at post
      rw[g2]
      exact ⟨.non,H,I.tok _,rfl,post.here R .non⟩
     ·rw[g1] at post
      rw[g2]
      exact ⟨v1,H,I.tok _,g3,post.here R g4⟩
 ·cases w2 with
  | cons ry t =>
   cases t with
   | cons rd t =>
    cases t
    obtain ⟨u,u2,rfl,ru,ru2⟩:=rus.two
    cases ry with
    | p ry =>
     cases rd with
     | p rd =>
      cases ry with
      | str _ ok =>
       obtain ⟨t,rfl⟩:=ru
       refine call_meetsIn Qk dd.typeIs S7 (PySem.F.args_dict_get_3 _ _ _) (meets_dict_get_default (c8 X.prog X.w) a (e9 _ _ y t) n u2) ⟨_,dd.mapOf,?_⟩
       rcases hg with ⟨g1,g2⟩ | ⟨x,v1,u1,g1,g2,g3,g4⟩
       ·rw[g1] at post
        rw[g2]
        exact ⟨_,H,I.tok _,ru2,post.here R rd⟩
       ·rw[g1] at post
        rw[g2]
        exact ⟨v1,H,I.tok _,g3,post.here R g4⟩
end
section
end
section
variable {F:FT}{G:Str->Option BT.W}
end
end BS
end
section
namespace BX
open PySem PyProof.Rows
section
variable {prog:Oc}{w:Oo}{A:ON}{E:NS->NT->Prop}{s:NT}{R:Result->NT->Prop}
end
section
variable {E:NS->NT->Prop}
end
end BX
namespace BS
open PySem PySem.Spec PyProof.Rows L2
section
end
end BS
end
section
namespace BS
open PySem PySem.Spec PyProof.Rows L2
section
end
noncomputable def mX (sc:OS) (x:Str):Bool:=match sc.names.lookup x with
 | some .local=>true
 | some .cell=>true
 | _=>false
inductive CTs (sc:OS) (N:List Str):List (Nat×Str)->List NY->Prop where
 | nil:CTs sc N [] []
 | cons {i:Nat}{x:Str}{p:Pos}{tg:List (Nat×Str)}{es:List NY} (h1:N[i]?=some x) (h2:mX sc x=true) (r:CTs sc N tg es):CTs sc N ((i,x) :: tg) (.Name x p :: es)
inductive CT (sc:OS) (N:List Str):List (Nat×Str)->NY->Prop where
 | one {i:Nat}{x:Str}{p:Pos} (h1:N[i]?=some x) (h2:mX sc x=true):CT sc N [(i,x)] (.Name x p)
 | tup {tg:List (Nat×Str)}{es:List NY}{p:Pos}{k:Nat} (hl:Nat.ble 2 tg.length=true) (h:CTs sc N tg es):CT sc N tg (.Tuple es k p)
section
theorem RS.set {K:NO} (S:RS P w K m H σ s) (r:RW P w K m H v z):RS P w K m H (σ.set i (some v)) (s.set i (some z)):=by
 refine ⟨by simp[S.len],fun j y e=>?_⟩
 by_cases c:i=j
 ·subst c
  have hl:i < s.length:=by
   rcases OU i s.length with q | q
   ·exact q
   ·rw[Og (by simpa using q)] at e;exact cR e
  rw[Pd hl] at e
  cases e
  exact ⟨v,by rw[Pd (by rw[S.len];exact hl)],r⟩
 ·rw[PV c] at e
  obtain ⟨u,h1,h2⟩:=S.get j y e
  exact ⟨u,by rw[PV c];exact h1,h2⟩
theorem mY (O:Ok X F G sc N) (h:mX sc x=true):L2.Loc X.env.scope x:=by
 rw[O.hsc]
 unfold mX at h
 unfold L2.Loc
 cases e:sc.names.lookup x with
 | none=>rw[e] at h;exact BT.dN h
 | some k=>rw[e] at h;cases k<;>first | (exact .inl rfl) | (exact .inr rfl) | exact BT.dN h
theorem u5 (h:jw e=true):∀ x,foldedSetIterable e env x=pure x:=by
 intro x
 cases e<;>first | rfl | exact BT.dN h
noncomputable def GOk (X:Cx) (tg:List (Nat×Str)) (g:TG):Prop:=∀ (m:List N2) (H:Hp) (σ:L2.St) (s:BT.Sl) (x:V) (d:BT.D) (ds:List BT.D) (Q:L2.St->Hp->Prop),RS X.prog X.w X.K m H σ s->RD X.K m H x d->BT.target tg.length d=some ds →
 (∀ σ',RS X.prog X.w X.K m H σ' (BT.sets tg ds s)->Q σ' H)->g x σ H Q
noncomputable def MH (K:NO) (n:Nat) (t:TGs):TG:=fun v σ H Q=>∃ a xs,v=.ref a/\(SqT K H a xs\/LL K H a xs)/\xs.length=n/\t xs σ H Q
theorem Ge {X:Cx}{es:List NY}{k:Nat}{t:TGs}{n:Nat}{pos:Pos} (hc:X.calm=true) (h:PGs X es t) (hn:(P4 es X.env).length=n) (hst:(P4 es X.env).findIdx? (·.1)=none):PG X (.Tuple es k pos) (MH X.K n t):=by
 intro pins s σ H v u Q I r hw
 obtain ⟨a,xs,rfl,hq | hq,hl,hw⟩:=hw
 ·exact En hc h hn hst pins s σ H _ u Q I r ⟨a,xs,rfl,hq,hl,hw⟩
 ·cases r
  obtain ⟨z,its,n2,rv,hz,e⟩:=rdL I hq
  rw[assign_Tuple]
  refine NP (Sk ?_)
  unfold unpack
  rw[hn,hst]
  refine NP (Qp ?_)
  have sz:n=its.toArray.size:=by rw[NV,← hl];exact hz
  rw[sz]
  refine PySem.W.kun_itemsOf (I.ok.hd hc) ⟨_,e,rfl,_,rfl⟩ fun h' hx=>?_
  have I1:Inv X pins σ H { s with heap:=h' }:=I.kept (t':=s.toks) fun b o e=>hx b o (Oh (N3 e)) e
  exact h pins _ σ H xs _ Q I1 (by simpa using rv) hw
inductive GsO (X:Cx) (tg:List (Nat×Str)) (es:List NY):Prop where
 | mk (gs:TGs) (h:PGs X es gs) (hn:(P4 es X.env).length=tg.length) (hs:(P4 es X.env).findIdx? (·.1)=none)
  (ok:∀ (m:List N2) (H:Hp) (σ:L2.St) (s:BT.Sl) (vs:List V) (ds:List BT.D) (Q:L2.St->Hp->Prop),RS X.prog X.w X.K m H σ s->RDs X.K m H vs ds->ds.length=tg.length->(∀ σ',RS X.prog X.w X.K m H σ' (BT.sets tg ds s)->Q σ' H)->gs vs σ H Q):GsO X tg es
theorem MI {X:Cx}{sc:OS}{N:List Str} (O:Ok X F G sc N) {tg:List (Nat×Str)}{es:List NY} (h:CTs sc N tg es) (hf:∀ q∈tg,X.fn q.2=true\/X.env.scope.names.lookup q.2=some .local):GsO X tg es:=by
 induction h with
 | nil =>
  refine ⟨HM,AY,rfl,rfl,fun m H σ s vs ds Q S r hl q=>?_⟩
  cases r with
  | nil=>exact ⟨rfl,q _ S⟩
  | cons _ _=>cases hl
 | @cons i x p tg es h1 h2 r ih =>
  obtain ⟨gs,hg,hn,hs,ok⟩:=ih fun q hq=>hf q (NU _ hq)
  refine ⟨_,xO (uz (i:=i) O.nd (by rw[O.hN];exact h1) (mY O h2) (hf (i,x) (by simp))) hg,congrArg (·+1) hn,?_,fun m H σ s vs ds Q S r hl q=>?_⟩
  ·show ((false,SZ (.Name x p) X.env) :: P4 es X.env).findIdx? (·.1)=none
   rw[List.findIdx?_cons]
   show (if false=true then _ else _)=_
   rw[if_neg (by decide),hs];rfl
  ·cases r with
   | nil=>cases hl
   | @cons v d vs ds ra t=>exact ⟨v,vs,rfl,ok m H (σ.set i (some v)) (s.set i (some (.p d))) vs ds Q (S.set (.p ra)) t (Nat.succ.inj hl) q⟩
theorem sCT (O:Ok X F G sc N) (hc:X.calm=true) (h:CT sc N tg te) (hf:∀ q∈tg,X.fn q.2=true\/X.env.scope.names.lookup q.2=some .local):∃ g,PG X te g/\GOk X tg g:=by
 cases h with
 | @one i x p h1 h2 =>
  refine ⟨_,uz (i:=i) O.nd (by rw[O.hN];exact h1) (mY O h2) (hf (i,x) (by simp)),?_⟩
  intro m H σ s v d ds Q S r e q
  simp only[N7,QH,Nat.zero_add,BT.qZ] at e
  cases e
  exact q _ (S.set (.p r))
 | @tup tg es p k hl h =>
  obtain ⟨gs,hg,hn,hs,ok⟩:=MI O h hf
  refine ⟨_,Ge (n:=tg.length) hc hg hn hs,?_⟩
  intro m H σ s v d ds Q S r e q
  have h2:=Um hl
  unfold BT.target at e
  rw[if_neg (by lia)] at e
  cases r with
  | @tup a vs dd h r =>
   rw[BT.qY] at e
   obtain ⟨c,e⟩:=c6 e
   subst e
   exact ⟨a,vs,rfl,.inl (h.elim (fun q=>.inl q.1) fun ⟨o,its,n,q,_⟩=>.inr ⟨o,its,n,q⟩),by rw[r.length];exact c,ok m H σ s vs _ Q S r c q⟩
  | @lst a vs dd h r =>
   rw[BT.qX] at e
   obtain ⟨c,e⟩:=c6 e
   subst e
   exact ⟨a,vs,rfl,.inr (h.elim (fun q=>.inl q.1) .inr),by rw[r.length];exact c,ok m H σ s vs _ Q S r c q⟩
  | _=>exact cR e
end
end BS
end
section
namespace BC
open PySem
section
theorem wV {target:NY} (I:Nat->NT->Prop)
 (turn:∀ n s,I n s->wpAny (Oi prog w) A (pyNext it) (fun r s₁=>match r with
  | none=>R (.ok .next) s₁
  | some v=>wpAny (Oi prog w) A (QU target it v) (fun _ s₀=>wpAny (Oi prog w) A (SZ target env v) (fun _ s₂ =>
   wpAny (Oi prog w) A (forIn ifs true fun c r=>if r=true then do let ok ← isTrue c env (eval c env);pure (Q3 ok) else pure (Q3 r)) (fun ok s₃ =>
    if ok=true then wpAny (Oi prog w) A (eval elt env) (fun x s₄ =>
     wpAny (Oi prog w) A (call (.builtin "list.append") [acc,x]) (fun _ s₅=>∃ m,m < n/\I m s₅) (fun _ _=>False) s₄) (fun _ _=>False) s₃
    else ∃ m,m < n/\I m s₃) (fun _ _=>False) s₂) (fun _ _=>False) s₀) (fun _ _=>False) s₁) (fun _ _=>False) s)
 (n:Nat) (h:I n s):codeAny (Oi prog w) A (.compLoop (.ListComp elt [⟨target,iter,ifs,0⟩] scope pos) 0 it acc env) R s:=by
 refine codeAny_loop rfl I (fun n s hI=>?_) n h
 show wpAny _ A ((compTurn (.ListComp elt [⟨target,iter,ifs,0⟩] scope pos) 0 it acc env).onRaise (fun x=>do noteFrame x env;theTreesLotGoes x)) _ _ s
 refine wpAny_noted ?_
 rw[compTurn_list]
 refine NP (Sk (NP (P0 (turn n s hI) (fun r s₁ h₁=>?_) fun _ _ h'=>h'.elim)))
 cases r with
 | none=>exact wpAny_pure h₁
 | some v =>
  refine NP (P0 h₁ (fun _ s₀ h₀'=>?_) fun _ _ h'=>h'.elim)
  refine NP (P0 h₀' (fun _ s₂ h₂=>NP (P0 h₂ (fun ok s₃ h₃=>?_) fun _ _ h'=>h'.elim)) fun _ _ h'=>h'.elim)
  cases ok with
  | false=>exact wpAny_pure ⟨rfl,h₃⟩
  | true =>
   exact NP (NP (P0 h₃ (fun x s₄ h₄=>NP (P0 h₄ (fun _ s₅ h₅=>wpAny_pure (wpAny_pure ⟨rfl,h₅⟩)) fun _ _ h'=>h'.elim)) fun _ _ h'=>h'.elim))
end
noncomputable def gI (cells:List (Str×N2)):List (Str×Qt)->List (Str×N2)->List (Str×N2)
 | [],acc=>acc
 | (n,k) :: r,acc=>if k==.free then (match cells.lookup n with | some c=>gI cells r ((n,c) :: acc) | none=>gI cells r acc) else gI cells r acc
noncomputable def tN (cells:List (Str×N2)) (names:List (Str×Qt)):Prop:=∀ x∈names,x.2=.free->∃ c,cells.lookup x.1=some c
theorem mZ:∀ (names:List (Str×Qt)) (acc:List (Str×N2)),tN env.cells names →
 (forIn names acc fun x (r:List (Str×N2))=>(if x.2==.free then do let c ← cellOf env x.1;pure (Q3 ((x.1,c) :: r)) else pure (Q3 r):Sem (ForInStep (List (Str×N2)))))=pure (gI env.cells names acc)
 | [],acc,_=>rfl
 | (n,k) :: r,acc,h=>by
  have ih:=fun acc=>mZ (env:=env) r acc fun x hx=>h x (NU _ hx)
  rw[SD]
  by_cases c:k=.free
  ·subst c
   obtain ⟨a,e⟩:=h (n,.free) NW rfl
   have e:env.cells.lookup n=some a:=e
   simp only[gI,e]
   show (cellOf env n >>= _) >>= _=_
   unfold cellOf
   rw[e]
   exact ih _
  ·have cb:(k==OY)=false:=by simpa using c
   simp only[gI,cb]
   exact ih _
theorem kH {α β:Type}{m m':Sem α}{f:α->Sem β} (h:m=m'):(m >>= f)=(m' >>= f):=by rw[h]
theorem tO {scope:OS}{env:Env} (h:tN env.cells scope.names):closureFor scope env=pure (gI env.cells scope.names []):=by
 have:=mZ (env:=env) scope.names [] h
 unfold closureFor
 exact (kH this).trans rfl
theorem pX:∀ {names:List (Str×Qt)}{acc:List (Str×N2)},(∀ x c,acc.lookup x=some c->cells.lookup x=some c)->∀ x c,(gI cells names acc).lookup x=some c->cells.lookup x=some c
 | [],acc,h,x,c,e=>h x c e
 | (n,k) :: r,acc,h,x,c,e=>by
  rw[gI] at e
  split at e
  ·split at e
   ·rename_i a ea
    refine pX (fun y b q=>?_) x c e
    rw[Pw] at q
    split at q
    ·rename_i hy
     have:y=n:=by simpa using hy
     subst this
     cases q;exact ea
    ·exact h y b q
   ·exact pX h x c e
  ·exact pX h x c e
theorem lK:∀ {names:List (Str×Qt)}{acc:List (Str×N2)},(∃ c,acc.lookup x=some c)->∃ c,(gI cells names acc).lookup x=some c
 | [],acc,h=>h
 | (n,k) :: r,acc,h=>by
  rw[gI]
  split
  ·split
   ·refine lK ?_
    rw[Pw]
    split
    ·exact ⟨_,rfl⟩
    ·exact h
   ·exact lK h
  ·exact lK h
theorem pY:∀ {names:List (Str×Qt)}{acc:List (Str×N2)},(x,OY)∈names->(∃ c,cells.lookup x=some c)->∃ c,(gI cells names acc).lookup x=some c
 | [],acc,h,_=>nomatch h
 | (n,k) :: r,acc,h,q=>by
  rw[gI]
  rcases List.mem_cons.mp h with e | e
  ·cases e
   obtain ⟨c,ec⟩:=q
   rw[if_pos (by rfl),ec]
   refine lK ?_
   exact ⟨c,by simp⟩
  ·split
   ·split
    ·exact pY e q
    ·exact pY e q
   ·exact pY e q
end BC
end
section
namespace BS
open PySem PySem.Spec PyProof.Rows L2
noncomputable def m6 (F:FT) (G:Str->Option BT.W) (sc:OS) (N:List Str) (cond:BT.Es) (ifs:List NY):Prop :=
 (cond=.nil/\ifs=[])\/∃ c c',cond=.cons c .nil/\ifs=[c']/\∀ X',Ok X' F G sc N->PT X' c' (tDT X' F G c)
structure rG (sc:OS) (N tg:List Str) (fv:List (Nat×Str)) (scope:OS):Prop where
 k1:scope.kind=.function
 k2:sc.kind=.function
 cell:∀ y∈scope.names,y.2≠.cell
 loc:∀ y∈scope.names,y.2=.local->scope.names.lookup y.1=some .local
 free:∀ y∈scope.names,y.2=.free->sc.names.lookup y.1=some .cell
 fvs:∀ q∈fv,N[q.1]?=some q.2/\(q.2,OY)∈scope.names/\sc.names.lookup q.2=some .cell/\(dQ scope sc).names.lookup q.2=some .cell
 nd:(tg++fv.map (·.2)).Nodup
theorem oJ:∀ {l:List Str},jx l=true->l.Nodup
 | [],_=>Tc
 | x :: r,h=>by
  simp only[jx,NX,Qn] at h
  refine List.nodup_cons.mpr ⟨fun z=>?_,oJ h.2⟩
  have:=h.1
  simp[z] at this
theorem JJ (h:jy sc N tg fv scope=true):rG sc N tg fv scope:=by
 simp only[jy,NX] at h
 obtain ⟨⟨⟨⟨⟨⟨h1,h2⟩,h3⟩,h4⟩,h5⟩,h6⟩,h7⟩:=h
 rw[OL] at h3 h4 h5 h6
 refine ⟨eq_of_beq h1,eq_of_beq h2,fun y hy e=>?_,fun y hy e=>?_,fun y hy e=>?_,fun q hq=>?_,oJ h7⟩
 ·have:=h3 y hy
  rw[e] at this;simp at this
 ·have:=h4 y hy
  rw[e] at this;simpa using this
 ·have:=h5 y hy
  rw[e] at this;simpa using this
 ·have:=h6 q hq
  simp only[NX] at this
  obtain ⟨⟨⟨a,b⟩,c⟩,d⟩:=this
  exact ⟨by simpa using a,by simpa using b,by simpa using c,by simpa using d⟩
theorem jC {sc:OS}{x:Str}{k:Qt} (hk:k=.cell\/k=.free):∀ {names:List (Str×Qt)},(∀ y∈names,y.2≠.cell) →
 (names.map fun (n,k)=>if (k==OY&&sc.kind==.function&&sc.names.lookup n==some .cell) then (n,Rx) else (n,k)).lookup x=some k->(x,OY)∈names
 | [],_,h=>by simp at h
 | (n,q) :: r,hc,h=>by
  have ih:=jC (sc:=sc) (x:=x) hk (names:=r) fun y hy=>hc y (NU _ hy)
  replace h:P7 x ((if (q==OY&&sc.kind==.function&&sc.names.lookup n==some .cell)=true then (n,Rx) else (n,q)) :: (r.map fun (n,k)=>if (k==OY&&sc.kind==.function&&sc.names.lookup n==some .cell) then (n,Rx) else (n,k)))=some k:=h
  have go:∀ (q':Qt),(q'=q\/(q'=.cell/\q=.free))->P7 x ((n,q') :: (r.map fun (n,k)=>if (k==OY&&sc.kind==.function&&sc.names.lookup n==some .cell) then (n,Rx) else (n,k)))=some k->(x,OY)∈(n,q) :: r:=by
   intro q' hq gl
   rw[Pw] at gl
   split at gl
   ·rename_i hx
    have hx:x=n:=by simpa using hx
    subst hx
    have e:q'=k:=N4 gl
    have hqf:q=.free:=by
     rcases hq with rfl | ⟨_,e2⟩
     ·rcases hk with z | z
      ·exact absurd (e.trans z) (hc (x,q') NW)
      ·exact e.trans z
     ·exact e2
    rw[hqf];exact NW
   ·exact NU _ (ih gl)
  by_cases c:(q==OY&&sc.kind==.function&&sc.names.lookup n==some .cell)=true
  ·rw[if_pos c] at h
   refine go .cell (.inr ⟨rfl,?_⟩) h
   simp only[NX] at c
   exact eq_of_beq c.1.1
  ·rw[if_neg c] at h
   exact go q (.inl rfl) h
noncomputable def blk (X:Cx) (N':List Str) (s2:NT) (H1:Hp) (scope:OS) (C:N2) (fp:List N2):Cx :=
 { X with N:=N',s₀:=s2,H₀:=H1,env:=UD scope (BC.gI X.env.cells scope.names []) C X.env,outer:=X.stack,stack:=X.stack,ex:=fp,fn:=fun _=>false,pn:=[],xe:=fun _ _=>False }
section
variable {X:Cx}{F:FT}{G:Str->Option BT.W}{sc:OS}{N:List Str}{pins:List (N2×Obj)}{σ:L2.St}{H1:Hp}{s2:NT}
theorem kZ {scope:OS}{x:Str}{c:N2} (e:(BC.gI X.env.cells scope.names []).lookup x=some c):X.env.cells.lookup x=some c :=
 BC.pX (fun _ _ z=>by simp at z) x c e
theorem rH (hsc:X.env.scope=sc) (x:Str):(UD scope (BC.gI X.env.cells scope.names []) C X.env).kindOf x=(dQ scope sc).names.lookup x:=by
 subst hsc;rfl
theorem u6 (I1:Inv X pins σ H1 s2) (hsc:X.env.scope=sc) (cf:rG sc N tg fv scope) (hx:(x,OY)∈scope.names):∃ c,(BC.gI X.env.cells scope.names []).lookup x=some c:=by
 refine BC.pY hx (I1.ok.has x (.inl ?_))
 have:=cf.free _ hx rfl
 rw[← hsc] at this
 exact this
theorem Gf (I1:Inv X pins σ H1 s2) (hsc:X.env.scope=sc) {scope:OS}{tg:List Str}{fv:List (Nat×Str)} (cf:rG sc N tg fv scope) {N':List Str}{C:N2}{fp:List N2} (hC:C=s2.heap.objs.size+1)
 (hf:∀ b∈fp,nC X pins H1 b) (hlt:∀ b∈fp,b < s2.heap.objs.size):(blk X N' s2 H1 scope C fp).Ok where
 mod:=I1.ok.mod
 kind:=cf.k1
 glob:=I1.ok.glob
 blt:=I1.ok.blt
 above:=by show s2.heap.objs.size<=C;rw[hC];exact QI _
 inj:=fun x y c a b=>I1.ok.inj x y c (kZ a) (kZ b)
 has:=fun x hx=>by
  refine u6 I1 hsc cf ?_
  have hx':(dQ scope sc).names.lookup x=some .cell\/(dQ scope sc).names.lookup x=some .free:=by
   rw[← rH hsc (C:=C)];exact hx
  rcases hx' with e | e
  ·exact jC (.inl rfl) cf.cell e
  ·exact jC (.inr rfl) cf.cell e
 cab:=fun x c z=>by cases z
 hd:=I1.ok.hd
 frames:=I1.ok.frames
 stk:=.inl rfl
 exf:=fun b hb=>⟨fun z=>by
  have l:=hlt b hb
  have z:b=C:=z
  rw[z,hC] at l
  exact absurd l (Nat.not_lt.mpr (QI _)),fun x c e=>(hf b hb).2.2.2.2.1 x c (kZ e)⟩
 bs:=I1.bs
 bsz:=Om I1.ok.bsz I1.sz
 noex:=fun b o e hb=>by
  have q:=(I1.ok.bs b o e).1
  rcases (hf b hb).2.2.2.1 with z | z
  ·exact I1.ok.noex b o e z
  ·exact absurd (N3 q) (Nat.not_lt.mpr z)
 exfs:=fun b hb z=>by
  rcases List.mem_cons.mp (I1.oV b z) with e | e
  ·exact (hf b hb).2.1 e
  ·exact (hf b hb).2.2.1 e
 jE:=I1.stack
 frf:=I1.uv
end
noncomputable def lobj (us:List NS) (n:Nat):Obj:={ cls:=.type "list",data:=.seq us.toArray n }
section
variable {X:Cx}{F:FT}{G:Str->Option BT.W}{sc:OS}{N:List Str}{pins:List (N2×Obj)}{σ:L2.St}{H1:Hp}{s2:NT}
noncomputable def jD (n:Nat) (σ:L2.St) (fv:List (Nat×Str)):L2.St:=Od n none++fv.map fun q=>(σ[q.1]?).getD none
theorem Ck (I1:Inv X pins σ H1 s2) (hsc:X.env.scope=sc) (hN:X.N=N) (cf:rG sc N tg fv scope) (hC:C=s2.heap.objs.size+1)
 (hf:∀ b∈fp,nC X pins H1 b) (hlt:∀ b∈fp,b < s2.heap.objs.size) (old:∀ b o,s2.heap.get? b=some o->h1.get? b=some o) (hns:h1.Ns C m) (hD:h1.get? s2.heap.objs.size=some (lobj [] 0)) :
 Inv (blk X (tg++fv.map (·.2)) s2 H1 scope C fp) [(s2.heap.objs.size,lobj [] 0)] (jD tg.length σ fv) H1 { s2 with heap:=h1,toks:=tk } where
 ok:=Gf I1 hsc cf hC hf hlt
 os:=rfl
 bare:=I1.bare
 base:=Un.kept old
 loc:=by
  refine ⟨m,hns,fun i x v e1 e2 e3=>?_⟩
  have e1:(tg++fv.map (·.2))[i]?=some x:=e1
  unfold jD at e2
  by_cases c:i < tg.length
  ·rw[N6 (by simpa using c),Qf,if_pos c] at e2
   cases e2
  ·rw[Os (by simpa using c)] at e2
   rw[Os (by simpa using c)] at e1
   simp only[Qz,OE] at e1 e2
   cases g:fv[i - tg.length]? with
   | none=>rw[g] at e1;exact cR e1
   | some q =>
    rw[g] at e1 e2
    simp only[Qc,Pz] at e1 e2
    subst e1
    obtain ⟨f1,f2,f3,f4⟩:=cf.fvs q (Oe g)
    have e2':σ[q.1]?=some (some v):=by
     cases gg:σ[q.1]? with
     | none=>rw[gg] at e2;exact cR e2
     | some o=>rw[gg] at e2;simp only[UJ] at e2;rw[e2]
    obtain ⟨m0,hn0,hl0⟩:=I1.loc
    obtain ⟨u,ru,lk⟩:=hl0 q.1 q.2 v (by rw[hN];exact f1) e2' (by rw[hsc];exact .inr (.inl f3))
    refine ⟨u,ru,?_⟩
    have kc:X.env.kindOf q.2=some .cell:=by
     show X.env.scope.names.lookup q.2=_
     rw[hsc];exact f3
    rcases lk with ⟨k,_⟩ | ⟨k,c,ec,o,ho,hd⟩
    ·rw[kc] at k;cases k
    ·obtain ⟨c',ec'⟩:=u6 I1 hsc cf f2
     have:=kZ ec'
     rw[ec] at this
     cases this
     refine .inr ⟨.inl ?_,c,ec',o,old c o ho,hd⟩
     show (UD scope (BC.gI X.env.cells scope.names []) C X.env).kindOf q.2=_
     rw[rH hsc];exact f4
 cell:=fun x c e=>by
  obtain ⟨v,o,ho,hd⟩:=I1.cell x c (kZ e)
  exact ⟨v,o,old c o ho,hd⟩
 free:=I1.hok.fresh (by show s2.heap.objs.size<=C;rw[hC];exact QI _)
 freeC:=fun x c e=>I1.freeC x c (kZ e)
 pin:=fun p hp=>by
  have e:p=(s2.heap.objs.size,lobj [] 0):=by
   have:p∈[]++[(s2.heap.objs.size,lobj [] 0)]:=hp
   simpa using this
  subst e
  refine ⟨hD,I1.hok.fresh (N1 _),?_,?_,fun v z=>by cases (show Data.seq _ _=Data.cell v from z)⟩
  ·show s2.heap.objs.size≠C
   rw[hC];exact Oh (P6 _)
  ·intro z
   obtain ⟨_,o,ho,_⟩:=I1.stack.mem z
   exact absurd (N3 ho) (Pv _)
 hok:=I1.hok.kept old
 len:=by
  show (jD tg.length σ fv).length=(tg++fv.map (·.2)).length
  simp[jD]
end
noncomputable def tgF:Nat->List Str->List (Nat×Str)
 | _,[]=>[]
 | k,x :: r=>(k,x) :: tgF (k+1) r
noncomputable abbrev tgI (tg:List Str):List (Nat×Str):=tgF 0 tg
theorem pZ:∀ (tg:List Str) (k:Nat),(tgF k tg).length=tg.length
 | [],_=>rfl
 | _ :: r,k=>congrArg (·+1) (pZ r (k+1))
theorem u9 {q:Nat×Str}:∀ {tg:List Str}{k:Nat},q∈tgF k tg->q.2∈tg
 | x :: r,k,h=>by
  rcases List.mem_cons.mp h with rfl | h
  ·exact NW
  ·exact NU _ (u9 h)
theorem vc (h:nmE te=some x):∃ p,te=.Name x p:=by
 cases te with
 | Name y p=>cases h;exact ⟨p,rfl⟩
 | _=>exact absurd (show (none:Option Str)=some _ from h) (fun z=>nomatch z)
theorem zK (h:Ft te=a :: l):∃ k p,te=.Tuple (a :: l) k p:=by
 cases te with
 | Tuple xs k p=>cases h;exact ⟨k,p,rfl⟩
 | _=>exact absurd (show ([]:List NY)=_ :: _ from h) (fun z=>nomatch z)
theorem zL {sc:OS}{fs:List Str}:∀ (tg:List Str) {pre:List Str}{es:List NY},tg.map some=es.map nmE->(∀ x∈tg,mX sc x=true)->CTs sc (pre++(tg++fs)) (tgF pre.length tg) es
 | [],pre,es,e,_=>by
  cases es with
  | nil=>exact .nil
  | cons _ _=>cases e
 | x :: r,pre,es,e,h=>by
  cases es with
  | nil=>cases e
  | cons a es =>
   obtain ⟨p,rfl⟩:=vc (Tu e).symm
   have q:=zL (fs:=fs) r (pre:=pre++[x]) (List.tail_eq_of_cons_eq e) fun y hy=>h y (NU _ hy)
   rw[Ot,Oa] at q
   exact .cons (by simp) (h x NW) q
theorem Cn (h:rf sc tg te=true):CT sc (tg++fs) (tgI tg) te/\(tgI tg).length=tg.length/\∀ q∈tgI tg,sc.names.lookup q.2=some .local:=by
 have st:∀ {x:Str},sc.names.lookup x=some .local->mX sc x=true:=fun e=>by unfold mX;rw[e]
 unfold rf at h
 rw[NX,Qh,NX,OL] at h
 obtain ⟨h,ha⟩:=h
 have lo:∀ {x},x∈tg->sc.names.lookup x=some .local:=fun {x} hx=>eq_of_beq (ha x hx)
 rcases h with h | ⟨h1,h2⟩
 ·have e:=eq_of_beq h
  cases tg with
  | nil=>exact absurd (congrArg Uy e) (by simp)
  | cons x r =>
   cases r with
   | cons _ _=>exact absurd (congrArg Uy e) (by simp)
   | nil =>
    obtain ⟨p,rfl⟩:=vc (Tu e).symm
    have l:sc.names.lookup x=some .local:=lo NW
    exact ⟨.one rfl (st l),rfl,fun q hq=>by rw[List.mem_singleton.mp hq];exact l⟩
 ·have e:=eq_of_beq h2
  cases g:Ft te with
  | nil=>rw[g] at e;cases tg with
   | nil=>exact BT.dN h1
   | cons _ _=>cases e
  | cons a l =>
   rw[g] at e
   obtain ⟨k,p,rfl⟩:=zK g
   exact ⟨.tup (by rw[pZ];exact h1) (zL (pre:=[]) tg e fun x hx=>st (lo hx)),pZ _ _,fun q hq=>lo (u9 hq)⟩
theorem vd:∀ (tg:List Str) (k:Nat) (ds:List BT.D) (sl:BT.Sl),ds.length=tg.length->k+tg.length<=sl.length->BT.sets (tgF k tg) ds sl=sl.take k++(ds.map BT.gz++sl.drop (k+tg.length))
 | [],k,ds,sl,h,_=>by
  cases List.length_eq_zero_iff.mp h
  exact (Rk k sl).symm
 | x :: r,k,ds,sl,h,hl=>by
  cases ds with
  | nil=>cases h
  | cons d ds =>
   rw[N7] at hl
   have kl:k < sl.length:=by lia
   show BT.sets (tgF (k+1) r) ds (sl.set k (some (.p d)))=_
   rw[vd r (k+1) ds _ (Nat.succ.inj h) (by rw[List.length_set];lia),List.drop_set_of_lt (by lia),List.take_succ,Pd kl,List.take_set,List.set_eq_of_length_le (by rw[Q8];lia),Ot,show k+1+r.length=k+(x :: r).length by rw[N7];lia]
   rfl
theorem tP {n:Nat}{d:BT.D}{ds:List BT.D} (h:BT.target n d=some ds):ds.length=n:=by
 unfold BT.target at h
 by_cases c:n=1
 ·rw[if_pos c] at h;cases h;exact c.symm
 ·rw[if_neg c] at h
  cases d with
  | tup xs=>rw[BT.qY] at h;obtain ⟨c,h⟩:=c6 h;rw[← h];exact c
  | lst xs=>rw[BT.qX] at h;obtain ⟨c,h⟩:=c6 h;rw[← h];exact c
  | _=>exact cR h
theorem Co (h:(tgI tg).length=tg.length) (h0:tg≠[]) (hd:BT.target tg.length d0=some ds) (hl:sl.length=tg.length+fs.length) (hr:sl.drop tg.length=fs) :
 BT.sets (tgI tg) ds sl=ds.map BT.gz++fs/\(ds.map BT.gz++fs).length=tg.length+fs.length/\(ds.map BT.gz++fs).drop tg.length=fs:=by
 have hn:=tP hd
 have g:=vd tg 0 ds sl hn (by lia)
 rw[Nat.zero_add,hr] at g
 have le:(ds.map BT.gz).length=tg.length:=by rw[N5];exact hn
 exact ⟨g,by rw[Oa,le],by rw[← le];exact List.drop_left⟩
theorem kI:∀ {fv:List (Nat×Str)}{fs:BT.Sl},BT.frees s fv=some fs->fs.length=fv.length/\∀ (i:Nat) (q:Nat×Str),fv[i]?=some q->fs[i]?=s[q.1]?
 | [],fs,e=>by simp[BT.frees] at e;subst e;exact ⟨rfl,fun i q z=>by simp at z⟩
 | q :: r,fs,e=>by
  simp only[BT.frees] at e
  cases g:s[q.1]? with
  | none=>rw[g] at e;exact cR e
  | some w =>
   rw[g] at e
   obtain ⟨fs',e1,e2⟩:=cY e
   subst e2
   obtain ⟨h1,h2⟩:=kI e1
   refine ⟨by simp[h1],fun i p z=>?_⟩
   cases i with
   | zero=>simp at z;subst z;simp[g]
   | succ i=>simpa using h2 i p (by simpa using z)
theorem wW {K:NO} (S:RS P w K m H σ s) (hf:BT.frees s fv=some fs):RS P w K m H (jD n σ fv) (Od n none++fs):=by
 obtain ⟨h1,h2⟩:=kI hf
 refine ⟨by simp[jD,h1],fun i y e=>?_⟩
 by_cases c:i < n
 ·rw[N6 (by simpa using c),Qf,if_pos c] at e
  cases e
 ·rw[Os (by simpa using c)] at e
  simp only[Qz] at e
  have hi:i - n < fv.length:=by
   rw[← h1]
   rcases OU (i - n) fs.length with z | z
   ·exact z
   ·rw[Og z] at e;exact cR e
  have g:=N8 hi
  rw[h2 _ _ g] at e
  obtain ⟨v,hv,r⟩:=S.get _ _ e
  refine ⟨v,?_,r⟩
  unfold jD
  rw[Os (by simpa using c)]
  simp only[Qz,OE,g,Qc,hv,UJ]
theorem Cq {rest:List BT.D} (e:BT.c9 f n (d :: r) h=some (rest,h2)) :
 ∃ xs o hA rest',BT.target n d=some xs/\f xs h=some (o,hA)/\BT.c9 f n r hA=some (rest',h2)/\rest=(match o with | some x=>x :: rest' | none=>rest'):=by
 rw[BT.c9] at e
 cases g:BT.target n d with
 | none=>rw[g] at e;exact cR e
 | some xs =>
  rw[g] at e
  obtain ⟨o,hA,e1,e2⟩:=cT e
  unfold BT.mJ at e2
  obtain ⟨rest',h3,e3,e4⟩:=cT e2
  unfold BT.uI at e4
  cases e4
  exact ⟨xs,o,hA,rest',rfl,e1,e3,rfl⟩
theorem Un.behind (u:Un fs ex H H' h h1) (a:∀ b,b < h.objs.size->H2 b=H' b) (lt:∀ b o,H b=some o->b < h.objs.size) (k:∀ b o,b < h.objs.size->h1.get? b=some o->h2.get? b=some o):Un fs ex H H2 h h2 where
 keep:=fun b o e n c d=>k b o (N3 e) (u.keep b o e n c d)
 slot:=fun b o e n c d=>by obtain ⟨sl,q⟩:=u.slot b o e n c d;exact ⟨sl,k b _ (N3 e) q⟩
 free:=fun b o e n d=>by rw[a b (N3 e)];exact u.free b o e n d
 there:=fun b o e d=>by obtain ⟨o',q⟩:=u.there b o e d;exact ⟨o',k b o' (N3 e) q⟩
 tups:=fun b xs e=>by rw[a b (lt b _ e)];exact u.tups b xs e
 frzs:=fun b o w e=>by rw[a b (lt b _ e)];exact u.frzs b o w e
 tbls:=fun b ps e=>by rw[a b (lt b _ e)];exact u.tbls b ps e
section
theorem Gg (O:Ok X F G sc N) (hu:gm N=true) (cf:rG sc N tg fv scope) :
 Ok (blk X (tg++fv.map (·.2)) s2 H1 scope C fp) F G (dQ scope sc) (tg++fv.map (·.2)) where
 hsc:=by have:=O.hsc;subst this;rfl
 hN:=rfl
 nd:=cf.nd
 calm:=fun _=>O.calm hu
 hu:=O.hu
 own:=RU
 glob:=O.glob
 call:=O.call
 meth:=O.meth
 mkc:=O.mkc
 blt:=O.blt
 lam:=O.lam
 lamx:=fun h=>absurd (show false=true from h "") (by decide)
theorem zM (e:BT.oq mu sr n (some fs) ec ee ws h=some z) (g:(BT.rds ws h).bind (BT.fK sr)=some ds) :
 uZ sr ws/\∃ f',(∀ xs h r,f' xs h=some r->BT.dP ec ee fs xs h=some r/\pT ws ds r.2)/\pT ws ds h/\BT.bnd (BT.c9 f' n ds h) (BT.gD mu)=some z:=by
 unfold BT.oq at e
 rw[g] at e
 simp only at e
 by_cases ca:BT.jn ws=true
 ·rw[if_pos ca] at e
  exact ⟨.inl ca,_,fun xs h r q=>⟨q,mV ca⟩,mV ca,e⟩
 ·rw[if_neg ca] at e
  have two:sr=.seq/\∃ q,ws=[.r q]:=by
   unfold BT.sX at e
   split at e
   ·exact ⟨rfl,_,rfl⟩
   ·exact cR e
  obtain ⟨rfl,q,rfl⟩:=two
  rw[BT.yz] at e
  have gl:BT.lat h q=some ds:=by
   simp only[BT.rds,BT.rd,Qc] at g
   cases g1:BT.lat h q with
   | none=>rw[g1] at g;exact cR g
   | some xs=>rw[g1] at g;cases g;rfl
  refine ⟨.inr ⟨rfl,q,rfl⟩,_,fun xs h r q=>?_,fun q' e'=>by cases e';exact gl,e⟩
  unfold BT.chk at q
  cases g2:BT.dP ec ee fs xs h with
  | none=>rw[g2] at q;exact cR q
  | some r2 =>
   rw[g2] at q
   simp only at q
   split at q
   ·rename_i c
    cases q
    exact ⟨rfl,fun q' e'=>by cases e';exact c⟩
   ·exact cR q
inductive LI (X:Cx) (F:FT) (G:Str->Option BT.W) (scope:OS) (tg:List Str) (fv:List (Nat×Str)) (cond:BT.Es) (elt:BT.E) (s2:NT) (H1:Hp) (C:N2) (fp:List N2) (tn:Nat->Heap->Prop) (m1:List N2) (ds outs:List BT.D) (fs:BT.Sl) (h2:BT.HH) (f':List BT.D->BT.HH->Option (Option BT.D×BT.HH)) (Cc:BT.HH->Prop) (n:Nat) (s:NT):Prop where
 | mk (i:Nat) (σ':L2.St) (H':Hp) (m':List N2) (hh:BT.HH) (out rest:List BT.D) (vs:List V) (us:List NS) (nn:Nat) (sl:BT.Sl) (p0:i<=ds.length) (p1:n=ds.length - i) (p2:Inv (blk X (tg++fv.map (·.2)) s2 H1 scope C fp) [(s2.heap.objs.size,lobj us nn)] σ' H' s) (p3:tn i s.heap) (p4:(∀ b∈fp,H' b=none)) (p5:Ext m1 H1 m' H') (p6:RH X.K m' H' hh) (p7:RS X.prog X.w X.K m' H' σ' sl) (p8:sl.length=tg.length+fs.length) (p9:sl.drop tg.length=fs) (p10:cX vs us) (p11:RDs X.K m' H' vs out) (p12:BT.c9 f' tg.length (ds.drop i) hh=some (rest,h2)) (p13:out++rest=outs) (p14:Cc hh):LI X F G scope tg fv cond elt s2 H1 C fp tn m1 ds outs fs h2 f' Cc n s
structure Apart (X:Cx) (pins:List (N2×Obj)) (H:Hp) (C:N2):Prop where
 fr:H C=none
 lo:C≠X.env.locals
 ab:X.s₀.heap.objs.size<=C
 ce:∀ x c,X.env.cells.lookup x=some c->c≠C
 pi:∀ p∈X.pn++pins,p.1≠C
theorem oK (O:Ok X F G sc N) (hu:gm N=true) {cond:BT.Es}
 (hk:jy sc N tg fv scope=true) (ht:rf (dQ scope sc) tg te=true) (hset:jw iter=true) (hI:PI X te iter (iD X F G sr sa)) (hC:m6 F G (dQ scope sc) (tg++fv.map (·.2)) cond ifs)
 (hE:∀ X',Ok X' F G (dQ scope sc) (tg++fv.map (·.2))->PE X' elt' (tD X' F G elt)):∀ (pins:List (N2×Obj)) (s:NT) (σ:L2.St) (H:Hp) (Q:VK) (use:Option (NS->Sem Unit)) (Q':NS->NT->Prop),Inv X pins σ H s->tD X F G (.comp mu sr sa tg fv cond elt) σ H Q →
 (∀ (s6:NT) (H6:Hp) (C D:N2) (m:Str->Option NS),Inv X pins σ H6 s6->s6.heap.Ns C m->Apart X pins H6 C->Q (.ref D) H6->compPost (Oi X.prog X.w) X.A X.xe use Q' (.ref D) C (.ok .next) s6) →
 wpAny (Oi X.prog X.w) X.A (comprehension (.ListComp elt' [⟨te,iter,ifs,0⟩] scope pos) scope X.env (firstIterPos [⟨te,iter,ifs,0⟩] pos) (newList []) false (eval iter X.env) use) Q' X.xe s:=by
 have cf:=JJ hk
 obtain ⟨ct,tl,tloc⟩:=Cn (fs:=fv.map (·.2)) ht
 have t0:tg≠[]:=by
  rintro rfl
  simp[rf] at ht
 intro pins s σ H Q use Q' I q hfin
 obtain ⟨m,s',h,z,h',R,S,ee,post⟩:=q
 simp only[BT.ev] at ee
 obtain ⟨ws,h1,e1,e2⟩:=cT ee
 cases g1:(BT.rds ws h1).bind (BT.fK sr) with
 | none=>unfold BT.oq at e2;rw[g1] at e2;exact cR e2
 | some ds =>
  cases g2:BT.frees s' fv with
  | none=>unfold BT.oq at e2;rw[g1,g2] at e2;exact cR e2
  | some fs =>
   rw[g2] at e2
   obtain ⟨ca,f',hf',c1,e2⟩:=zM e2 g1
   obtain ⟨outs,h2,e3,e4⟩:=cT e2
   unfold BT.gD at e4
   by_cases cl:outs.length<=BT.lim
   case neg=>rw[if_neg cl] at e4;exact cR e4
   rw[if_pos cl] at e4
   have ez:BT.new mu outs h2=(z,h'):=N4 e4
   have hfree:BC.tN X.env.cells scope.names:=fun x hx e=>I.ok.has x.1 (.inl (by
    have:=cf.free x hx e
    show X.env.scope.names.lookup x.1=_
    rw[O.hsc];exact this))
   refine wpAny_comprehension_free (use:=use) rfl (u5 hset) (BC.tO hfree) cf.k1 cf.loc
    (thn (hI pins s σ H (fun J H1=>∃ m1,Ext m H m1 H1/\RH X.K m1 H1 h1/\nM X.K J m1 H1 ds (pT ws ds)) I ⟨m,s',h,ws,h1,ds,R,S,e1,g1,ca,fun H1 m1 J x1 R1 it=>⟨m1,x1,R1,it⟩⟩) fun v s1 hv=>thn hv fun itv s2 h2'=>?_)
   obtain ⟨it,fp,tn,J,H1,rfl,I1,T,st,hf,m1,x1,R1,ito⟩:=h2'
   have hlt:∀ b∈fp,b < s2.heap.objs.size:=fun b hb=>by
    obtain ⟨o,ho,_⟩:=T.obj 0 _ st b hb
    exact N3 ho
   refine OO (wpAny_newFunctionEnv cf.cell (by intro y hy;simp at hy) (fun h3 hns hsb=>?_) cf.k1)
   dsimp only at hns hsb ⊢
   generalize hH2:s2.heap.push { cls:=.type "list",dict:=none,data:=.seq ([]:List NS).toArray }=H2 at hns hsb ⊢
   have hCs:H2.objs.size=s2.heap.objs.size+1:=by rw[← hH2,PY]
   have old:∀ b o,s2.heap.get? b=some o->h3.get? b=some o:=fun b o e=>hsb.extBut b o (by rw[hCs];exact Oh (Nat.lt_succ_of_lt (N3 e))) (NQ _ (hH2 ▸ NQ _ e))
   have hacc:h3.get? s2.heap.objs.size=some (lobj [] 0):=hsb.extBut _ _ (by rw[hCs];exact Oh (P6 _)) (NQ _ (hH2 ▸ N9 _ rfl))
   have I4:=Ck (tk:=s2.toks+([]:List (Str×NS)).length) I1 O.hsc O.hN cf hCs hf hlt old hns hacc
   have O':=Gg (s2:=s2) (H1:=H1) (C:=H2.objs.size) (fp:=fp) O hu cf
   obtain ⟨g,hg1,hg2⟩:=sCT O' (O.calm hu) ct fun q hq=>.inr (by rw[O'.hsc];exact tloc q hq)
   have hfl:fs.length=fv.length:=(kI g2).1
   have stat:∀ {H':Hp}{o:Obj},(∀ b∈fp,H' b=none)->∀ b∈fp,nC (blk X (tg++fv.map (·.2)) s2 H1 scope H2.objs.size fp) [(s2.heap.objs.size,o)] H' b:=fun {H' o} hn b hb=>by
    refine ⟨hn b hb,?_,?_,.inl hb,fun x c e=>(hf b hb).2.2.2.2.1 x c (kZ e),fun p hp=>?_⟩
    ·show b≠H2.objs.size
     rw[hCs];exact Oh (Nat.lt_succ_of_lt (hlt b hb))
    ·intro zz
     rcases List.mem_cons.mp (I1.oV b zz) with e | e
     ·exact (hf b hb).2.1 e
     ·exact (hf b hb).2.2.1 e
    ·have hp':p=(s2.heap.objs.size,o):=by
      have:p∈[]++[(s2.heap.objs.size,o)]:=hp
      simpa using this
     rw[hp']
     show s2.heap.objs.size≠b
     exact QM (hlt b hb)
   have loop:∀ s4:NT,s4={ s2 with heap:=h3,toks:=s2.toks+([]:List (Str×NS)).length } →
    codeAny (Oi X.prog X.w) X.A (.compLoop (.ListComp elt' [⟨te,iter,ifs,0⟩] scope pos) 0 (.ref it) (.ref s2.heap.objs.size) (UD scope (BC.gI X.env.cells scope.names []) H2.objs.size X.env))
     (compPost (Oi X.prog X.w) X.A X.xe use Q' (.ref s2.heap.objs.size) H2.objs.size) s4:=by
    rintro s4 rfl
    refine BC.wV (LI X F G scope tg fv cond elt s2 H1 H2.objs.size fp tn m1 ds outs fs h2 f' (pT ws ds)) ?_
     ds.length ⟨0,_,H1,m1,h1,[],outs,[],[],0,_,Qs _,rfl,I4,T.keep 0 _ _ st (fun b hb o e=>old b o e),fun b hb=>(hf b hb).1,.refl _ _,R1,wW (S.ext x1) g2,by simp,by simp,.nil,.nil,by rw[QS];exact e3,rfl,c1⟩
    rintro n s5 ⟨i,σ5,H5,m5,hh,out,rest,vs,us,nn,sl,hi,rfl,I5,st5,fr5,x5,R5,S5,sl1,sl2,rv5,rd5,go5,ou5,cc5⟩
    by_cases c:i < ds.length
    ·rw[Te c] at go5
     obtain ⟨xs,o,hA,rest',eT,eF,eG,eR⟩:=Cq go5
     obtain ⟨eF,cA⟩:=hf' _ _ _ eF
     refine thn (T.item (blk X (tg++fv.map (·.2)) s2 H1 scope H2.objs.size fp) rfl rfl rfl (O.calm hu) i _ s5 σ5 H5 _ I5 (stat fr5) st5 (ito.go m5 H5 hh i x5 R5 cc5 c)) fun r s6 hr=>?_
     obtain ⟨u,rfl,hr⟩:=hr
     refine thn hr fun _ s7 zq=>?_
     obtain ⟨x,H7,I7,r7,y7,st7,fr7⟩:=zq
     obtain ⟨x7,k7,rd7⟩:=ito.yld m5 H5 hh i x H7 ds[i] x5 R5 cc5 (N8 c) y7
     have R7:=R5.ext x7 k7
     have I7':=I7.pinned (stat fr7) (T.obj _ _ st7)
     obtain ⟨sq1,sq2,sq3⟩:=Co tl t0 eT sl1 sl2
     refine thn (hg1 _ s7 σ5 H7 x u (fun σ8 H8=>H8=H7/\RS X.prog X.w X.K m5 H7 σ8 (xs.map BT.gz++fs)) I7' r7 (hg2 m5 H7 σ5 sl x ds[i] xs _ (S5.ext x7) rd7 (by rw[tl];exact eT) fun σ8 S8=>⟨rfl,by rw[← sq1];exact S8⟩)) fun _ s8 h8=>?_
     obtain ⟨σ8,H8,I8,rfl,S8⟩:=h8
     have kept:∀ {s9:NT}{σ9:L2.St}{H9:Hp},Inv (blk X (tg++fv.map (·.2)) s2 H1 scope H2.objs.size fp) ([(s2.heap.objs.size,lobj us nn)]++kj fp s7.heap) σ9 H9 s9->tn (i+1) s9.heap/\∀ b∈fp,H9 b=none:=fun {s9 σ9 H9} I9=>by
      refine ⟨T.keep _ _ _ st7 fun b hb o e=>(I9.pin (b,o) (Ou _ (Ou _ (gM hb e)))).1,fun b hb=>?_⟩
      obtain ⟨o,e,_⟩:=T.obj _ _ st7 b hb
      exact (I9.pin (b,o) (Ou _ (Ou _ (gM hb e)))).2.1
     have elem:∀ {s9:NT}{H9:Hp}{m9:List N2}{h9:BT.HH}{w:BT.W}{hB:BT.HH}{d:BT.D},Inv (blk X (tg++fv.map (·.2)) s2 H1 scope H2.objs.size fp) ([(s2.heap.objs.size,lobj us nn)]++kj fp s7.heap) σ8 H9 s9->Ext m5 H8 m9 H9->RH X.K m9 H9 h9 →
      BT.ev F G elt (xs.map BT.gz++fs) h9=some (w,hB)->BT.jv w hB=some (some d,hA)->o=some d →
      wpAny (Oi X.prog X.w) X.A (eval elt' (UD scope (BC.gI X.env.cells scope.names []) H2.objs.size X.env)) (fun x s₄ =>
       wpAny (Oi X.prog X.w) X.A (call (.builtin "list.append") [.ref s2.heap.objs.size,x]) (fun _ s₅=>∃ m,m < ds.length - i/\LI X F G scope tg fv cond elt s2 H1 H2.objs.size fp tn m1 ds outs fs h2 f' (pT ws ds) m s₅) (fun _ _=>False) s₄) (fun _ _=>False) s9:=by
      intro s9 H9 m9 h9 w hB d I9 x9 R9 eE eK eO
      have ew:w=.p d/\hB=hA:=by
       unfold BT.jv at eK
       cases w with
       | p d'=>cases eK;exact ⟨rfl,rfl⟩
       | r _=>exact cR eK
       | k _=>exact cR eK
       | c _ _=>exact cR eK
       | x _=>exact cR eK
       | o _=>exact cR eK
      obtain ⟨rfl,rfl⟩:=ew
      refine thn (hE _ O' _ s9 σ8 H9 (fun v Ha=>∃ ma,Ext m9 H9 ma Ha/\RH X.K ma Ha hB/\RD X.K ma Ha v d) I9 ⟨m9,_,h9,_,hB,R9,S8.ext x9,eE,fun v Ha ma xa Ra ra=>by
       cases ra with | p ra=>exact ⟨ma,xa,Ra,ra⟩⟩) fun u10 s10 ⟨v10,H10,I10,r10,m10,x10,R10,rd10⟩=>?_
      obtain ⟨pD,nD,neD,nfD,_⟩:=I10.pin (s2.heap.objs.size,lobj us nn) (by simp)
      have lus:=rv5.length
      have lvs:=rd5.length
      have lou:out.length<=outs.length:=by rw[← ou5];simp
      have lle:=fy
      have cl':outs.length<=BT.lim:=cl
      refine wpAny_list_append_plain ⟨nn,pD⟩ (fun h11 hp11 sb11=>?_) (by rw[NV];lia)
      obtain ⟨nn',hp11⟩:=hp11
      have hp11:h11.get? s2.heap.objs.size=some (lobj (us++[u10]) nn'):=by rw[hp11];simp[lobj]
      have sb11:OF s2.heap.objs.size s10.heap h11:=sb11
      obtain ⟨st10,fr10⟩:=kept I10
      have I11:Inv (blk X (tg++fv.map (·.2)) s2 H1 scope H2.objs.size fp) [] σ8 H10 { s10 with heap:=h11 } :=
       Inv.turned (t':=s10.toks) (I10.lC (fun p hp=>by cases hp)) (fun b o hb e=>(sb11.2 b hb).trans e) nD neD (.inr (N1 _)) (fun x c e zz=>by
        obtain ⟨v,o,ho,_⟩:=I1.cell x c (kZ e)
        have:=N3 ho
        rw[zz] at this
        exact absurd this (Pv _)) fun p hp=>by cases hp
      have I12:Inv (blk X (tg++fv.map (·.2)) s2 H1 scope H2.objs.size fp) [(s2.heap.objs.size,lobj (us++[u10]) nn')] σ8 H10 { s10 with heap:=h11 }:=I11.lC fun p hp=>by
       simp only[List.mem_singleton] at hp
       subst hp
       exact ⟨hp11,nD,neD,nfD,fun v zz=>by cases (show Data.seq _ _=Data.cell v from zz)⟩
      have xt:Ext m5 H5 m10 H10:=(x7.trans x9).trans x10
      refine ⟨ds.length - (i+1),by lia,i+1,σ8,H10,m10,hB,out++[d],rest',vs++[v10],us++[u10],nn',_,c,rfl,I12,?_,fr10,x5.trans xt,R10,(S8.ext x9).ext x10,sq2,sq3,rv5.append (.cons r10 .nil),(rd5.ext xt).append (.cons rd10 .nil),eG,?_,cA⟩
      ·refine T.keep _ _ _ st10 fun b hb o' e=>(sb11.2 b ?_).trans e
       exact Oh (hlt b hb)
      ·rw[← ou5,eR,eO,Ot];rfl
     unfold BT.dP at eF
     obtain ⟨cs,hc,eC,eK⟩:=cT eF
     rcases hC with ⟨rfl,rfl⟩ | ⟨cc,cc',rfl,rfl,hCC⟩
     ·simp only[BT.evs] at eC
      cases eC
      have eK:=(show BT.bnd _ BT.jv=_ from eK)
      obtain ⟨w,hB,eE,eL⟩:=cT eK
      refine wpAny_tests_nil ?_
      rw[if_pos rfl]
      have:∃ d,o=some d:=by
       unfold BT.jv at eL
       cases w with
       | p d'=>cases eL;exact ⟨_,rfl⟩
       | r _=>exact cR eL
       | k _=>exact cR eL
       | c _ _=>exact cR eL
       | x _=>exact cR eL
       | o _=>exact cR eL
      obtain ⟨d,rfl⟩:=this
      exact elem I8 (.refl _ _) R7 eE eL rfl
     ·simp only[BT.evs] at eC
      obtain ⟨wc,hc2,eC1,eC2⟩:=cT eC
      simp only[BT.mL,BT.dm,BT.gT] at eC2
      cases eC2
      have hb:∃ b,wc=.p (.bl b):=by
       cases wc with
       | p d =>
        cases d<;>first | exact ⟨_,rfl⟩ | exact cR eK
       | r _=>exact cR eK
       | k _=>exact cR eK
       | c _ _=>exact cR eK
       | x _=>exact cR eK
       | o _=>exact cR eK
      obtain ⟨b,rfl⟩:=hb
      refine wpAny_tests_one (thn (hCC _ O' _ s8 σ8 H8 (fun b' Ha=>b'=b/\∃ ma,Ext m5 H8 ma Ha/\RH X.K ma Ha hc) I8 ⟨m5,_,hh,b,hc,R7,S8,eC1,fun Ha ma xa Ra=>⟨rfl,ma,xa,Ra⟩⟩) fun b' s9 zq=>?_)
      obtain ⟨H9,I9,hbb,m9,x9,R9⟩:=zq
      subst hbb
      cases b' with
      | false =>
       have eK:=(show some ((none:Option BT.D),hc)=some _ from eK)
       cases eK
       rw[if_neg (by decide)]
       obtain ⟨st9,fr9⟩:=kept I9
       have xt:Ext m5 H5 m9 H9:=x7.trans x9
       refine ⟨ds.length - (i+1),by lia,i+1,σ8,H9,m9,hA,out,rest',vs,us,nn,_,c,rfl,I9.jH,st9,fr9,x5.trans xt,R9,S8.ext x9,sq2,sq3,rv5,rd5.ext xt,eG,?_,cA⟩
       rw[← ou5,eR]
      | true =>
       have eK:=(show BT.bnd _ BT.jv=_ from eK)
       rw[if_pos rfl]
       obtain ⟨w,hB,eE,eL⟩:=cT eK
       have:∃ d,o=some d:=by
        unfold BT.jv at eL
        cases w with
        | p d'=>cases eL;exact ⟨_,rfl⟩
        | r _=>exact cR eL
        | k _=>exact cR eL
        | c _ _=>exact cR eL
        | x _=>exact cR eL
        | o _=>exact cR eL
       obtain ⟨d,rfl⟩:=this
       exact elem I9 x9 R9 eE eL rfl
    ·have ei:i=ds.length:=by lia
     subst ei
     rw[List.drop_length,BT.c9] at go5
     cases go5
     rw[OJ] at ou5
     subst ou5
     refine thn (T.done (blk X (tg++fv.map (·.2)) s2 H1 scope H2.objs.size fp) rfl rfl rfl (O.calm hu) _ _ s5 σ5 H5 _ I5 (stat fr5) st5 (ito.stop m5 H5 _ x5 R5 cc5)) fun r s6 zq=>?_
     obtain ⟨hr,I6⟩:=zq
     subst hr
     obtain ⟨mm,hmm,_⟩:=I6.loc
     obtain ⟨pD,nD,neD,nfD,_⟩:=I6.pin (s2.heap.objs.size,lobj us nn) (by simp)
     have neD:s2.heap.objs.size≠H2.objs.size:=neD
     have hos:s6.os=s2.os:=I6.os
     have lus:=rv5.length
     have lvs:=rd5.length
     have lle:=fy
     have cl':out.length<=BT.lim:=cl
     have hok:HOk X.prog X.w (upd H5 s2.heap.objs.size (.lst vs)) s6.heap:=fun b u e=>by
      by_cases eb:b=s2.heap.objs.size
      ·subst eb
       rw[dS] at e
       cases e
       exact ⟨by lia,us,nn,rv5,pD⟩
      ·rw[c5 eb] at e
       refine (I6.hok b u e).stay (fun c v hc q=>q) (fun c q=>?_) fun c l q=>?_
       ·rw[c5 (fun zz=>by rw[zz,nD] at q;exact cR q)];exact q
       ·rw[c5 (fun zz=>by rw[zz,nD] at q;exact cR q)];exact q
     have u7:Un (frs X.stack) fp H1 (upd H5 s2.heap.objs.size (.lst vs)) s2.heap s6.heap:=Un.behind (h1:=s6.heap) I6.base (fun b hb=>c5 (Oh hb)) (fun b o e=>I1.hok.lt e) fun b o hb e=>e
     have I7:=I1.call (g':=s6.gens) (t':=s6.toks) (d':=s6.drawn) (ch:=fp) u7 hok I6.bare fun b hb=>⟨(hf b hb).2.2.2.1,(hf b hb).2.1,(hf b hb).2.2.2.2.1,(hf b hb).2.2.2.2.2⟩
     have fr6:H5 H2.objs.size=none:=I6.free
     have ltC:s2.heap.objs.size < H2.objs.size:=by rw[hCs];exact P6 _
     have ap:Apart X pins (upd H5 s2.heap.objs.size (.lst vs)) H2.objs.size:=by
      refine ⟨by rw[c5 (Re neD)];exact fr6,?_,?_,fun x c e zz=>?_,fun p hp zz=>?_⟩
      ·exact QM (Si I1.lt ltC)
      ·exact Om I1.sz (QN ltC)
      ·obtain ⟨v,o,ho,_⟩:=I1.cell x c e
       have l:=N3 ho
       rw[zz] at l
       exact absurd (Si l ltC) (Pv _)
      ·have l:=N3 (I1.pin p hp).1
       rw[zz] at l
       exact absurd (Si l ltC) (Pv _)
     refine hfin s6 _ _ _ mm ?_ hmm ap (pL (mu:=mu) R5 nD rd5 (by rw[ez];exact fun v' H' m' xx RR rr=>post v' H' m' ((x1.trans x5).trans xx) RR rr))
     obtain ⟨hp6,g6,d6,t6,os6⟩:=s6
     have hos:os6=s2.os:=hos
     subst hos
     exact I7
   exact codeAny_compStart_list (loop _ rfl) (T.self _ 0 _ _ _ (T.keep 0 _ _ st (fun b hb o e=>old b o e)) (loop _ rfl))
theorem Cr (O:Ok X F G sc N) (hu:gm N=true) {cond:BT.Es}
 (hk:jy sc N tg fv scope=true) (ht:rf (dQ scope sc) tg te=true) (hset:jw iter=true) (hI:PI X te iter (iD X F G sr sa)) (hC:m6 F G (dQ scope sc) (tg++fv.map (·.2)) cond ifs)
 (hE:∀ X',Ok X' F G (dQ scope sc) (tg++fv.map (·.2))->PE X' elt' (tD X' F G elt)):PE X (.ListComp elt' [⟨te,iter,ifs,0⟩] scope pos) (tD X F G (.comp mu sr sa tg fv cond elt)):=by
 intro pins s σ H Q I q
 rw[eval_ListComp]
 refine oK O hu hk ht hset hI hC hE pins s σ H Q none _ I q fun s6 H6 C D m I6 hn ap hq=>?_
 refine ⟨m,hn,fun h7 sb7=>?_⟩
 have sb7:OF C s6.heap h7:=sb7
 exact ⟨.ref D,H6,Inv.turned (t':=s6.toks) I6 (fun b o hb e=>(sb7.2 b hb).trans e) ap.fr ap.lo (.inr ap.ab) ap.ce ap.pi,rfl,hq⟩
theorem Cs (O:Ok X F G sc N) (hu:gm N=true) {cond:BT.Es}
 (hk:jy sc N tg fv scope=true) (ht:rf (dQ scope sc) tg te=true) (hset:jw iter=true) (hI:PI X te iter (iD X F G sr sa)) (hC:m6 F G (dQ scope sc) (tg++fv.map (·.2)) cond ifs)
 (hE:∀ X',Ok X' F G (dQ scope sc) (tg++fv.map (·.2))->PE X' elt' (tD X' F G elt)) (hy:N[i]?=some y) (hl:sc.names.lookup y=some .local)
 (hsw:QT (.ListComp elt' [⟨te,iter,ifs,0⟩] scope pos) (some (.Name y py)) spos.line X.env=pure true) :
 PS X (.Assign [.Name y py] (.ListComp elt' [⟨te,iter,ifs,0⟩] scope pos) spos) (xP (tD X F G (.comp mu sr sa tg fv cond elt)) (uy i)):=by
 intro pins s σ H D I q
 rw[exec_Assign_Name_used _ _ _ _ hsw]
 refine NP (Sk (NP ?_))
 show wpAny _ X.A (do let _ ← comprehension (.ListComp elt' [⟨te,iter,ifs,0⟩] scope pos) scope X.env _ (newList []) false (eval iter X.env) (some (SZ (.Name y py) X.env))) _ _ s
 refine NP (thn (oK O hu hk ht hset hI hC hE pins s σ H _ (some (SZ (.Name y py) X.env)) (fun _ s'=>SP X pins D .next s') I q fun s6 H6 C D' m I6 hn ap hq=>?_) fun _ s' hq=>wpAny_pure (wpAny_pure hq))
 show wpAny _ X.A (SZ (.Name y py) X.env (.ref D')) _ _ _
 refine wpAny_assign_Name (nU I6 O.nd (by rw[O.hN];exact hy) (.inl (by rw[O.hsc];exact hl)) (v:=.ref D') rfl (fun s7 I7 hs=>?_) (.inr (by rw[O.hsc];exact hl)))
 obtain ⟨a,sb,ha⟩:=hs
 have neC:C≠a:=by
  rcases ha with rfl | ha
  ·exact ap.lo
  ·exact fun z=>ap.ce y a ha z.symm
 refine ⟨m,hn.sameBut sb neC,fun h8 sb8=>?_⟩
 have sb8:OF C s7.heap h8:=sb8
 exact ⟨_,H6,Inv.turned (t':=s7.toks) I7 (fun b o hb e=>(sb8.2 b hb).trans e) ap.fr ap.lo (.inr ap.ab) ap.ce ap.pi,hq⟩
end
section
variable {E:NS->NT->Prop}
end
section
end
end BS
end
section
namespace L2
open PySem PySem.Spec PyProof.Rows
noncomputable def Ct (lo:Int) (n:Nat):It:=⟨fun i _=>i < n,fun i H x H'=>H'=H/\x=.int (lo - i),fun i _=>n<=i⟩
theorem rJ {P:Oc}{w:Oo}{K:NO}{tg:QF} (it:N2) (lo:Int) (n:Nat):Turn P w K tg (Ct lo n) [it] it (fun i h=>TU h it (lo+(i:Nat)*(-1)) ((n:Int) - (i:Nat)) (-1)) where
 mem:=by simp
 obj:=fun i h st b hb=>by
  have e:b=it:=by simpa using hb
  subst e
  exact ⟨_,st,fun v z=>by
   have z':Data.fields _=Data.cell v:=z
   cases z'⟩
 keep:=fun i h h' st k=>k it (by simp) _ st
 item:=by
  intro X hP hw hK hc i pins s σ H E I hf st hg
  subst hP hw hK
  obtain ⟨f0,f1,f2,f3,f4,f5⟩:=hf it (by simp)
  have W:=Walks.range (prog:=X.prog) (w:=X.w) (I.ok.hd hc) it lo (-1) n
  refine W.item i s _ _ hg st fun v h' tk hv st' kk=>?_
  obtain ⟨t,rfl⟩:=hv
  have I1:Inv X pins σ H { s with heap:=h',toks:=tk }:=I.turned (fun b o hb e=>kk b o (by simpa using hb) e) f0 f1 f3 f4 f5
  refine ⟨_,rfl,nW (s:={ s with heap:=h',toks:=tk }) (n:="range_iterator") st' rfl rfl (by decide) ⟨.int (lo - i),H,I1,⟨t,?_⟩,⟨rfl,rfl⟩,st',fun b hb=>(hf b hb).1⟩⟩
  rw[show lo+(i:Int)*-1=lo - (i:Int) by lia]
 done:=by
  intro X hP hw hK hc i pins s σ H E I hf st hg
  subst hP hw hK
  obtain ⟨f0,f1,f2,f3,f4,f5⟩:=hf it (by simp)
  exact wpAny_pyNext_range_end (I.ok.hd hc) st (by have:n<=i:=hg;lia) fun h' eb=>⟨rfl,I.turned (t':=s.toks) (fun b o hb e=>eb b o hb e) f0 f1 f3 f4 f5⟩
 self:=fun _ _ _ _ _ st h=>wpAny_pyIter_rangeiter st h
section
variable {X:Cx}{tg:QF}
theorem wX {pins:List (N2×Obj)}{σ:St}{H:Hp}{s:NT}{R:It->Hp->Prop}{E:NS->NT->Prop}{lo hi:Int}{t u v:Tok}{tk:Nat} (I:Inv X pins σ H s) (h1:-(2 ^ 62)<=lo) (h2:lo < 2 ^ 62) (h3:-(2 ^ 62)<=hi) (h4:hi < 2 ^ 62)
 (q:R (Ct lo (lo - hi).toNat) H):wpAny (Oi X.prog X.w) X.A (pyIter (.ref s.heap.objs.size)) (PIE X pins σ tg R) E { s with heap:=s.heap.push { cls:=.type "range",data:=.fields #[.int lo t,.int hi u,.int (-1) v] },toks:=tk }:=by
 refine wpAny_pyIter_range (IsRange.new ..) (PySem.W.small_down h1 h2 h3 h4) ?_
 have I1:Inv X pins σ H { s with heap:=s.heap.push { cls:=.type "range",data:=.fields #[.int lo t,.int hi u,.int (-1) v] },toks:=tk }:=I.kept fun b o e=>NQ _ e
 refine ⟨(s.heap.push { cls:=.type "range",data:=.fields #[.int lo t,.int hi u,.int (-1) v] }).objs.size,[(s.heap.push { cls:=.type "range",data:=.fields #[.int lo t,.int hi u,.int (-1) v] }).objs.size],_,_,H,rfl,
  I1.kept (t':=tk) fun b o e=>NQ _ e,rJ _ lo (lo - hi).toNat,?_,fun b hb=>?_,q⟩
 ·have e1:lo+((0:Nat):Int)*(-1)=lo:=by simp
  have e2:(((lo - hi).toNat:Nat):Int) - ((0:Nat):Int)=RV lo hi (-1):=by rw[PySem.W.rangeSize_downNat];simp
  show TU _ _ (lo+((0:Nat):Int)*(-1)) ((((lo - hi).toNat:Nat):Int) - ((0:Nat):Int)) (-1)
  rw[e1,e2]
  exact N9 _ rfl
 ·have e:b=(s.heap.push { cls:=.type "range",data:=.fields #[.int lo t,.int hi u,.int (-1) v] }).objs.size:=by simpa using hb
  subst e
  exact I1.sj (N1 _) (I1.hok.fresh (N1 _))
end
end L2
namespace BS
open PySem PySem.Spec PyProof.Rows L2
section
variable {F:FT}{G:Str->Option BT.W}
theorem Cu {C:BT.HH->Prop}{K:NO}{m0:List N2}{H0:Hp} (lo:Int) (n:Nat):nM K (Ct lo n) m0 H0 (BT.down lo n) C:=by
 have hl:(BT.down lo n).length=n:=by simp[BT.down]
 refine ⟨fun m H hh i x _ _ hi=>by rw[hl] at hi;exact hi,fun m H hh i v H' d x RR _ hd y=>?_,fun m H _ x _ _=>by rw[hl];exact N1 n⟩
 obtain ⟨rfl,rfl⟩:=y
 have hi:i < n:=by
  have:=getD_some hd
  rw[hl] at this
  exact this
 have:d=.int (lo - i):=by
  unfold BT.down at hd
  rw[OE,RC hi] at hd
  exact (N4 hd).symm
 subst this
 exact ⟨.refl _ _,fun _ _ e=>e,.int _⟩
theorem zN {X:Cx}{sc:OS}{N:List Str} (O:Ok X F G sc N) {tg x y z:NY}{sa:BT.Es}{p pos:Pos} (hg:dR sc "range"=true) (hs:noStar x=true) (hs2:noStar y=true) (hs3:noStar z=true) (hA:PA X [x,y,z] (tDs X F G sa)):PI X tg (.Call (.Name "range" p) [x,y,z] [] pos) (iD X F G .rng3 sa):=by
 intro pins s σ H R I q
 obtain ⟨m,s',h,ws,h',ds,RR,S,e,e2,ha,post⟩:=q
 obtain ⟨xs,rfl⟩:=pU (ha.p (fun z=>by cases z))
 rw[pV,OI] at e2
 have hx:∃ i j c:Int,xs=[.int i,.int j,.int c]:=by
  match xs,e2 with
  | [.int i,.int j,.int c],_=>exact ⟨i,j,c,rfl⟩
 obtain ⟨i,j,c,rfl⟩:=hx
 rw[BT.wF] at e2
 obtain ⟨⟨rfl,c1,c2,c3,c4⟩,e3⟩:=c6 e2
 subst e3
 refine Call_ (jq (u:=.type "range") I (dU O hg) (O.blt _ (by decide)) (by decide +kernel) (O5 (thn (hA pos pins s σ H (fun vs H1=>vs=[.int i,.int j,.int (-1)]/\R (Ct i (i - j).toNat) H1) I ⟨m,s',h,_,h',RR,S,e,fun vs H1 m1 x1 R1 r1=>?_⟩) fun us s1 ⟨vs,H1,I1,r1,q1⟩=>?_) (cV hs) (dw (by simp[cU,hs2,hs3]))))
 ·cases r1 with
  | cons r t =>
   cases t with
   | cons r2 t2 =>
    cases t2 with
    | cons r3 t3 =>
     cases t3
     cases r with
     | p r =>
      cases r2 with
      | p r2 =>
       cases r3 with
       | p r3 =>
        cases r;cases r2;cases r3
        exact ⟨rfl,post H1 m1 _ x1 R1 (Cu i (i - j).toNat)⟩
 ·obtain ⟨rfl,q1⟩:=q1
  obtain ⟨u,u2,u3,rfl,eu,eu2,eu3⟩:∃ u u2 u3,us=[u,u2,u3]/\RelV (.int i) u/\RelV (.int j) u2/\RelV (.int (-1)) u3:=by
   cases r1 with
   | cons q t=>obtain ⟨u2,u3,rfl,k1,k2⟩:=vals2 t;exact ⟨_,_,_,rfl,q,k1,k2⟩
  obtain ⟨t,rfl⟩:=eu
  obtain ⟨t2,rfl⟩:=eu2
  obtain ⟨t3,rfl⟩:=eu3
  exact call_range_3 (by decide) (wX I1 (by lia) (by lia) (by lia) (by lia) q1) (.inl (S9 (by lia)))
end
end BS
end
section
namespace BS
open PySem PySem.Spec PyProof.Rows L2
section
variable {E:NS->NT->Prop}
theorem nN (hit:s.heap.IsTupleIter it t i) (ht:s.heap.IsTuple t items) (hx:items[i]?=some x)
 (hQ:∀ h',h'.IsTupleIter it t (i+1)->OF it s.heap h'->Q x { s with heap:=h' }) :
 wpAny (Oi prog w) A (Ol (.ref it)) Q E s:=by
 obtain ⟨o,ho,hc,hd⟩:=id hit
 obtain ⟨ol,hol,_,nl,hdl⟩:=ht
 unfold Ol
 refine NP (OW (name:=NR "__next__") hit.typeIs F.slot_tuple_iterator_next
  (PK F.slot_tuple_iterator_next hit.typeIs F.entry_tuple_iterator_next ?_ (F.args_tuple_iterator_next_1 _)))
 show wpAny _ _ (field (.ref it) 0 >>= _) _ _ s
 refine NP (OQ ho hd (x:=.ref t) rfl ?_)
 show wpAny _ _ (if (O8 t==Qj)=true then _ else _) _ _ s
 rw[if_neg (show ¬ ((O8 t==Qj)=true) from OG)]
 show wpAny _ _ (field (.ref it) 1 >>= _) _ _ s
 refine NP (OQ ho hd (x:=.int i 0) rfl ?_)
 show wpAny _ _ (seqItems? (.ref t) >>= _) _ _ s
 refine NP (PN hol hdl ?_)
 simp only[Sf,hx]
 refine NP (wpAny_setField ho hd (by simp) (wpAny_pure ⟨x,rfl,wpAny_pure (hQ _ ?_ (SE ..))⟩))
 exact ⟨_,Ud _ ho (Obj.isFreed_of_fields (Obj.data_mapFields hd _)),(Obj.cls_mapFields ..).trans hc,by
  rw[Obj.data_mapFields hd];simp[rawInt]⟩
theorem qa (hh:A.handled=none) (hit:s.heap.IsTupleIter it t i) (ht:s.heap.IsTuple t items) (hx:items[i]?=none)
 (hE:∀ h' e,Heap.ExtBut it s.heap h'->(∃ o,h'.get? e=some o/\o.cls=.type "StopIteration")->E (.ref e) { s with heap:=h' }) :
 wpAny (Oi prog w) A (Ol (.ref it)) Q E s:=by
 obtain ⟨o,ho,hc,hd⟩:=id hit
 obtain ⟨ol,hol,_,nl,hdl⟩:=ht
 unfold Ol
 refine NP (OW (name:=NR "__next__") hit.typeIs F.slot_tuple_iterator_next
  (PK F.slot_tuple_iterator_next hit.typeIs F.entry_tuple_iterator_next ?_ (F.args_tuple_iterator_next_1 _)))
 show wpAny _ _ (field (.ref it) 0 >>= _) _ _ s
 refine NP (OQ ho hd (x:=.ref t) rfl ?_)
 show wpAny _ _ (if (O8 t==Qj)=true then _ else _) _ _ s
 rw[if_neg (show ¬ ((O8 t==Qj)=true) from OG)]
 show wpAny _ _ (field (.ref it) 1 >>= _) _ _ s
 refine NP (OQ ho hd (x:=.int i 0) rfl ?_)
 show wpAny _ _ (seqItems? (.ref t) >>= _) _ _ s
 refine NP (PN hol hdl ?_)
 simp only[Sf,hx]
 refine NP (Up (NP (wpAny_setField ho hd (by simp) ?_)))
 show wpAny _ _ (newExc (.type "StopIteration") [] >>= _) _ _ _
 refine NP ?_
 simp only[newExc,newTuple]
 refine NP (OO ?_ (by size_fits))
 refine NP (m:=firstArgMember _ _) (wpAny_of_eq (a:=Qj) (by first | rfl | (simp only[firstArgMember];rfl)) ?_)
 refine OO ?_ (by size_fits)
 simp only[raiseNew]
 refine NP (wpAny_handled ?_)
 first | rw[show A.in1.handled=none from hh] | rw[hh]
 refine NP (wpAny_pure (wpAny_throw ?_))
 exact hE _ _ (((SE ..).extBut.push _).push _) ⟨_,N9 _ rfl,rfl⟩
end
section
variable {prog:Oc}{w:Oo}{A:ON}{s:NT}{R:Result->NT->Prop}{xs ys:Array NS}{z TI TO i1 i2 l1 l2 S:N2}
end
section
variable {prog:Oc}{w:Oo}{A:ON}{E:NS->NT->Prop}{s:NT}{R:Result->NT->Prop}{xs ys:Array NS}{z TI TO i1 i2 l1 l2 S:N2}
end
section
variable {E:NS->NT->Prop}
end
section
end
inductive ZK where
 | l (a:N2) | t (a:N2) | s (x:Str) (k:Tok)
noncomputable def ZK.ty:ZK->String
 | .l _=>"list_iterator"
 | .t _=>"tuple_iterator"
 | .s x _=>Of x
noncomputable def ZK.val:ZK->NS
 | .l a=>.ref a
 | .t a=>.ref a
 | .s x k=>.str x k
noncomputable def ZK.at (q:ZK) (it:N2) (i:Nat) (h:Heap):Prop:=match q with
 | .l a=>h.IsListIter it a i
 | .t a=>h.IsTupleIter it a i
 | .s x k=>h.IsStrIter it (Of x) x k i
noncomputable def ZK.item (q:ZK) (i:Nat) (h:Heap) (u:NS):Prop:=match q with
 | .l a=>∃ us:List NS,h.IsList a us.toArray/\us[i]?=some u
 | .t a=>∃ us:List NS,h.IsTuple a us.toArray/\us[i]?=some u
 | .s x _=>∃ c t,x.cps[i]?=some c/\u=.str ⟨#[c]⟩ t
noncomputable def ZK.done (q:ZK) (i:Nat) (h:Heap):Prop:=match q with
 | .l a=>∃ us:List NS,h.IsList a us.toArray/\us.length<=i
 | .t a=>∃ us:List NS,h.IsTuple a us.toArray/\us.length<=i
 | .s x _=>x.cps.size<=i
noncomputable def ZK.off (q:ZK) (b:N2):Prop:=match q with
 | .l a=>a≠b
 | .t a=>a≠b
 | .s _ _=>True
theorem ZK.there {q:ZK}{it i:Nat}{h:Heap} (z:q.at it i h):∃ o,h.get? it=some o/\∀ v,o.data≠.cell v:=by
 cases q with
 | l a=>obtain ⟨o,e,c,d⟩:=z;exact ⟨o,e,fun v q=>by rw[d] at q;cases q⟩
 | t a=>obtain ⟨o,e,c,d⟩:=z;exact ⟨o,e,fun v q=>by rw[d] at q;cases q⟩
 | s x k=>obtain ⟨o,e,c,d⟩:=z;exact ⟨o,e,fun v q=>by rw[d] at q;cases q⟩
theorem ZK.stay {q:ZK}{it i:Nat}{h h':Heap} (z:q.at it i h) (k:∀ o,h.get? it=some o->h'.get? it=some o):q.at it i h':=by
 cases q with
 | l a=>obtain ⟨o,e,r⟩:=z;exact ⟨o,k o e,r⟩
 | t a=>obtain ⟨o,e,r⟩:=z;exact ⟨o,k o e,r⟩
 | s x t=>obtain ⟨o,e,r⟩:=z;exact ⟨o,k o e,r⟩
theorem ZK.gJ {q:ZK}{i:Nat}{h h':Heap}{u:NS}{b:N2} (z:q.item i h u) (n:q.off b) (k:∀ c o,c≠b->h.get? c=some o->h'.get? c=some o):q.item i h' u:=by
 cases q with
 | l a=>obtain ⟨us,p,e⟩:=z;exact ⟨us,p.at fun o g=>k a o n g,e⟩
 | t a=>obtain ⟨us,p,e⟩:=z;exact ⟨us,p.at fun o g=>k a o n g,e⟩
 | s x t=>exact z
theorem ZK.jf {q:ZK}{i:Nat}{h h':Heap}{b:N2} (z:q.done i h) (n:q.off b) (k:∀ c o,c≠b->h.get? c=some o->h'.get? c=some o):q.done i h':=by
 cases q with
 | l a=>obtain ⟨us,p,e⟩:=z;exact ⟨us,p.at fun o g=>k a o n g,e⟩
 | t a=>obtain ⟨us,p,e⟩:=z;exact ⟨us,p.at fun o g=>k a o n g,e⟩
 | s x t=>exact z
theorem ZK.jg {q:ZK}{i:Nat}{h h':Heap}{u:NS}{b:N2} (z:q.item i h' u) (n:q.off b) (k:OF b h h'):q.item i h u:=by
 cases q with
 | l a=>obtain ⟨us,⟨o,p,r⟩,e⟩:=z;exact ⟨us,⟨o,(k.2 a n).symm.trans p,r⟩,e⟩
 | t a=>obtain ⟨us,⟨o,p,r⟩,e⟩:=z;exact ⟨us,⟨o,(k.2 a n).symm.trans p,r⟩,e⟩
 | s x t=>exact z
section
variable {prog:Oc}{w:Oo}{A:ON}{E:NS->NT->Prop}{s:NT}
theorem qb {q:ZK}{it:N2}{i:Nat}{Q:NS->NT->Prop} (hit:q.at it i s.heap) (hv:∃ u,q.item i s.heap u) (hQ:∀ u h' tk,q.item i s.heap u->q.at it (i+1) h'->OF it s.heap h'->Q u { s with heap:=h',toks:=tk }) :
 wpAny (Oi prog w) A (Ol (.ref it)) Q E s:=by
 obtain ⟨u,hv⟩:=hv
 cases q with
 | l a =>
  obtain ⟨us,p,e⟩:=hv
  exact wpAny_nextOf_list_item hit p (by simpa using e) fun h' a1 a2=>hQ u h' s.toks ⟨us,p,e⟩ a1 a2
 | t a =>
  obtain ⟨us,p,e⟩:=hv
  exact nN hit p (by simpa using e) fun h' a1 a2=>hQ u h' s.toks ⟨us,p,e⟩ a1 a2
 | s x t =>
  obtain ⟨c,t2,e,_⟩:=hv
  have hit:s.heap.IsStrIter it (Of x) x t i:=hit
  cases ha:x.cps.all (· < 128) with
  | true =>
   have ey:Of x="str_ascii_iterator":=by unfold Of;rw[if_pos ha]
   rw[ey] at hit
   exact wpAny_nextOf_ascii_item hit e fun h' a1 a2=>hQ _ h' _ ⟨c,_,e,rfl⟩ (by show h'.IsStrIter it (Of x) x t (i+1);rw[ey];exact a1) a2
  | false =>
   have ey:Of x="str_iterator":=by unfold Of;rw[if_neg (by rw[ha];decide)]
   rw[ey] at hit
   exact wpAny_nextOf_wide_item hit e fun h' a1 a2=>hQ _ h' _ ⟨c,_,e,rfl⟩ (by show h'.IsStrIter it (Of x) x t (i+1);rw[ey];exact a1) a2
theorem ve {q:ZK}{it:N2}{i:Nat}{Q:NS->NT->Prop} (hh:A.handled=none) (hit:q.at it i s.heap) (hv:q.done i s.heap) (hE:∀ h' e,Heap.ExtBut it s.heap h'->(∃ o,h'.get? e=some o/\o.cls=.type "StopIteration")->E (.ref e) { s with heap:=h' }) :
 wpAny (Oi prog w) A (Ol (.ref it)) Q E s:=by
 cases q with
 | l a =>
  obtain ⟨us,p,e⟩:=hv
  exact wpAny_nextOf_list_end hh hit p (by simp;lia) hE
 | t a =>
  obtain ⟨us,p,e⟩:=hv
  exact qa hh hit p (by simp;lia) hE
 | s x t =>
  have hit:s.heap.IsStrIter it (Of x) x t i:=hit
  have hv:x.cps.size<=i:=hv
  cases ha:x.cps.all (· < 128) with
  | true =>
   have ey:Of x="str_ascii_iterator":=by unfold Of;rw[if_pos ha]
   rw[ey] at hit
   exact wpAny_nextOf_ascii_end hh hit (by simpa using hv) hE
  | false =>
   have ey:Of x="str_iterator":=by unfold Of;rw[if_neg (by rw[ha];decide)]
   rw[ey] at hit
   exact wpAny_nextOf_wide_end hh hit (by simpa using hv) hE
structure ZA (z TI TO i1 i2:N2) (q1 q2:ZK):Prop where
 TIz:TI≠z
 TOz:TO≠z
 i1z:i1≠z
 i2z:i2≠z
 TITO:TI≠TO
 TIi1:TI≠i1
 TIi2:TI≠i2
 TOi1:TO≠i1
 TOi2:TO≠i2
 i12:i1≠i2
 f1:q1.off z/\q1.off TO/\q1.off i1/\q1.off i2
 f2:q2.off z/\q2.off TO/\q2.off i1/\q2.off i2
theorem Cv {z TI TO i1 i2:N2}{q1 q2:ZK}{k:Nat}{a b:NS}{Q:NS->NT->Prop} (D:ZA z TI TO i1 i2 q1 q2)
 (hz:SA s.heap z TI TO .none) (hTI:Qd s.heap TI (.ref i1) (.ref i2)) (hTO:Qd s.heap TO a b) (h1:q1.at i1 k s.heap) (h2:q2.at i2 k s.heap) (e1:∃ u,q1.item k s.heap u) (e2:∃ u,q2.item k s.heap u)
 (hQ:∀ h' tk x y,q1.item k s.heap x->q2.item k s.heap y->SA h' z TI TO (rawInt s.heap.objs.size)->Qd h' TO x y->q1.at i1 (k+1) h'->q2.at i2 (k+1) h'->Qd h' s.heap.objs.size x y →
  (∀ c o,c≠z->c≠TO->c≠i1->c≠i2->s.heap.get? c=some o->h'.get? c=some o)->Q (.ref s.heap.objs.size) { s with heap:=h',toks:=tk }) :
 wpAny (Oi prog w) A (Builtin.«zip.__next__» ⟨[.ref z],[]⟩) (fun fin s'=>∃ v,fin=.done (.ret v)/\Q v s') E s:=by
 show wpAny _ _ (field (.ref z) 2 >>= _) _ _ _
 refine NP (OQ hz rfl (x:=.bool false) rfl ?_)
 show wpAny _ _ (field (.ref z) 3 >>= _) _ _ _
 refine NP (OQ hz rfl (x:=.ref TI) rfl ?_)
 refine NP (PN hTI rfl ?_)
 show wpAny _ _ (O2 (.ref z) >>= _) _ _ _
 refine NP ?_
 unfold O2
 refine NP (OQ hz rfl (x:=.none) rfl (wpAny_pure ?_))
 simp only[if_true]
 refine NP (Up ?_)
 refine NP (OQ hz rfl (x:=.ref TO) rfl ?_)
 refine NP (PR hz (by simp) fun g1 z1 s1=>?_)
 replace z1:SA g1 z TI TO .ellipsis:=z1
 replace s1:OF z s.heap g1:=s1
 refine NP ?_
 simp only[List.zipIdx_cons,List.zipIdx_nil,SD,List.forIn_nil]
 refine NP (NP (Sn ?_))
 show wpAny _ _ (Ol (.ref i1) >>= _) _ _ _
 refine NP (qb (q:=q1) (i:=k) (ZK.stay h1 fun o e=>s1.extBut _ o D.i1z e) (e1.imp fun u hu=>ZK.gJ hu D.f1.1 s1.extBut) fun x g2 t2 ex a2 s2=>wpAny_pure ?_)
 replace s2:OF i1 g1 g2:=s2
 replace ex:q1.item k s.heap x:=ZK.jg ex D.f1.1 s1
 have TO2:Qd g2 TO a b:=s2.extBut _ _ D.TOi1 (s1.extBut _ _ D.TOz hTO)
 refine NP (PN TO2 rfl ?_)
 refine NP (RQ TO2 fun g3 TO3 s3=>?_)
 replace TO3:Qd g3 TO x b:=TO3
 replace s3:OF TO g2 g3:=s3
 refine NP (wpAny_letGo (wpAny_pure ?_))
 refine NP (NP (Sn ?_))
 show wpAny _ _ (Ol (.ref i2) >>= _) _ _ _
 refine NP (qb (q:=q2) (i:=k) (ZK.stay h2 fun o e=>s3.extBut _ o D.TOi2.symm (s2.extBut _ o D.i12.symm (s1.extBut _ o D.i2z e))) (e2.imp fun u hu=>ZK.gJ (ZK.gJ (ZK.gJ hu D.f2.1 s1.extBut) D.f2.2.2.1 s2.extBut) D.f2.2.1 s3.extBut) fun y g4 t4 ey a4 s4=>wpAny_pure ?_)
 replace s4:OF i2 g3 g4:=s4
 replace ey:q2.item k s.heap y:=ZK.jg (ZK.jg (ZK.jg ey D.f2.2.1 s3) D.f2.2.2.1 s2) D.f2.1 s1
 have TO4:Qd g4 TO x b:=s4.extBut _ _ D.TOi2 TO3
 refine NP (PN TO4 rfl ?_)
 refine NP (RQ TO4 fun g5 TO5 s5=>?_)
 replace TO5:Qd g5 TO x y:=TO5
 replace s5:OF TO g4 g5:=s5
 refine NP (wpAny_letGo (wpAny_pure (wpAny_pure ?_)))
 refine NP (PN TO5 rfl ?_)
 refine NP (wpAny_newTuple ?_)
 have sz:g5.objs.size=s.heap.objs.size:=by rw[s5.1,s4.1,s3.1,s2.1,s1.1]
 have z5:SA g5 z TI TO .ellipsis:=s5.extBut _ _ D.TOz.symm (s4.extBut _ _ D.i2z.symm (s3.extBut _ _ D.TOz.symm (s2.extBut _ _ D.i1z.symm z1)))
 have k5:∀ c o,c≠z->c≠TO->c≠i1->c≠i2->s.heap.get? c=some o->g5.get? c=some o:=fun c o c1 c2 c3 c4 e =>
  s5.extBut _ _ c2 (s4.extBut _ _ c4 (s3.extBut _ _ c2 (s2.extBut _ _ c3 (s1.extBut _ _ c1 e))))
 have b1:q1.at i1 (k+1) g5:=ZK.stay a2 fun o e=>s5.extBut _ o D.TOi1.symm (s4.extBut _ o D.i12 (s3.extBut _ o D.TOi1.symm e))
 have b2:q2.at i2 (k+1) g5:=ZK.stay a4 fun o e=>s5.extBut _ o D.TOi2.symm e
 have lz:z < g5.objs.size:=N3 z5
 show wpAny _ _ (QK (.ref z) (.ref g5.objs.size) >>= _) _ _ _
 refine NP ?_
 unfold QK
 have z6:SA (g5.push { cls:=.type "tuple",data:=.seq #[x,y] }) z TI TO .ellipsis:=NQ _ z5
 refine NP (PR z6 (by simp) fun g7 z7 s7=>?_)
 replace z7:SA g7 z TI TO (rawInt g5.objs.size):=z7
 refine PR z7 (by simp) fun g8 z8 s8=>?_
 replace z8:SA g8 z TI TO (rawInt g5.objs.size):=z8
 have up:∀ c o,c≠z->g5.get? c=some o->g8.get? c=some o:=fun c o c1 e=>s8.extBut _ _ c1 (s7.extBut _ _ c1 (NQ _ e))
 have T8:Qd g8 g5.objs.size x y:=s8.extBut _ _ (QM lz) (s7.extBut _ _ (QM lz) (N9 _ rfl))
 rw[sz] at z8 T8
 refine wpAny_pure ⟨_,rfl,?_⟩
 show Q (.ref g5.objs.size) _
 rw[sz]
 exact hQ g8 _ x y ex ey z8 (up _ _ D.TOz TO5) (ZK.stay b1 fun o e=>up _ o D.i1z e) (ZK.stay b2 fun o e=>up _ o D.i2z e) T8 fun c o c1 c2 c3 c4 e=>up c o c1 (k5 c o c1 c2 c3 c4 e)
theorem Gi {z TI TO i1 i2:N2}{q1 q2:ZK}{k:Nat}{a b:NS}{Q:Fin->NT->Prop} (hh:A.handled=none) (D:ZA z TI TO i1 i2 q1 q2)
 (hz:SA s.heap z TI TO .none) (hTI:Qd s.heap TI (.ref i1) (.ref i2)) (hTO:Qd s.heap TO a b) (h1:q1.at i1 k s.heap) (h2:q2.at i2 k s.heap) (hend:q1.done k s.heap\/((∃ u,q1.item k s.heap u)/\q2.done k s.heap))
 (hE:∀ h' tk e,(∀ c o,c≠z->c≠TO->c≠i1->c≠i2->s.heap.get? c=some o->h'.get? c=some o)->(∃ o,h'.get? e=some o/\o.cls=.type "StopIteration")->E (.ref e) { s with heap:=h',toks:=tk }) :
 wpAny (Oi prog w) A (Builtin.«zip.__next__» ⟨[.ref z],[]⟩) Q E s:=by
 show wpAny _ _ (field (.ref z) 2 >>= _) _ _ _
 refine NP (OQ hz rfl (x:=.bool false) rfl ?_)
 show wpAny _ _ (field (.ref z) 3 >>= _) _ _ _
 refine NP (OQ hz rfl (x:=.ref TI) rfl ?_)
 refine NP (PN hTI rfl ?_)
 show wpAny _ _ (O2 (.ref z) >>= _) _ _ _
 refine NP ?_
 unfold O2
 refine NP (OQ hz rfl (x:=.none) rfl (wpAny_pure ?_))
 simp only[if_true]
 refine NP (Up ?_)
 refine NP (OQ hz rfl (x:=.ref TO) rfl ?_)
 refine NP (PR hz (by simp) fun g1 z1 s1=>?_)
 replace z1:SA g1 z TI TO .ellipsis:=z1
 replace s1:OF z s.heap g1:=s1
 refine NP ?_
 simp only[List.zipIdx_cons,List.zipIdx_nil,SD,List.forIn_nil]
 refine NP (NP (Sn ?_))
 show wpAny _ _ (Ol (.ref i1) >>= _) _ _ _
 rcases hend with d1 | ⟨e1,d2⟩
 ·refine NP (ve (q:=q1) (i:=k) hh (ZK.stay h1 fun o e=>s1.extBut _ o D.i1z e) (ZK.jf d1 D.f1.1 s1.extBut) fun g2 e s2 he=>?_)
  obtain ⟨oe,ho,hc⟩:=he
  have z2:SA g2 z TI TO .ellipsis:=s2 _ _ D.i1z.symm z1
  have ez:e≠z:=fun x=>by subst x;rw[z2] at ho;cases ho;simp at hc
  exact PR z2 (by simp) fun g3 _ s3=>hE g3 s.toks e (fun c o c1 _ c3 _ x=>s3.extBut _ _ c1 (s2 _ _ c3 (s1.extBut _ _ c1 x))) ⟨oe,s3.extBut _ _ ez ho,hc⟩
 ·refine NP (qb (q:=q1) (i:=k) (ZK.stay h1 fun o e=>s1.extBut _ o D.i1z e) (e1.imp fun u hu=>ZK.gJ hu D.f1.1 s1.extBut) fun x g2 t2 ex a2 s2=>wpAny_pure ?_)
  replace s2:OF i1 g1 g2:=s2
  have TO2:Qd g2 TO a b:=s2.extBut _ _ D.TOi1 (s1.extBut _ _ D.TOz hTO)
  refine NP (PN TO2 rfl ?_)
  refine NP (RQ TO2 fun g3 TO3 s3=>?_)
  replace s3:OF TO g2 g3:=s3
  refine NP (wpAny_letGo (wpAny_pure ?_))
  refine NP (NP (Sn ?_))
  show wpAny _ _ (Ol (.ref i2) >>= _) _ _ _
  refine NP (ve (q:=q2) (i:=k) hh (ZK.stay h2 fun o e=>s3.extBut _ o D.TOi2.symm (s2.extBut _ o D.i12.symm (s1.extBut _ o D.i2z e))) (ZK.jf (ZK.jf (ZK.jf d2 D.f2.1 s1.extBut) D.f2.2.2.1 s2.extBut) D.f2.2.1 s3.extBut) fun g4 e s4 he=>?_)
  obtain ⟨oe,ho,hc⟩:=he
  have z4:SA g4 z TI TO .ellipsis:=s4 _ _ D.i2z.symm (s3.extBut _ _ D.TOz.symm (s2.extBut _ _ D.i1z.symm z1))
  have ez:e≠z:=fun x=>by subst x;rw[z4] at ho;cases ho;simp at hc
  exact PR z4 (by simp) fun g5 _ s5=>hE g5 _ e (fun c o c1 c2 c3 c4 x=>s5.extBut _ _ c1 (s4 _ _ c4 (s3.extBut _ _ c2 (s2.extBut _ _ c3 (s1.extBut _ _ c1 x))))) ⟨oe,s5.extBut _ _ ez ho,hc⟩
end
noncomputable def ZK.ob (q:ZK):Obj:={ cls:=.type q.ty,data:=.fields #[q.val,.int 0 0] }
noncomputable def ZK.here (q:ZK) (h:Heap):Prop:=match q with
 | .l a=>∃ us:List NS,h.IsList a us.toArray
 | .t a=>∃ us:List NS,h.IsTuple a us.toArray
 | .s _ _=>True
section
variable {prog:Oc}{w:Oo}{A:ON}{E:NS->NT->Prop}{s:NT}
theorem vf {q:ZK}{Q:NS->NT->Prop} (hq:q.here s.heap) (h:Q (.ref s.heap.objs.size) { s with heap:=s.heap.push q.ob }):wpAny (Oi prog w) A (pyIter q.val) Q E s:=by
 cases q with
 | l a=>obtain ⟨us,p⟩:=hq;exact SI p h
 | t a=>obtain ⟨us,p⟩:=hq;exact wpAny_pyIter_tuple p h
 | s x t=>exact wpAny_pyIter_strU h
end
noncomputable abbrev zO (h:Heap) (q1:ZK):Heap:=h.push q1.ob
noncomputable abbrev Cw (h:Heap) (q1 q2:ZK):Heap:=(zO h q1).push q2.ob
noncomputable abbrev Cy (h:Heap) (q1 q2:ZK):Heap:=(Cw h q1 q2).push { cls:=.type "tuple",data:=.seq #[.ref h.objs.size,.ref (zO h q1).objs.size] }
noncomputable abbrev Cz (h:Heap) (q1 q2:ZK):Heap:=(Cy h q1 q2).push { cls:=.type "tuple",data:=.seq #[.none,.none] }
noncomputable abbrev wY (h:Heap) (q1 q2:ZK):Heap:=(Cz h q1 q2).push { cls:=.type "zip",data:=.fields #[.none,.bool false,.bool false,.ref (Cw h q1 q2).objs.size,.ref (Cy h q1 q2).objs.size] }
theorem qc (q1 q2:ZK) :
 Meets (Builtin.«zip.__new__» ⟨[.type "zip",q1.val,q2.val],[]⟩) (fun _ R s=>q1.here s.heap/\q2.here (zO s.heap q1) ∧
  R (.ok (.ret (.ref (Cz s.heap q1 q2).objs.size))) { s with heap:=wY s.heap q1 q2 }) :=
 .of_wp fun prog w A R s h=>by
  obtain ⟨hp,g,d,tk,os⟩:=s;obtain ⟨hl1,hl2,h⟩:=h
  have hsub:=sub_zip
  have J1:∀ {A:ON}{E:NS->NT->Prop}{Q:NS->NT->Prop},Q (.ref hp.objs.size) ⟨hp.push q1.ob,g,d,tk,os⟩->wpAny (Oi prog w) A (pyIter q1.val) Q E ⟨hp,g,d,tk,os⟩:=fun hQ=>vf (s:=⟨hp,g,d,tk,os⟩) hl1 hQ
  have J2:∀ {A:ON}{E:NS->NT->Prop}{Q:NS->NT->Prop},Q (.ref (hp.push q1.ob).objs.size) ⟨(hp.push q1.ob).push q2.ob,g,d,tk,os⟩->wpAny (Oi prog w) A (pyIter q2.val) Q E ⟨hp.push q1.ob,g,d,tk,os⟩:=fun hQ=>vf (s:=⟨hp.push q1.ob,g,d,tk,os⟩) hl2 hQ
  wp_walk using J1,J2
  exact ⟨_,rfl,h⟩
theorem ZK.wZ {q:ZK}{h:Heap}{o:Obj} (z:q.here h):q.here (h.push o):=by
 cases q with
 | l a=>obtain ⟨us,p⟩:=z;exact ⟨us,p.at fun o e=>NQ _ e⟩
 | t a=>obtain ⟨us,p⟩:=z;exact ⟨us,p.at fun o e=>NQ _ e⟩
 | s _ _=>trivial
theorem ZK.JK {q:ZK}{h:Heap}{it:N2} (e:h.get? it=some q.ob):q.at it 0 h:=by
 cases q with
 | l a=>exact ⟨_,e,rfl,rfl⟩
 | t a=>exact ⟨_,e,rfl,rfl⟩
 | s x t=>exact ⟨_,e,rfl,rfl⟩
section
variable {prog:Oc}{w:Oo}{A:ON}{E:NS->NT->Prop}{s:NT}
theorem CA {q1 q2:ZK}{Q:NS->NT->Prop} (hl1:q1.here s.heap) (hl2:q2.here s.heap)
 (h:∀ h',SA h' (s.heap.objs.size+4) (s.heap.objs.size+2) (s.heap.objs.size+3) .none->Qd h' (s.heap.objs.size+2) (.ref s.heap.objs.size) (.ref (s.heap.objs.size+1)) →
  Qd h' (s.heap.objs.size+3) .none .none->q1.at s.heap.objs.size 0 h'->q2.at (s.heap.objs.size+1) 0 h' →
  (∀ c o,s.heap.get? c=some o->h'.get? c=some o)->Q (.ref (s.heap.objs.size+4)) { s with heap:=h' }) :
 wpAny (Oi prog w) A (call (.type "zip") [q1.val,q2.val]) Q E s:=by
 refine callType_new F.called_zip (by decide) (F.typeCall_zip_2 _ _) (F.newCall_zip_2 _ _) (fun obj=>F.args_object_init_3 obj _ _) F.entry_zip_new
  (qc q1 q2) ⟨hl1,ZK.wZ hl2,?_⟩
 have z1:(zO s.heap q1).objs.size=s.heap.objs.size+1:=PY ..
 have z2:(Cw s.heap q1 q2).objs.size=s.heap.objs.size+2:=by rw[PY,z1]
 have z3:(Cy s.heap q1 q2).objs.size=s.heap.objs.size+3:=by rw[PY,z2]
 have z4:(Cz s.heap q1 q2).objs.size=s.heap.objs.size+4:=by rw[PY,z3]
 have g5:(wY s.heap q1 q2).get? (Cz s.heap q1 q2).objs.size=some _:=N9 _ rfl
 have g4:(wY s.heap q1 q2).get? (Cy s.heap q1 q2).objs.size=some _:=NQ _ (N9 _ rfl)
 have g3:(wY s.heap q1 q2).get? (Cw s.heap q1 q2).objs.size=some _:=NQ _ (NQ _ (N9 _ rfl))
 have g2:(wY s.heap q1 q2).get? (zO s.heap q1).objs.size=some _:=NQ _ (NQ _ (NQ _ (N9 _ rfl)))
 have g1:(wY s.heap q1 q2).get? s.heap.objs.size=some _:=NQ _ (NQ _ (NQ _ (NQ _ (N9 _ rfl))))
 show _/\_
 rw[z2,z3,z4] at g5
 rw[z1,z2] at g3
 rw[z3] at g4
 rw[z1] at g2
 rw[z4]
 exact ⟨⟨_,g5,rfl⟩,h _ g5 g3 g4 (ZK.JK g1) (ZK.JK g2) fun c o x =>
  NQ _ (NQ _ (NQ _ (NQ _ (NQ _ x))))⟩
theorem CB {z TI TO i1 i2:N2}{q1 q2:ZK}{k:Nat}{a b:NS}{Q:Option NS->NT->Prop} (D:ZA z TI TO i1 i2 q1 q2)
 (hz:SA s.heap z TI TO .none) (hTI:Qd s.heap TI (.ref i1) (.ref i2)) (hTO:Qd s.heap TO a b) (h1:q1.at i1 k s.heap) (h2:q2.at i2 k s.heap) (e1:∃ u,q1.item k s.heap u) (e2:∃ u,q2.item k s.heap u)
 (hQ:∀ h' tk x y,q1.item k s.heap x->q2.item k s.heap y->SA h' z TI TO (rawInt s.heap.objs.size)->Qd h' TO x y->q1.at i1 (k+1) h'->q2.at i2 (k+1) h'->Qd h' s.heap.objs.size x y →
  (∀ c o,c≠z->c≠TO->c≠i1->c≠i2->s.heap.get? c=some o->h'.get? c=some o)->Q (some (.ref s.heap.objs.size)) { s with heap:=h',toks:=tk }) :
 wpAny (Oi prog w) A (pyNext (.ref z)) Q E s:=by
 have hT:s.TypeIs (.ref z) "zip":=⟨_,hz,rfl⟩
 unfold pyNext
 exact NP (wpAny_attempt (OW (name:=NR "__next__") hT F.slot_zip_next
  (PK F.slot_zip_next hT F.entry_zip_next
   (Cv D hz hTI hTO h1 h2 e1 e2 fun h' tk x y a1 a2 a3 a4 a5 a6 a7 a8=>wpAny_pure (hQ h' tk x y a1 a2 a3 a4 a5 a6 a7 a8)) (F.args_zip_next_1 _))))
theorem CD {z TI TO i1 i2:N2}{q1 q2:ZK}{k:Nat}{a b:NS}{Q:Option NS->NT->Prop} (hh:A.handled=none) (D:ZA z TI TO i1 i2 q1 q2)
 (hz:SA s.heap z TI TO .none) (hTI:Qd s.heap TI (.ref i1) (.ref i2)) (hTO:Qd s.heap TO a b) (h1:q1.at i1 k s.heap) (h2:q2.at i2 k s.heap) (hend:q1.done k s.heap\/((∃ u,q1.item k s.heap u)/\q2.done k s.heap))
 (hQ:∀ h' tk,(∀ c o,c≠z->c≠TO->c≠i1->c≠i2->s.heap.get? c=some o->h'.get? c=some o)->Q none { s with heap:=h',toks:=tk }):wpAny (Oi prog w) A (pyNext (.ref z)) Q E s:=by
 have hT:s.TypeIs (.ref z) "zip":=⟨_,hz,rfl⟩
 unfold pyNext
 refine NP (wpAny_attempt (OW (name:=NR "__next__") hT F.slot_zip_next
  (PK F.slot_zip_next hT F.entry_zip_next (Gi hh D hz hTI hTO h1 h2 hend fun h' tk e hk he=>?_) (F.args_zip_next_1 _))))
 obtain ⟨o,ho,hc⟩:=he
 refine NP (wpAny_isInstance (T:="StopIteration") (b:=true) ⟨o,ho,hc⟩ isSubtype_stop ?_)
 exact wpAny_pure (hQ _ _ hk)
end
noncomputable def ZK.has (q:ZK) (K:NO) (H:Hp) (i:Nat):Prop:=match q with
 | .l a=>∃ xs x,SqL K H a xs/\xs[i]?=some x
 | .t a=>∃ xs x,SqT K H a xs/\xs[i]?=some x
 | .s x _=>∃ c,x.cps[i]?=some c
noncomputable def ZK.is (q:ZK) (K:NO) (H:Hp) (i:Nat) (v:V):Prop:=match q with
 | .l a=>∀ xs,SqL K H a xs->xs[i]?=some v
 | .t a=>∀ xs,SqT K H a xs->xs[i]?=some v
 | .s x _=>∃ c,x.cps[i]?=some c/\v=.str ⟨#[c]⟩
noncomputable def ZK.over (q:ZK) (K:NO) (H:Hp) (i:Nat):Prop:=match q with
 | .l a=>∃ xs,SqL K H a xs/\xs.length<=i
 | .t a=>∃ xs,SqT K H a xs/\xs.length<=i
 | .s x _=>x.cps.size<=i
noncomputable def ItG (K:NO) (q1 q2:ZK):It :=
 ⟨fun i H=>q1.has K H i/\q2.has K H i,
  fun i H v H'=>∃ t x y,v=.ref t/\H t=none/\H'=upd H t (.tup [x,y])/\q1.is K H i x/\q2.is K H i y,
  fun i H=>q1.over K H i\/(q1.has K H i/\q2.over K H i)⟩
theorem CF {h:Heap}{a:N2}{us vs:Array NS} (x:h.IsList a us) (y:h.IsList a vs):us=vs:=by
 obtain ⟨o,e,c,n,d⟩:=x
 obtain ⟨o',e',c',n',d'⟩:=y
 rw[e] at e';cases e'
 rw[d] at d';cases d';rfl
theorem CG {h:Heap}{a:N2}{us vs:Array NS} (x:h.IsTuple a us) (y:h.IsTuple a vs):us=vs:=by
 obtain ⟨o,e,c,n,d⟩:=x
 obtain ⟨o',e',c',n',d'⟩:=y
 rw[e] at e';cases e'
 rw[d] at d';cases d';rfl
section
variable {X:Cx}{pins:List (N2×Obj)}{σ:L2.St}{H:Hp}{s:NT}
theorem tQ {q:ZK}{i:Nat} (I:Inv X pins σ H s) (h:q.has X.K H i):∃ u,q.item i s.heap u:=by
 cases q with
 | l a =>
  obtain ⟨xs,x,hq,hx⟩:=h
  obtain ⟨its,rv,p,hz⟩:=I.list hq
  obtain ⟨u,hu,_⟩:=rv.get hx
  exact ⟨u,its,p.isList,hu⟩
 | t a =>
  obtain ⟨xs,x,hq,hx⟩:=h
  obtain ⟨its,rv,p,hz⟩:=I.tuple hq
  obtain ⟨u,hu,_⟩:=rv.get hx
  exact ⟨u,its,p,hu⟩
 | s x t =>
  obtain ⟨c,hc⟩:=h
  exact ⟨_,c,0,hc,rfl⟩
theorem DZ {q:ZK}{i:Nat}{u:NS} (I:Inv X pins σ H s) (h:q.has X.K H i) (hu:q.item i s.heap u):∃ v,q.is X.K H i v/\RelV v u:=by
 cases q with
 | l a =>
  obtain ⟨xs,x,hq,hx⟩:=h
  obtain ⟨its,rv,p,hz⟩:=I.list hq
  obtain ⟨us,p2,e⟩:=hu
  have:=CF p.isList p2
  have:its=us:=by simpa using this
  subst this
  obtain ⟨u',hu',r⟩:=rv.get hx
  rw[e] at hu';cases hu'
  exact ⟨x,fun xs' h'=>by rw[I.lV h' hq];exact hx,r⟩
 | t a =>
  obtain ⟨xs,x,hq,hx⟩:=h
  obtain ⟨its,rv,p,hz⟩:=I.tuple hq
  obtain ⟨us,p2,e⟩:=hu
  have:=CG p p2
  have:its=us:=by simpa using this
  subst this
  obtain ⟨u',hu',r⟩:=rv.get hx
  rw[e] at hu';cases hu'
  exact ⟨x,fun xs' h'=>by rw[I.nV h' hq];exact hx,r⟩
 | s x t =>
  obtain ⟨c,t2,hc,rfl⟩:=hu
  exact ⟨_,⟨c,hc,rfl⟩,t2,rfl⟩
theorem vg {q:ZK}{i:Nat} (I:Inv X pins σ H s) (h:q.over X.K H i):q.done i s.heap:=by
 cases q with
 | l a =>
  obtain ⟨xs,hq,hx⟩:=h
  obtain ⟨its,rv,p,hz⟩:=I.list hq
  have:=rv.length
  exact ⟨its,p.isList,by lia⟩
 | t a =>
  obtain ⟨xs,hq,hx⟩:=h
  obtain ⟨its,rv,p,hz⟩:=I.tuple hq
  have:=rv.length
  exact ⟨its,p,by lia⟩
 | s x t=>exact h
end
noncomputable def ZGS (z TI TO i1 i2:N2) (q1 q2:ZK) (i:Nat) (h:Heap):Prop:=SA h z TI TO .none/\Qd h TI (.ref i1) (.ref i2)/\(∃ a b,Qd h TO a b)/\q1.at i1 i h/\q2.at i2 i h
theorem xg {P:Oc}{w:Oo}{K:NO}{elts:List NY}{kk:Nat}{tp:Pos}{z TI TO i1 i2:N2}{q1 q2:ZK} (D:ZA z TI TO i1 i2 q1 q2) :
 Turn P w K (.Tuple elts kk tp) (ItG K q1 q2) [z,TI,TO,i1,i2] z (ZGS z TI TO i1 i2 q1 q2) where
 mem:=by simp
 obj:=fun i h st b hb=>by
  obtain ⟨a1,a2,⟨xa,xb,a3⟩,a4,a5⟩:=st
  simp only[Qe,Ph,or_false] at hb
  rcases hb with rfl | rfl | rfl | rfl | rfl
  ·exact ⟨_,a1,fun v q=>by cases (show Data.fields _=Data.cell v from q)⟩
  ·exact ⟨_,a2,fun v q=>by cases (show Data.seq _ _=Data.cell v from q)⟩
  ·exact ⟨_,a3,fun v q=>by cases (show Data.seq _ _=Data.cell v from q)⟩
  ·exact ZK.there a4
  ·exact ZK.there a5
 keep:=fun i h h' st k=>by
  obtain ⟨a1,a2,⟨xa,xb,a3⟩,a4,a5⟩:=st
  exact ⟨k _ (by simp) _ a1,k _ (by simp) _ a2,⟨xa,xb,k _ (by simp) _ a3⟩,ZK.stay a4 fun o e=>k _ (by simp) o e,ZK.stay a5 fun o e=>k _ (by simp) o e⟩
 item:=by
  intro X hP hw hK hc i pins s σ H E I hf st hg
  subst hP hw hK
  obtain ⟨g1,g2⟩:=hg
  obtain ⟨a1,a2,⟨xa,xb,a3⟩,a4,a5⟩:=st
  refine CB D a1 a2 a3 a4 a5 (tQ I g1) (tQ I g2) fun h' tk u1 u2 e1 e2 b1 b2 b3 b4 b5 b7=>?_
  obtain ⟨x,x1,x2⟩:=DZ I g1 e1
  obtain ⟨y,y1,y2⟩:=DZ I g2 e2
  refine ⟨_,rfl,wpAny_letOwnedTupleGo_zip b1 fun h2 c1 c2=>?_⟩
  have c2:OF z h' h2:=c2
  have old:∀ b o,b∉[z,TI,TO,i1,i2]->s.heap.get? b=some o->h2.get? b=some o:=fun b o hb e=>by
   simp only[Qe,Ph,or_false,not_or] at hb
   exact c2.extBut b o hb.1 (b7 b o hb.1 hb.2.2.1 hb.2.2.2.1 hb.2.2.2.2 e)
  have hTI:h2.get? TI=some _:=c2.extBut _ _ D.TIz (b7 _ _ D.TIz D.TITO D.TIi1 D.TIi2 a2)
  have neT:s.heap.objs.size≠z:=QM (N3 a1)
  have hpair:Qd h2 s.heap.objs.size u1 u2:=c2.extBut _ _ neT b5
  have hnew:H s.heap.objs.size=none:=I.hok.fresh (N1 _)
  have hok:HOk X.prog X.w (upd H s.heap.objs.size (.tup [x,y])) h2:=fun b u e=>by
   by_cases eb:b=s.heap.objs.size
   ·subst eb
    rw[dS] at e
    cases e
    exact ⟨by show 2<=sizeLine;decide,[u1,u2],.cons x2 (.cons y2 .nil),_,hpair,rfl,_,rfl⟩
   ·rw[c5 eb] at e
    refine (I.hok b u e).stay (fun c v hc q=>old c v (fun hb=>?_) q) (fun c q=>?_) fun c l q=>?_
    ·have:=(hf c hb).1
     rcases hc with rfl | hc
     ·rw[this] at e;exact cR e
     ·rw[this] at hc;exact cR hc
    ·rw[c5 (Oh (I.hok.lt q))];exact q
    ·rw[c5 (Oh (I.hok.lt q))];exact q
  refine ⟨.ref s.heap.objs.size,_,Inv.u0 (s:=s) (tk:=tk) I hf old (fun b hb=>c5 (Oh hb)) hok,rfl,⟨_,x,y,rfl,hnew,rfl,x1,y1⟩,⟨c1,hTI,⟨u1,u2,c2.extBut _ _ D.TOz b2⟩,ZK.stay b3 fun o e=>c2.extBut _ o D.i1z e,ZK.stay b4 fun o e=>c2.extBut _ o D.i2z e⟩,fun b hb=>?_⟩
  have hlt:b < s.heap.objs.size:=by
   obtain ⟨o1,e1,_⟩:=ZK.there a4
   obtain ⟨o2,e2,_⟩:=ZK.there a5
   simp only[Qe,Ph,or_false] at hb
   rcases hb with rfl | rfl | rfl | rfl | rfl
   ·exact N3 a1
   ·exact N3 a2
   ·exact N3 a3
   ·exact N3 e1
   ·exact N3 e2
  rw[c5 (Oh hlt)]
  exact (hf b hb).1
 done:=by
  intro X hP hw hK hc i pins s σ H E I hf st hg
  subst hP hw hK
  obtain ⟨a1,a2,⟨xa,xb,a3⟩,a4,a5⟩:=st
  refine CD (I.ok.hd hc) D a1 a2 a3 a4 a5 (hg.elim (fun q=>.inl (vg I q)) fun q=>.inr ⟨tQ I q.1,vg I q.2⟩) fun h' tk b7=>⟨rfl,?_⟩
  refine Inv.u0 (s:=s) (tk:=tk) I hf (fun b o hb e=>?_) (fun _ _=>rfl) fun b u e=>?_
  ·simp only[Qe,Ph,or_false,not_or] at hb
   exact b7 b o hb.1 hb.2.2.1 hb.2.2.2.1 hb.2.2.2.2 e
  ·refine (I.hok b u e).stay (fun c v hc q=>b7 c v ?_ ?_ ?_ ?_ q) (fun _ q=>q) fun _ _ q=>q
   all_goals
    intro ec
    have hcn:H c=none:=(hf c (by simp[ec])).1
    rcases hc with rfl | hc
    ·rw[hcn] at e;exact cR e
    ·rw[hcn] at hc;exact cR hc
 self:=fun _ _ _ _ _ st h=>wpAny_pyIter_zip st.1 h
structure ZOk (K:NO) (m0:List N2) (H0:Hp) (q:ZK) (xs:List BT.D):Prop where
 has:∀ m H i,Ext m0 H0 m H->i < xs.length->q.has K H i
 is:∀ m H i v d,Ext m0 H0 m H->q.is K H i v->xs[i]?=some d->RD K m H v d
 over:∀ m H i,Ext m0 H0 m H->xs.length<=i->q.over K H i
theorem JL {K:NO}{m0:List N2}{H0:Hp}{a:N2}{vs:List V}{ds:List BT.D} (h:(Rd H0 a (.lst vs)/\a∉m0)\/KL K a vs) (r:RDs K m0 H0 vs ds):ZOk K m0 H0 (.l a) ds:=by
 have k:∀ {m H},Ext m0 H0 m H->SqL K H a vs:=fun x=>LL.sq (h.elim (fun q=>.inl (Rd.ext x q.1 q.2).1) .inr)
 refine ⟨fun m H i x hi=>⟨vs,_,k x,N8 (by rw[r.length];exact hi)⟩,fun m H i v d x y hd=>?_,fun m H i x hi=>⟨vs,k x,by rw[r.length];exact hi⟩⟩
 obtain ⟨u,h1,h2⟩:=(r.ext x).get hd
 have:=y vs (k x)
 rw[h1] at this
 cases this
 exact h2
theorem JM {K:NO}{m0:List N2}{H0:Hp}{a:N2}{vs:List V}{ds:List BT.D} (h:(Rd H0 a (.tup vs)/\a∉m0)\/KT K a vs) (r:RDs K m0 H0 vs ds):ZOk K m0 H0 (.t a) ds:=by
 have k:∀ {m H},Ext m0 H0 m H->SqT K H a vs:=fun x=>h.elim (fun q=>.inl (Rd.ext x q.1 q.2).1) fun ⟨o,its,n,q,_⟩=>.inr ⟨o,its,n,q⟩
 refine ⟨fun m H i x hi=>⟨vs,_,k x,N8 (by rw[r.length];exact hi)⟩,fun m H i v d x y hd=>?_,fun m H i x hi=>⟨vs,k x,by rw[r.length];exact hi⟩⟩
 obtain ⟨u,h1,h2⟩:=(r.ext x).get hd
 have:=y vs (k x)
 rw[h1] at this
 cases this
 exact h2
theorem lM (x:Str):(BT.nG x).length=x.cps.size:=by simp[BT.nG]
theorem zP {x:Str}{i:Nat}{d:BT.D} (h:(BT.nG x)[i]?=some d):∃ c,x.cps[i]?=some c/\d=.str ⟨#[c]⟩:=by
 unfold BT.nG at h
 rw[OE] at h
 obtain ⟨c,h1,h2⟩:=cY h
 exact ⟨c,by simpa using h1,h2.symm⟩
theorem JN {K:NO}{m0:List N2}{H0:Hp}{x:Str}{t:Tok} (ok:PyData.strOk x=true):ZOk K m0 H0 (.s x t) (BT.nG x):=by
 refine ⟨fun m H i _ hi=>?_,fun m H i v d _ y hd=>?_,fun m H i _ hi=>by rw[lM] at hi;exact hi⟩
 ·rw[lM] at hi
  exact ⟨_,SV hi⟩
 ·obtain ⟨c,h1,rfl⟩:=zP hd
  obtain ⟨c',h2,rfl⟩:=y
  rw[h1] at h2
  cases h2
  refine .str _ (kD ok ?_)
  exact Array.mem_toList_iff.mpr (TZ h1)
theorem CH:∀ (ds es:List BT.D),(BT.gC ds es).length=min ds.length es.length:=by
 intro ds
 induction ds with
 | nil=>intro es;cases es<;>simp[BT.gC]
 | cons d ds ih =>
  intro es
  cases es with
  | nil=>simp[BT.gC]
  | cons e es=>simp only[BT.gC,N7,ih];lia
theorem Gj:∀ (ds es:List BT.D) (i:Nat) (d:BT.D),(BT.gC ds es)[i]?=some d->∃ x y,ds[i]?=some x/\es[i]?=some y/\d=.tup [x,y]:=by
 intro ds
 induction ds with
 | nil=>intro es i d e;cases es<;>simp[BT.gC] at e
 | cons d ds ih =>
  intro es i q e
  cases es with
  | nil=>simp[BT.gC] at e
  | cons e0 es =>
   cases i with
   | zero=>simp[BT.gC] at e;exact ⟨d,e0,rfl,rfl,e.symm⟩
   | succ i=>simp[BT.gC] at e;simpa using ih es i q e
theorem CJ {C:BT.HH->Prop}{K:NO}{m0:List N2}{H0:Hp}{q1 q2:ZK}{ds es:List BT.D} (z1:ZOk K m0 H0 q1 ds) (z2:ZOk K m0 H0 q2 es):nM K (ItG K q1 q2) m0 H0 (BT.gC ds es) C:=by
 have ln:=CH ds es
 refine ⟨fun m H hh i x _ _ hi=>⟨z1.has m H i x (by lia),z2.has m H i x (by lia)⟩,fun m H hh i v H' d x RR _ hd y=>?_,fun m H _ x _ _=>?_⟩
 ·obtain ⟨t,v1,v2,rfl,hn,rfl,y1,y2⟩:=y
  obtain ⟨d1,d2,e1,e2,rfl⟩:=Gj ds es i d hd
  have xx:Ext m H m (upd H t (.tup [v1,v2])):=gW hn
  exact ⟨xx,yR hn,.tup (.inl ⟨.inl dS,RR.iP hn⟩) (.cons ((z1.is m H i v1 d1 x y1 e1).ext xx) (.cons ((z2.is m H i v2 d2 x y2 e2).ext xx) .nil))⟩
 ·by_cases c:ds.length<=(BT.gC ds es).length
  ·exact .inl (z1.over m H _ x c)
  ·exact .inr ⟨z1.has m H _ x (by lia),z2.over m H _ x (by lia)⟩
inductive ZV (X:Cx) (m:List N2) (H:Hp) (s:NT) (u:NS) (xs:List BT.D):Prop where
 | mk (q:ZK) (e:u=q.val) (h:q.here s.heap) (f:∀ b,s.heap.objs.size<=b->q.off b) (z:ZOk X.K m H q xs):ZV X m H s u xs
theorem D0 {X:Cx}{pins:List (N2×Obj)}{σ:L2.St}{m:List N2}{H:Hp}{s:NT}{v:V}{u:NS}{d:BT.D}{xs:List BT.D} (I:Inv X pins σ H s) (r:RD X.K m H v d) (rv:RelV v u) (e:BT.yr d=some xs):ZV X m H s u xs:=by
 cases r with
 | @tup a vs _ h r =>
  cases e
  cases rv
  obtain ⟨its,q1,p,hz⟩:=I.tuple (h.elim (fun q=>.inl q.1) fun ⟨o,its,n,q,_⟩=>.inr ⟨o,its,n,q⟩)
  obtain ⟨o,ho,r'⟩:=id p
  have:=N3 ho
  exact ⟨.t a,rfl,⟨its,p⟩,fun b hb=>Oh (Oj this hb),JM h r⟩
 | @lst a vs _ h r =>
  cases e
  cases rv
  obtain ⟨its,q1,p,hz⟩:=I.list (LL.sq (h.elim (fun q=>.inl q.1) .inr))
  obtain ⟨o,ho,r'⟩:=p.isList
  have:=N3 ho
  exact ⟨.l a,rfl,⟨its,p.isList⟩,fun b hb=>Oh (Oj this hb),JL h r⟩
 | str x ok =>
  cases e
  obtain ⟨t,rfl⟩:=rv
  exact ⟨.s x t,rfl,trivial,fun _ _=>trivial,JN ok⟩
 | _=>exact cR e
section
variable {F:FT}{G:Str->Option BT.W}
theorem CK {X:Cx}{sc:OS}{N:List Str} (O:Ok X F G sc N) {tg ex ey:NY}{sa:BT.Es}{p pos:Pos} (hz:oA .zipG tg=true) (hg:dR sc "zip"=true) (hs:noStar ex=true) (hs2:noStar ey=true) (hA:PA X [ex,ey] (tDs X F G sa)) :
 PI X tg (.Call (.Name "zip" p) [ex,ey] [] pos) (iD X F G .zipG sa):=by
 intro pins s σ H R I q
 obtain ⟨m,s',h,ws,h',ds,RR,S,e,e2,ha,post⟩:=q
 obtain ⟨xs,rfl⟩:=pU (ha.p (fun z=>by cases z))
 rw[pV,OI] at e2
 obtain ⟨d1,d2,rfl⟩:∃ d1 d2,xs=[d1,d2]:=by
  match xs,e2 with
  | [d1,d2],_=>exact ⟨d1,d2,rfl⟩
 rw[BT.fW] at e2
 obtain ⟨x1,g1,g2⟩:=Option.bind_eq_some_iff.mp e2
 obtain ⟨x2,g3,g4⟩:=cY g2
 subst g4
 refine Call_ (jq (u:=.type "zip") I (dU O hg) (O.blt _ (by decide)) (by decide +kernel) (O5 (thn (hA pos pins s σ H (fun vs H1=>∃ m1 v1 v2,vs=[v1,v2]/\Ext m H m1 H1/\RH X.K m1 H1 h'/\RD X.K m1 H1 v1 d1/\RD X.K m1 H1 v2 d2) I
  ⟨m,s',h,_,h',RR,S,e,fun vs H1 m1 x1 R1 r1=>?_⟩) fun us s1 ⟨vs,H1,I1,r1,q1⟩=>?_) (cV hs) (dw (by simp[cU,hs2]))))
 ·cases r1 with
  | cons ra t =>
   cases t with
   | cons rb t =>
    cases t
    cases ra with
    | p ra =>
     cases rb with
     | p rb=>exact ⟨m1,_,_,rfl,x1,R1,ra,rb⟩
 ·obtain ⟨m1,v1,v2,rfl,x1,R1,ra,rb⟩:=q1
  obtain ⟨u1,u2,rfl,ru1,ru2⟩:=r1.two
  obtain ⟨q1,rfl,h1,f1,z1⟩:=D0 I1 ra ru1 g1
  obtain ⟨q2,rfl,h2,f2,z2⟩:=D0 I1 rb ru2 g3
  refine CA h1 h2 fun h2' y1 y2 y3 y4 y5 y7=>?_
  refine wpAny_pyIter_zip y1 ?_
  have D:ZA (s1.heap.objs.size+4) (s1.heap.objs.size+2) (s1.heap.objs.size+3) s1.heap.objs.size (s1.heap.objs.size+1) q1 q2:=by
   have ne:∀ (i j:Nat),i≠j->s1.heap.objs.size+i≠s1.heap.objs.size+j:=fun i j hij z=>hij (Nat.add_left_cancel z)
   have n0:∀ (i:Nat),i≠0->s1.heap.objs.size+i≠s1.heap.objs.size:=fun i hi=>ne i 0 hi
   exact ⟨ne 2 4 (by decide),ne 3 4 (by decide),(n0 4 (by decide)).symm,ne 1 4 (by decide),ne 2 3 (by decide),n0 2 (by decide),ne 2 1 (by decide),n0 3 (by decide),ne 3 1 (by decide),(n0 1 (by decide)).symm,
    ⟨f1 _ (OV _ _),f1 _ (OV _ _),f1 _ (N1 _),f1 _ (OV _ _)⟩,⟨f2 _ (OV _ _),f2 _ (OV _ _),f2 _ (N1 _),f2 _ (OV _ _)⟩⟩
  cases tg with
  | Tuple elts kk tp =>
   refine ⟨s1.heap.objs.size+4,_,_,_,H1,rfl,I1.kept (t':=s1.toks) fun b o e=>y7 b o e,xg D,⟨y1,y2,⟨_,_,y3⟩,y4,y5⟩,fun c hc=>?_,post H1 m1 _ x1 R1 (CJ z1 z2)⟩
   have hle:s1.heap.objs.size<=c:=by
    simp only[Qe,Ph,or_false] at hc
    rcases hc with rfl | rfl | rfl | rfl | rfl
    ·exact OV _ _
    ·exact OV _ _
    ·exact OV _ _
    ·exact N1 _
    ·exact OV _ _
   exact I1.sj hle (I1.hok.fresh hle)
  | _=>exact BT.dN hz
noncomputable def Itc (x:Str):It:=⟨fun i _=>i < x.cps.size,fun i H v H'=>H'=H/\∃ c,x.cps[i]?=some c/\v=.str ⟨#[c]⟩,fun i _=>x.cps.size<=i⟩
theorem zQ {P:Oc}{w:Oo}{K:NO}{tg:NY} (it:N2) (x:Str) (t:Tok):Turn P w K tg (Itc x) [it] it (fun i h=>h.IsStrIter it (Of x) x t i) where
 mem:=by simp
 obj:=fun i h st b hb=>by
  have e:b=it:=by simpa using hb
  subst e
  obtain ⟨o,e,c,d⟩:=st
  exact ⟨o,e,fun v z=>by rw[d] at z;cases z⟩
 keep:=fun i h h' st k=>let ⟨q,e,r⟩:=st;⟨q,k it (by simp) q e,r⟩
 item:=by
  intro X hP hw hK hc i pins s σ H E I hf st hg
  subst hP hw hK
  obtain ⟨f0,f1,f2,f3,f4,f5⟩:=hf it (by simp)
  have fin:∀ {ty:String}{v:NS}{h':Heap}{tk:Nat},Of x=ty->(["enumerate","zip","dict_itemiterator","dict_reverseitemiterator","odict_iterator","itertools.zip_longest","itertools.pairwise"].contains ty=false)->(∃ c u,x.cps[i]?=some c/\v=.str ⟨#[c]⟩ u)->h'.IsStrIter it ty x t (i+1)->(∀ b o,b∉[it]->s.heap.get? b=some o->h'.get? b=some o) →
   ∃ u,some v=some u/\wpAny (Oi X.prog X.w) X.A (QU tg (.ref it) u) (fun _ s2=>∃ x' H',Inv X pins σ H' s2/\RelV x' u/\(Itc x).yld i H x' H'/\s2.heap.IsStrIter it (Of x) x t (i+1)/\∀ b∈[it],H' b=none) E { s with heap:=h',toks:=tk }:=by
   intro ty v h' tk ety hn hv st' kk
   obtain ⟨c,u,hc,rfl⟩:=hv
   have I1:Inv X pins σ H { s with heap:=h',toks:=tk }:=I.turned (fun b o hb e=>kk b o (by simpa using hb) e) f0 f1 f3 f4 f5
   obtain ⟨o,e,c',d⟩:=id st'
   refine ⟨_,rfl,nW (s:={ s with heap:=h',toks:=tk }) (n:=ty) e c' d hn ⟨.str ⟨#[c]⟩,H,I1,⟨u,rfl⟩,⟨rfl,c,hc,rfl⟩,by rw[ety];exact st',fun b hb=>(hf b hb).1⟩⟩
  have st:s.heap.IsStrIter it (Of x) x t i:=st
  cases ha:x.cps.all (· < 128) with
  | true =>
   have ey:Of x="str_ascii_iterator":=by unfold Of;rw[if_pos ha]
   rw[ey] at st
   exact (Walks.strAscii (prog:=X.prog) (w:=X.w) (I.ok.hd hc) it x t).item i s _ _ hg st fun v h' tk hv st' kk=>fin ey (by decide) hv st' kk
  | false =>
   have ey:Of x="str_iterator":=by unfold Of;rw[if_neg (by rw[ha];decide)]
   rw[ey] at st
   exact (Walks.strWide (prog:=X.prog) (w:=X.w) (I.ok.hd hc) it x t).item i s _ _ hg st fun v h' tk hv st' kk=>fin ey (by decide) hv st' kk
 done:=by
  intro X hP hw hK hc i pins s σ H E I hf st hg
  subst hP hw hK
  obtain ⟨f0,f1,f2,f3,f4,f5⟩:=hf it (by simp)
  have st:s.heap.IsStrIter it (Of x) x t i:=st
  have hi:x.cps[i]?=none:=Array.getElem?_eq_none hg
  cases ha:x.cps.all (· < 128) with
  | true =>
   have ey:Of x="str_ascii_iterator":=by unfold Of;rw[if_pos ha]
   rw[ey] at st
   exact wpAny_pyNext_ascii_end (I.ok.hd hc) st hi fun h' eb=>⟨rfl,I.turned (t':=s.toks) (fun b o hb e=>eb b o hb e) f0 f1 f3 f4 f5⟩
  | false =>
   have ey:Of x="str_iterator":=by unfold Of;rw[if_neg (by rw[ha];decide)]
   rw[ey] at st
   exact wpAny_pyNext_wide_end (I.ok.hd hc) st hi fun h' eb=>⟨rfl,I.turned (t':=s.toks) (fun b o hb e=>eb b o hb e) f0 f1 f3 f4 f5⟩
 self:=fun _ _ s _ _ st h=>by
  have st:s.heap.IsStrIter it (Of x) x t _:=st
  cases ha:x.cps.all (· < 128) with
  | true =>
   have ey:Of x="str_ascii_iterator":=by unfold Of;rw[if_pos ha]
   rw[ey] at st
   exact wpAny_pyIter_striter_ascii st h
  | false =>
   have ey:Of x="str_iterator":=by unfold Of;rw[if_neg (by rw[ha];decide)]
   rw[ey] at st
   exact wpAny_pyIter_striter_wide st h
theorem Gk {C:BT.HH->Prop}{K:NO}{m0:List N2}{H0:Hp}{x:Str} (ok:PyData.strOk x=true):nM K (Itc x) m0 H0 (BT.nG x) C:=by
 refine ⟨fun m H hh i _ _ _ hi=>by rw[lM] at hi;exact hi,fun m H hh i v H' d _ RR _ hd y=>?_,fun m H _ _ _ _=>by rw[lM];exact N1 _⟩
 obtain ⟨rfl,c,h1,rfl⟩:=y
 obtain ⟨c',h2,rfl⟩:=zP hd
 rw[h1] at h2
 cases h2
 exact ⟨.refl _ _,fun _ _ e=>e,.str _ (kD ok (Array.mem_toList_iff.mpr (TZ h1)))⟩
theorem Gm {X:Cx}{tg x:NY}{a:BT.E} (he:PE X x (tD X F G a)):PI X tg x (iD X F G .chs (.cons a .nil)):=by
 intro pins s σ H R I q
 obtain ⟨m,s',h,ws,h',ds,RR,S,e,e2,ha,post⟩:=q
 obtain ⟨w,rfl,e4⟩:=lJ e
 obtain ⟨y,rfl,rfl⟩:∃ y,w=.p (.str y)/\ds=BT.nG y:=by
  have hp:=ha.p (fun z=>by cases z)
  cases w with
  | p d =>
   rw[show ([BT.W.p d]:List BT.W)=[d].map BT.W.p from rfl,pV,OI] at e2
   cases d with
   | str y=>cases e2;exact ⟨y,rfl,rfl⟩
   | _=>exact cR e2
  | _=>exact BT.dN hp
 refine thn (he pins s σ H (fun v H1=>∃ m1,v=.str y/\PyData.strOk y=true/\Ext m H m1 H1/\RH X.K m1 H1 h') I ⟨m,s',h,_,h',RR,S,e4,fun v H1 m1 x1 R1 r1=>?_⟩) fun v s1 ⟨x,H1,I1,r1,q1⟩=>?_
 ·cases r1 with
  | p r1 =>
   cases r1 with
   | str _ ok=>exact ⟨m1,rfl,ok,x1,R1⟩
 ·obtain ⟨m1,rfl,ok,x1,R1⟩:=q1
  obtain ⟨t,rfl⟩:=r1
  refine wpAny_pyIter_strU ?_
  refine ⟨s1.heap.objs.size,[s1.heap.objs.size],_,_,H1,rfl,I1.kept (t':=s1.toks) fun b o e=>NQ _ e,zQ _ y t,⟨_,N9 _ rfl,rfl,rfl⟩,fun b hb=>?_,post H1 m1 _ x1 R1 (Gk ok)⟩
  have e:b=s1.heap.objs.size:=by simpa using hb
  subst e
  exact I1.sj (N1 _) (I1.hok.fresh (N1 _))
end
section
variable {prog:Oc}{w:Oo}{A:ON}{E:NS->NT->Prop}{s:NT}
theorem CM (n:Nat):OT none none (-1) (n:Int)=((n:Int) - 1,-1):=by
 unfold OT
 have h1:((-1:Int) < 0):=by decide
 simp only[h1,if_true]
theorem tR (n:Nat):OB ((n:Int) - 1) (-1) (-1)=n:=by
 unfold OB
 have h1:¬ ((-1:Int) > 0):=by decide
 simp only[h1,if_false]
 have:(-(-1:Int))=1:=by decide
 rw[this,Int.ediv_one]
 split<;>lia
theorem rK {sl:N2}{n:Nat}{u:Tok}{Q:Int×Int×Nat->NT->Prop} (hs:s.heap.IsSliceOf sl .none .none (.int (-1) u)) (h:Q ((n:Int) - 1,-1,n) s) :
 wpAny (Oi prog w) A (Py (.ref sl) (pure (n:Int))) Q E s:=by
 obtain ⟨os,hos,hcs,hds⟩:=id hs
 unfold Py RN
 refine NP (NP (OQ hos hds (x:=.none) rfl (NP (OQ hos hds (x:=.none) rfl (NP (OQ hos hds (x:=.int (-1) u) rfl (wpAny_pure ?_)))))))
 refine NP (slicePart_int ?_)
 show wpAny _ _ (if ((-1:Int)==0)=true then _ else _) _ _ s
 rw[if_neg (by decide)]
 refine NP (RX (NP (RX (NP (wpAny_pure ?_)))))
 show wpAny _ _ (match OT none none (-1) (n:Int) with | (lo,hi)=>pure (lo,(-1:Int),OB lo hi (-1))) _ _ s
 rw[CM n]
 show wpAny _ _ (pure ((n:Int) - 1,(-1:Int),OB ((n:Int) - 1) (-1) (-1))) _ _ s
 rw[tR n]
 exact wpAny_pure h
theorem zR (xs:List NS):((PJ xs.length).filterMap fun (k:Nat)=>xs.toArray[((xs.length:Int) - 1+(k:Int)*(-1)).toNat]?).toArray=xs.reverse.toArray:=by
 congr 1
 have gen:∀ l:List Nat,(∀ k∈l,k < xs.length)->l.filterMap (fun (k:Nat)=>xs.toArray[((xs.length:Int) - 1+(k:Int)*(-1)).toNat]?)=l.map fun k=>xs.getD (xs.length - 1 - k) .none:=by
  intro l
  induction l with
  | nil=>intro _;rfl
  | cons k l ih =>
   intro h
   have hk:=h k NW
   rw[O1,OA,ih fun y hy=>h y (NU _ hy),show ((xs.length:Int) - 1+(k:Int)*(-1)).toNat=xs.length - 1 - k by lia,Ua,SQ,N8 (by lia)]
   rfl
 rw[gen _ fun k hk=>List.mem_range.mp hk]
 refine List.ext_getElem? fun i=>?_
 rw[OE]
 by_cases c:i < xs.length
 ·rw[RC c,Ub c,Qc,SQ,N8 (by lia)];rfl
 ·rw[Og (by simpa using c),Og (by simpa using c)];rfl
theorem CO {t sl:N2}{items:List NS}{u:Tok}{Q:NS->NT->Prop} (ht:IsTup s.heap t items.toArray) (hs:s.heap.IsSliceOf sl .none .none (.int (-1) u))
 (h:Q (.ref s.heap.objs.size) { s with heap:=s.heap.push { cls:=.type "tuple",data:=.seq items.reverse.toArray } })
 (hsz:items.length<=sizeLine):wpAny (Oi prog w) A (Q7 (.ref t) (.ref sl)) Q E s:=by
 have hdrop:sizeOk (.seq items.reverse.toArray):=by
  show items.reverse.toArray.size<=sizeLine
  rw[NV,Ux]
  exact hsz
 obtain ⟨os,hos,hcs,hds⟩:=id hs
 have hTs:s.TypeIs (.ref sl) "slice":=⟨os,hos,hcs⟩
 unfold Q7
 try with_reducible refine Qp ?_
 first | refine NP (wpAny_pure ?_) | skip
 refine NP (SH ht.typeIs (by decide) ?_)
 refine NP (OW (name:=NR "__getitem__") ht.typeIs OH
  (PK OH ht.typeIs Sa ?_ (Sv _ _)))
 show wpAny _ _ (Qw (.ref t) >>= _) _ _ s
 refine NP (UA ht ?_)
 refine NP (SW hTs ?_)
 rw[if_pos (by decide)]
 refine NP (rK hs ?_)
 rw[NV]
 show wpAny _ _ (if (((items.length:Int) - 1)==0&&(-1:Int)==1&&items.length==items.toArray.size)=true then _ else _) _ _ s
 rw[if_neg (by simp),zR items]
 first
  | exact NP (m:=OD _) (OO (wpAny_pure ⟨_,rfl,wpAny_pure h⟩) hdrop)
  | exact NP (m:=OD _) (OO (NP (wpAny_pure (wpAny_pure ⟨_,rfl,wpAny_pure h⟩))) hdrop)
  | exact NP (NP (m:=OD _) (OO (wpAny_pure (wpAny_pure ⟨_,rfl,wpAny_pure h⟩)) hdrop))
  | exact NP (NP (m:=OD _) (OO (wpAny_pure ⟨_,rfl,wpAny_pure h⟩) hdrop))
end
section
variable {F:FT}{G:Str->Option BT.W}
theorem zS {vs:List V}{us:List NS} (r:cX vs us):cX vs.reverse us.reverse:=by
 induction r with
 | nil=>exact .nil
 | cons q _ ih=>rw[QZ,QZ];exact ih.append (.cons q .nil)
theorem CP {K:NO}{m:List N2}{H:Hp}{vs:List V}{ds:List BT.D} (r:RDs K m H vs ds):RDs K m H vs.reverse ds.reverse:=by
 induction vs generalizing ds with
 | nil=>cases r;exact .nil
 | cons v vs ih =>
  cases r with
  | cons a t=>rw[QZ,QZ];exact (ih t).append (.cons a .nil)
theorem Gn {X:Cx}{a:BT.E}{x:NY}{c:Nat}{p1 p2 p3 p:Pos} (ha:PE X x (tD X F G a)) (hs:PE X (.UnaryOp .USub (.Constant (.int 1) c p1) p3) (tC (.int (-1)))):PE X (.Subscript x (.Slice none none (some (.UnaryOp .USub (.Constant (.int 1) c p1) p3)) p2) p) (tD X F G (.rvs a)):=by
 intro pins s σ H Q I q
 obtain ⟨m,sl,h,z,h',R,S,ee,post⟩:=q
 simp only[BT.ev] at ee
 obtain ⟨w,h1,e1,e2⟩:=cT ee
 obtain ⟨xs,rfl,rfl,rfl⟩:∃ xs,w=.p (.tup xs)/\z=.p (.tup xs.reverse)/\h'=h1:=by
  cases w with
  | p d =>
   cases d with
   | tup xs=>cases e2;exact ⟨xs,rfl,rfl,rfl⟩
   | _=>exact cR e2
  | _=>exact cR e2
 refine SK (thn (ha pins s σ H (fun v H1=>∃ m1 b vs,v=.ref b/\Ext m H m1 H1/\RH X.K m1 H1 h'/\SqT X.K H1 b vs/\RDs X.K m1 H1 vs xs) I ⟨m,sl,h,_,h',R,S,e1,fun v H1 m1 x1 R1 r1=>?_⟩) fun v s1 ⟨y,H1,I1,r1,m1,b,vs,ey,x1,R1,hq,rr⟩=>?_)
 ·cases r1 with
  | p r1 =>
   cases r1 with
   | @tup b vs _ hb r=>exact ⟨m1,b,vs,rfl,x1,R1,hb.elim (fun q=>.inl q.1) fun ⟨o,its,n,q,_⟩=>.inr ⟨o,its,n,q⟩,r⟩
 ·subst ey
  cases r1
  refine Tz ?_
  rw[Rp]
  refine wpAny_pure (wpAny_pure ?_)
  rw[Sq]
  refine thn (hs pins s1 σ H1 (fun v H'=>v=.int (-1)/\H'=H1) I1 ⟨rfl,rfl⟩) fun u3 s3 zq=>?_
  obtain ⟨y,H3,I3,r3,hy,hh⟩:=zq
  subst hy hh
  obtain ⟨t,rfl⟩:=r3
  have I4:Inv X pins σ H3 { s3 with heap:=s3.heap.push { cls:=.type "slice",data:=.fields #[.none,.none,.int (-1) t] } }:=I3.kept (t':=s3.toks) fun b ob q=>NQ _ q
  obtain ⟨its,rv,pt,hz⟩:=I4.tuple hq
  have hlen:=rv.length
  have hg:wpAny (Oi X.prog X.w) X.A (Q7 (.ref b) (.ref s3.heap.objs.size)) (EP X pins σ Q) X.xe { s3 with heap:=s3.heap.push { cls:=.type "slice",data:=.fields #[.none,.none,.int (-1) t] } }:=by
   refine CO pt (Qu ..) ?_ (by lia)
   refine ⟨.ref _,_,I4.laid (t':=s3.toks) (o:=.tup vs.reverse) (fun b ob q=>NQ _ q) (N1 _) ⟨by rw[Ux];lia,its.reverse,zS rv,IsTup.new _ _⟩,rfl,i8 R1 (I4.hok.fresh (N1 _)) (CP rr) fun v5 H5 m5 x5 R5 r5=>post v5 H5 m5 (x1.trans x5) R5 r5⟩
  show wpAny (Oi X.prog X.w) X.A (Rn x _ (.ref b) (.ref s3.heap.objs.size)) (EP X pins σ Q) X.xe _
  exact So (ops:=[.ref b,.ref s3.heap.objs.size]) pt.typeIs PyProof.Rows.slot_tuple_getitem.lookup hg (by with_unfolding_all rfl)
end
theorem CU (x:Str) (u:Option Int):Ox none u 1 x.length=Ox (some ((0:Nat):Int)) u 1 x.length:=by
 unfold Ox
 have e:max 0 (min (if ((0:Nat):Int) < 0 then ((0:Nat):Int)+(x.length:Int) else ((0:Nat):Int)) (x.length:Int))=0:=by
  rw[if_neg (by decide)];lia
 simp only[gt_iff_lt,Int.zero_lt_one,if_true,e]
theorem Gp (x:Str) {i:Int} (h:(x.length:Int) < i):Ox none (some i) 1 x.length=Ox none (some ((x.length:Nat):Int)) 1 x.length:=by
 unfold Ox
 have e1:max 0 (min (if i < 0 then i+(x.length:Int) else i) (x.length:Int))=(x.length:Int):=by
  rw[if_neg (by lia)];lia
 have e2:max 0 (min (if ((x.length:Nat):Int) < 0 then ((x.length:Nat):Int)+(x.length:Int) else ((x.length:Nat):Int)) (x.length:Int))=(x.length:Int):=by
  rw[if_neg (by lia)];lia
 simp only[gt_iff_lt,Int.zero_lt_one,if_true,e1,e2]
theorem qd {x y:Str} (h:x.cps.toList=y.cps.toList):x=y:=by
 obtain ⟨a⟩:=x
 obtain ⟨b⟩:=y
 have:a=b:=Array.toList_inj.mp h
 rw[this]
theorem rL (x:Str) {b:Nat} (h:b<=x.length):Txt.slice x none (some (b:Int))=⟨x.cps.extract 0 b⟩:=by
 have e:=StrLaws.sliceText_nat x (Qs b) h
 unfold StrLaws.sliceText at e
 unfold Txt.slice
 rw[CU x,e]
 apply qd
 simp
theorem Gq (x:Str) {i:Int} (h:0<=i):Txt.slice x none (some i)=⟨x.cps.extract 0 i.toNat⟩:=by
 by_cases c:i<=(x.length:Int)
 ·have:=rL x (b:=i.toNat) (by lia)
  rw[Int.toNat_of_nonneg h] at this
  exact this
 ·have e:=rL x (N1 _)
  unfold Txt.slice at e ⊢
  rw[Gp x (by lia),e]
  apply qd
  have:x.cps.toList.length<=i.toNat:=by
   have:x.cps.toList.length=x.length:=by simp[Str.length]
   lia
  have l2:x.cps.toList.length<=x.length:=by simp[Str.length]
  simp only[Ru,QO,QS,Uk]
  rw[Ql this,Ql l2]
section
variable {X:Cx}{F:FT}{G:Str->Option BT.W}
theorem CV {ds:List BT.D}{d:BT.D} (e:BT.txD .pre ds=some d):∃ x i,ds=[.str x,.int i]/\(0<=i/\x.length<=BT.lim)/\d=.str ⟨x.cps.extract 0 i.toNat⟩:=by
 match ds,e with
 | [.str x,.int i],e =>
  simp only[BT.txD] at e
  split at e
  ·rename_i c
   exact ⟨x,i,rfl,c,(N4 e).symm⟩
  ·exact cR e
theorem Gs {w:BT.W}{h:BT.HH}{i:Int} (e:BT.rd w h=some (.int i)):w=.p (.int i):=by
 cases w with
 | p d=>cases e;rfl
 | r n =>
  simp only[BT.rd] at e
  obtain ⟨b,_,e2⟩:=cY e
  cases e2
 | _=>exact cR e
theorem Gu {a i:BT.E}{x u:NY}{p2 p:Pos} (ha:PE X x (tD X F G a)) (hi:PE X u (tD X F G i)):PE X (.Subscript x (.Slice none (some u) none p2) p) (tD X F G (.tx .pre (.cons a (.cons i .nil)))):=by
 intro pins s σ H Q I q
 have q:=tM σ H Q q
 refine SK (thn (ha pins s σ H _ I q) fun v s1 zq=>?_)
 obtain ⟨y,H1,I1,r1,q1⟩:=zq
 refine Tz ?_
 rw[Rp]
 refine wpAny_pure ?_
 rw[Sq]
 refine thn (hi pins s1 σ H1 _ I1 q1) fun vu s3 zq=>?_
 obtain ⟨y2,H3,I3,r3,q3⟩:=zq
 refine wpAny_pure ?_
 obtain ⟨m,h,w1,w2,z,h',R,rx,ry,e,post⟩:=q3
 obtain ⟨ds,d,e1,e2,rfl,rfl⟩:=gq (k:=.pre) (fun q=>nomatch q) e
 obtain ⟨sx,n,rfl,⟨c1,c2⟩,rfl⟩:=CV e2
 obtain ⟨d0,r0,g1,g2,g3⟩:=fh e1
 cases g1
 obtain ⟨d1,r1',g4,g5,g6⟩:=fh g3
 cases g4
 have ew:=jB g2
 subst ew
 have ew2:=Gs g5
 subst ew2
 cases rx with
 | p rx =>
  cases rx with
  | str _ ok =>
   cases ry with
   | p ry =>
    cases ry
    obtain ⟨t,rfl⟩:=r1
    obtain ⟨tu,rfl⟩:=r3
    have I4:Inv X pins σ H3 { s3 with heap:=s3.heap.push { cls:=.type "slice",data:=.fields #[.none,.int n tu,.none] } }:=I3.kept (t':=s3.toks) fun b ob q=>NQ _ q
    have hsl:({ s3 with heap:=s3.heap.push { cls:=.type "slice",data:=.fields #[.none,.int n tu,.none] } }:NT).heap.IsSlice s3.heap.objs.size none (some (n,tu)) none:=Qu ..
    have lz:sx.length<=sizeLine:=Om c2 (by decide)
    have okp:PyData.strOk (⟨sx.cps.extract 0 n.toNat⟩:Str)=true:=by
     have:sx=(⟨sx.cps.extract 0 n.toNat⟩:Str)++(⟨sx.cps.extract n.toNat sx.cps.size⟩:Str):=by
      apply qd
      show sx.cps.toList=(sx.cps.extract 0 n.toNat++sx.cps.extract n.toNat sx.cps.size).toList
      simp only[P5,Ru,QO,QS,Uk]
      rw[Ql (l:=sx.cps.toList.drop n.toNat) (by rw[Q9,Pr];exact N1 _),Rk]
     rw[this] at ok
     exact (tL ok).1
    have hg:wpAny (Oi X.prog X.w) X.A (Q7 (.str sx t) (.ref s3.heap.objs.size)) (EP X pins σ Q) X.xe { s3 with heap:=s3.heap.push { cls:=.type "slice",data:=.fields #[.none,.int n tu,.none] } }:=by
     refine wpAny_getItem_str_slice hsl rfl ?_
     have e:=Gq sx c1
     unfold Txt.slice at e
     unfold sliceMade
     have e5:slicePicked sx none (some (n,tu)) none=Ox none (some n) 1 sx.length:=rfl
     rw[e5]
     show Made.post (if ((1:Int)==1&&(Ox none (some n) 1 sx.length).length==sx.length)=true then _ else _) _ _
     split
     ·rename_i c
      rw[if_pos c] at e
      rw[e]
      show EP X pins σ Q _ _
      exact ⟨.str _,H3,I4,⟨t,rfl⟩,post.here R (.str _ okp)⟩
     ·rename_i c
      rw[if_neg c] at e
      rw[e]
      unfold Made.post
      refine ⟨?_,.str _,H3,I4.tok _,⟨_,rfl⟩,post.here R (.str _ okp)⟩
      show (sx.cps.extract 0 n.toNat).size<=sizeLine
      rw[Array.size_extract]
      have:sx.cps.size<=sizeLine:=lz
      lia
    show wpAny (Oi X.prog X.w) X.A (Rn x _ (.str sx t) (.ref s3.heap.objs.size)) (EP X pins σ Q) X.xe _
    exact So (ops:=[.ref s3.heap.objs.size,.str sx t]) (typeIs_str _ _ _) PyProof.Rows.slot_str_getitem.lookup hg (by with_unfolding_all rfl)
end
section
theorem xh {X:Cx}{v:V}{ds:List BT.D} (r:∀ m H,RW X.prog X.w X.K m H v (.p (.tup ds))):∃ a vs,v=.ref a/\KT X.K a vs:=by
 have z:=r [] (fun _=>none)
 cases z with
 | p z =>
  cases z with
  | @tup a vs _ h _ =>
   rcases h with ⟨h,_⟩ | h
   ·rcases h with h | ⟨o,h⟩<;>exact cR h
   ·exact ⟨a,vs,rfl,h⟩
theorem xj {X:Cx}{sc:OS}{N:List Str} (O:Ok X F G sc N) {x:Str}{as:BT.Es}{es:List NY}{np apos cpos:Pos} (h2:dR sc x=true) (h3:fu x=true) (hl:(apos.endLine==cpos.line)=true) (hlen:es.length < 20) (hc:CEs sc N as es) (ha:PA X es (tDs X F G as)) :
 PE X (.Call (.Attribute (.Name x np) "index" apos) es [] cpos) (tD X F G (.me .tindex (.glo x) as)):=by
 have hst:=gG hc
 intro pins s σ H Q I q
 obtain ⟨m,s',h,z,h',R,S,ee,post⟩:=q
 simp only[BT.ev] at ee
 obtain ⟨w,g,e1,e2⟩:=cT ee
 obtain ⟨_,e2⟩:=uQ e2
 obtain ⟨ws,g2,e3,e4⟩:=cT e2
 obtain ⟨w',e5,e6⟩:=cY e1
 cases e6
 obtain ⟨u,v0,hm,rv,rw0⟩:=O.glob _ _ e5
 have hT:∃ ds xs,BT.dj ws=some ds/\w=.p (.tup xs)/\ds≠[]:=by
  cases w with
  | r n=>cases ws<;>(first | exact cR e4 | simp[BT.meW] at e4)
  | k q=>cases ws<;>(first | exact cR e4 | simp[BT.meW] at e4)
  | c _ _=>cases ws<;>(first | exact cR e4 | simp[BT.meW] at e4)
  | x _=>cases ws<;>(first | exact cR e4 | simp[BT.meW] at e4)
  | o q=>cases ws<;>(first | exact cR e4 | simp[BT.meW] at e4)
  | p d =>
   rw[BT.mw] at e4
   cases gp:BT.dj ws with
   | none=>rw[gp] at e4;exact cR e4
   | some ds =>
    rw[gp] at e4
    obtain ⟨b,e7,e8⟩:=cY e4
    cases d with
    | tup xs=>refine ⟨ds,xs,rfl,rfl,fun z=>?_⟩;subst z;exact cR e7
    | _=>cases ds<;>exact cR e7
 obtain ⟨ds,xs,gp,rfl,hne⟩:=hT
 obtain ⟨a,vt,rfl,o,its,n,⟨k1,k2,k3,k4,k5⟩,k6⟩:=xh rw0
 cases es with
 | nil =>
  cases as with
  | cons a r=>exact (mR hc).elim
  | nil=>simp only[BT.evs] at e3;cases e3;simp[BT.dj] at gp;exact absurd gp hne
 | cons e es =>
  simp only[cU,NX] at hst
  have h30:decide ((e :: es).length+([]:List QJ).length+(if ([]:List QJ).isEmpty then 0 else 1) < 30)=true:=decide_eq_true (by
   simp only[N7,QH,Sj,if_true] at hlen ⊢;lia)
  refine (DI PySem.F.plainAttrs_tuple PySem.F.slot_tuple_index PySem.F.type_tuple_index (wO O.hu) (uw (dU O h2) hm rv (f7 h3).1) ha rfl (by
   rw[iT (es:=e :: es) (by simp only[cU,NX];exact hst),h30];rfl) hl (cV hst.1) (dw hst.2)) pins s σ H Q I ?_
  refine ⟨.inr (.inl ⟨rfl,o,k1,k2,k6⟩),m,s',h,ws,g2,R,S,e3,fun vs H2 m2 x2 R2 r2=>?_⟩
  exact ⟨m2,g2,.p (.tup xs),ws,z,h',R2,rw0 m2 H2,r2,e4,fun v5 H5 m5 x5 R5 r5=>post v5 H5 m5 (x2.trans x5) R5 r5⟩
theorem Gv {X:Cx}{me:BT.Me} (hm:me=.append\/me=.pop\/me=.extend) {o:BT.E}:∀ (m:List N2) (h h2:BT.HH) (H:Hp) (v:V) (x:BT.W) ws r,RH X.K m H h->RW X.prog X.w X.K m H v x->BT.nI x h=true->BT.meW me x ws h2=some r->(∃ σ s,RS X.prog X.w X.K m H σ s/\∃ h0,BT.ev F G o s h0=some (x,h))->tyV X.K "list" v H:=by
 intro m h h2 H v x ws r R rq ok e _
 obtain ⟨n,rfl⟩:=MF hm e
 exact ty_list R rq ok
theorem MJ {X:Cx}{o:BT.E}:∀ (m:List N2) (h h2:BT.HH) (H:Hp) (v:V) (x:BT.W) ws r,RH X.K m H h->RW X.prog X.w X.K m H v x->BT.nI x h=true->BT.meW .sindex x ws h2=some r->(∃ σ s,RS X.prog X.w X.K m H σ s/\∃ h0,BT.ev F G o s h0=some (x,h))->tyV X.K "str" v H:=by
 intro m h h2 H v x ws r R rq _ e _
 cases x with
 | r n=>cases ws<;>(first | exact cR e | simp[BT.meW] at e)
 | k q=>cases ws<;>(first | exact cR e | simp[BT.meW] at e)
 | c _ _=>cases ws<;>(first | exact cR e | simp[BT.meW] at e)
 | x _=>cases ws<;>(first | exact cR e | simp[BT.meW] at e)
 | o q=>cases ws<;>(first | exact cR e | simp[BT.meW] at e)
 | p d =>
  rw[BT.mz] at e
  cases g:BT.dj ws with
  | none=>rw[g] at e;exact cR e
  | some ds =>
   rw[g] at e
   obtain ⟨b,e7,e8⟩:=cY e
   cases d with
   | str y=>cases rq with | p r=>cases r;exact rfl
   | _=>cases ds<;>exact cR e7
theorem JO {X:Cx}{me:BT.Me} (hm:me=.count\/me=.lindex) {o:BT.E}:∀ (m:List N2) (h h2:BT.HH) (H:Hp) (v:V) (x:BT.W) ws r,RH X.K m H h->RW X.prog X.w X.K m H v x->BT.nI x h=true->BT.meW me x ws h2=some r->(∃ σ s,RS X.prog X.w X.K m H σ s/\∃ h0,BT.ev F G o s h0=some (x,h))->tyV X.K "list" v H:=by
 intro m h h2 H v x ws r R rq _ e _
 have key:∃ xs,x=.p (.lst xs):=by
  cases x with
  | r n=>rcases hm with rfl | rfl<;>cases ws<;>(first | exact cR e | simp[BT.meW] at e)
  | k q=>rcases hm with rfl | rfl<;>cases ws<;>(first | exact cR e | simp[BT.meW] at e)
  | c _ _=>rcases hm with rfl | rfl<;>cases ws<;>(first | exact cR e | simp[BT.meW] at e)
  | x _=>rcases hm with rfl | rfl<;>cases ws<;>(first | exact cR e | simp[BT.meW] at e)
  | o q=>rcases hm with rfl | rfl<;>cases ws<;>(first | exact cR e | simp[BT.meW] at e)
  | p d =>
   rw[rm] at e
   cases g:BT.dj ws with
   | none=>rw[g] at e;exact cR e
   | some ds =>
    rw[g] at e
    obtain ⟨b,e7,e8⟩:=cY e
    cases d with
    | lst y=>exact ⟨y,rfl⟩
    | _=>rcases hm with rfl | rfl<;>cases ds<;>exact cR e7
 obtain ⟨xs,rfl⟩:=key
 cases rq with
 | p r =>
  cases r with
  | @lst a vs _ h _=>exact .inl ⟨rfl,vs,LL.sq (h.elim (fun q=>.inl q.1) .inr)⟩
theorem MK (σ:L2.St) (H:Hp) (Q:Bool->Hp->Prop) (q:tDT X F G e σ H Q):tB (tD X F G e) σ H Q:=by
 obtain ⟨m,s,h0,b,h',R,S,ee,post⟩:=q
 refine ⟨m,s,h0,_,h',R,S,ee,fun v H' m' x R' r=>?_⟩
 exact ⟨b,kE r,post H' m' x R'⟩
noncomputable def XE (F:FT) (G:Str->Option BT.W) (X:Cx) (e':BT.E) (e:NY):Prop:=PE X e (tD X F G e')/\(tOK e'=true->PT X e (tDT X F G e')/\∀ op vs p,e=.BoolOp op vs p->PW X e (tDT X F G e'))
noncomputable def XO (F:FT) (G:Str->Option BT.W) (X:Cx) (es':BT.Es) (o:Option NY):Prop:=∃ t,PO X o t ∧
 ∀ σ H (Q:Option Int->Hp->Prop),(∃ m s h l zs h',RH X.K m H h/\RS X.prog X.w X.K m H σ s/\BT.evs F G es' s h=some (zs,h')/\(BT.dj zs).bind BT.o9=some l/\∀ H' m',Ext m H m' H'->RH X.K m' H' h'->Q l H')->t σ H Q
theorem d9 (p:PE X e (tD X F G e')) (hb:∀ op vs q,e≠.BoolOp op vs q) (he:∀ whole,isTrue e X.env whole=(do let v ← whole;TF e.pos;Ro [v] (truthy v)):=by intro _;rfl):XE F G X e' e :=
 ⟨p,fun _=>⟨PT.weak (Eg p he) MK,fun op vs q z=>absurd z (hb op vs q)⟩⟩
theorem Gw:XO F G X .nil none:=⟨_,Ba,fun σ H Q q=>by
 obtain ⟨m,s,h,l,zs,h',R,S,e1,e2,post⟩:=q
 simp only[BT.evs] at e1
 cases e1
 simp[BT.dj,BT.o9] at e2
 subst e2
 exact post H m (.refl _ _) R⟩
theorem Gx (ha:PE X e (tD X F G a)):XO F G X (.cons a .nil) (some e):=by
 refine ⟨_,Bb ha,fun σ H Q q=>?_⟩
 obtain ⟨m,s,h,l,zs,h',R,S,e1,e2,post⟩:=q
 simp only[BT.evs] at e1
 obtain ⟨x,h1,e3,e4⟩:=cT e1
 simp only[BT.mL,BT.dm,BT.gT] at e4
 cases e4
 refine ⟨m,s,h,x,h',R,S,e3,fun v H1 m1 x1 R1 r1=>?_⟩
 cases r1 with
 | r _=>simp[BT.dj] at e2
 | k _ _=>simp[BT.dj] at e2
 | kl _ _=>simp[BT.dj] at e2
 | c _ _=>simp[BT.dj] at e2
 | x _=>simp[BT.dj] at e2
 | g _ _=>simp[BT.dj] at e2
 | o _=>simp[BT.dj] at e2
 | p r =>
  cases r<;>simp[BT.dj,BT.o9] at e2
  subst e2
  exact ⟨_,rfl,post H1 m1 x1 R1⟩
theorem gZ (ha:PE X e (tD X F G a)) (hs:noStar e=true):PA X [e] (tDs X F G (.cons a .nil)) :=
 PA.weak (gO ha oZ (cV hs)) fun σ H Q q=>by
  obtain ⟨m,s,h,z0,h',R,S,ee,post⟩:=cons_of σ H Q q
  exact ⟨m,s,h,z0,h',R,S,ee,fun v H1 m1 x1 R1 r1=>jd (post v H1 m1 x1 R1 r1)⟩
theorem qe (ha:PE X e (tD X F G a)) (hb:PE X f (tD X F G b)) (hs:noStar e=true) (hs2:noStar f=true):PA X [e,f] (tDs X F G (.cons a (.cons b .nil))) :=
 PA.weak (gO ha (gZ hb hs2) (cV hs)) cons_of
noncomputable def JP (sc:OS) (oe:NY) (o:BT.E):Prop:=∃ x p,o=.glo x/\oe=.Name x p/\dR sc x=true/\fu x=true
noncomputable def ML (sc:OS):Tq->Prop
 | .e o oe=>tF o=false\/JP sc oe o
 | _=>True
theorem CW (h:CQ sc N t):ML sc t:=by
 induction h with
 | glo hg hn=>exact .inr ⟨_,_,rfl,rfl,hg,hn⟩
 | _=>first | exact .inl rfl | exact P8
theorem Gy (h:CE' sc N o oe):tF o=false\/JP sc oe o:=CW h
theorem sMe (O:Ok X F G sc N) (h1:Fq m o=true) (h2:name=yO m) (h3:dh oe=true) (h6:(apos.endLine==cpos.line)=true) (h7:es.length < 20) (ho:CE' sc N o oe) (ha:CEs sc N as es) (hO:PE X oe (tD X F G o)) (hA:PA X es (tDs X F G as)) :
 PE X (.Call (.Attribute oe name apos) es [] cpos) (tD X F G (.me m o as)):=by
 subst h2
 cases m with
 | append=>exact kF (sc:=sc) (N:=N) Pp PySem.F.slot_list_append PySem.F.type_list_append wM h3 h6 h7 hO ha hA (Gv (.inl rfl))
 | pop=>exact kF (sc:=sc) (N:=N) Pp PySem.F.slot_list_pop PySem.F.type_list_pop FG h3 h6 h7 hO ha hA (Gv (.inr (.inl rfl)))
 | extend=>exact kF (sc:=sc) (N:=N) Pp PySem.F.slot_list_extend PySem.F.type_list_extend wN h3 h6 h7 hO ha hA (Gv (.inr (.inr rfl)))
 | sindex=>exact kF (sc:=sc) (N:=N) Q2 PySem.F.slot_str_index PySem.F.type_str_index wQ h3 h6 h7 hO ha hA MJ
 | tindex =>
  rcases Gy ho with z | ⟨x,p,rfl,rfl,hg,hn⟩
  ·exact Bool.noConfusion (z.symm.trans h1)
  ·exact xj O hg hn h6 h7 ha hA
 | dget=>simp[Fq] at h1
 | count=>exact kF (sc:=sc) (N:=N) Pp PySem.F.slot_list_count PySem.F.type_list_count (zA O.hu) h3 h6 h7 hO ha hA (JO (.inl rfl))
 | lindex=>exact kF (sc:=sc) (N:=N) Pp PySem.F.slot_list_index PySem.F.type_list_index (wU O.hu) h3 h6 h7 hO ha hA (JO (.inr rfl))
theorem JQ (pe:PE X (.BoolOp .And (x :: r) p) (tD X F G (.and a b))) (w:tOK (.and a b)=true->PW X (.BoolOp .And (x :: r) p) (tDT X F G (.and a b))):XE F G X (.and a b) (.BoolOp .And (x :: r) p) :=
 ⟨pe,fun ht=>⟨(w ht).pt,fun _ _ _ e=>by cases e;exact w ht⟩⟩
theorem sOr (pe:PE X (.BoolOp .Or (x :: r) p) (tD X F G (.or a b))) (w:tOK (.or a b)=true->PW X (.BoolOp .Or (x :: r) p) (tDT X F G (.or a b))):XE F G X (.or a b) (.BoolOp .Or (x :: r) p) :=
 ⟨pe,fun ht=>⟨(w ht).pt,fun _ _ _ e=>by cases e;exact w ht⟩⟩
theorem lN (h:tOK (.and a b)=true):tOK a=true/\tOK b=true:=by
 have h:(tOK a&&tOK b)=true:=h
 simpa only[NX] using h
theorem qf (h:tOK (.or a b)=true):tOK a=true/\tOK b=true:=by
 have h:(tOK a&&tOK b)=true:=h
 simpa only[NX] using h
noncomputable def MX (F:FT) (G:Str->Option BT.W) (sc:OS) (N:List Str):Tq->Prop
 | .e e' e=>∀ (X:Cx),Ok X F G sc N->XE F G X e' e
 | .es as es=>∀ (X:Cx),Ok X F G sc N->PA X es (tDs X F G as)
 | .o es' o=>∀ (X:Cx),Ok X F G sc N->XO F G X es' o
 | .c cond ifs=>m6 F G sc N cond ifs
 | .i sr sa iter=>∀ (X:Cx),Ok X F G sc N->∀ (tg:NY),oA sr tg=true->PI X tg iter (iD X F G sr sa)
theorem sQ (h:CQ sc N t):MX F G sc N t:=by
 refine @CQ.rec (fun sc N t _=>MX F G sc N t)
  (fun h1 h2 h3 X O=>d9 (uP O h1 h2 h3) (fun _ _ _ z=>nomatch z))
  (fun h X O=>d9 (BQ h) (fun _ _ _ z=>nomatch z))
  (fun h2 h3 X O=>d9 (BU O h2 h3) (fun _ _ _ z=>nomatch z))
  (fun h _ _ ia ib X O=>d9 (PE.weak (HV (opB h) (ia _ O).1 (ib _ O).1) (pR fun s h=>by simp only[BT.ev])) (fun _ _ _ z=>nomatch z))
  (fun _ ia X O=>d9 (PE.weak (xV sC (ia _ O).1) FP) (fun _ _ _ z=>nomatch z))
  (fun _ ia X O=>⟨PE.weak (Ej (ia _ O).1) BZ,fun ht=>⟨PT.weak (Ei ((ia _ O).2 ht).1) BY,fun _ _ _ e=>nomatch e⟩⟩)
  (fun _ _ ia ib X O=>JQ (PE.weak (xK (ia _ O).1 (xJ (ib _ O).1)) uT) fun ht=>PW.weak (xH ((ia _ O).2 (lN ht).1).1 (AV ((ib _ O).2 (lN ht).2).1)) uU)
  (fun _ _ ia ib X O=>JQ (PE.weak (xK (ia _ O).1 (ib _ O).1) uT) fun ht=>PW.weak (xH ((ia _ O).2 (lN ht).1).1 (((ib _ O).2 (lN ht).2).2 _ _ _ rfl)) uU)
  (fun _ _ ia ib X O=>sOr (PE.weak (DF (ia _ O).1 (xJ (ib _ O).1)) zg) fun ht=>PW.weak (DB ((ia _ O).2 (qf ht).1).1 (Eh ((ib _ O).2 (qf ht).2).1)) zh)
  (fun _ _ ia ib X O=>sOr (PE.weak (DF (ia _ O).1 (ib _ O).1) zg) fun ht=>PW.weak (DB ((ia _ O).2 (qf ht).1).1 (((ib _ O).2 (qf ht).2).2 _ _ _ rfl)) zh)
  (fun h _ _ hm ia ib X O=>⟨PE.weak (uB (opC O h) (ia _ O).1 (ib _ O).1 hm) (pR fun s h=>by simp only[BT.ev]),fun _=>⟨PT.weak (uC (opC O h) (ia _ O).1 (ib _ O).1 hm) (mS (pR fun s h=>by simp only[BT.ev])),fun _ _ _ e=>nomatch e⟩⟩)
  (fun h h' _ _ _ hm ia ib ic X O=>⟨PE.weak (xY (opC O h) (opC O h') (ia _ O).1 (ib _ O).1 (ic _ O).1 hm) rB,fun _=>⟨PT.weak (xZ (opC O h) (opC O h') (ia _ O).1 (ib _ O).1 (ic _ O).1 hm) (mS rB),fun _ _ _ e=>nomatch e⟩⟩)
  (fun h _ _ _ ic ia ib X O=>⟨PE.weak (xM ((ic _ O).2 h).1 (ia _ O).1 (ib _ O).1) FO,fun ht=>nomatch ht⟩)
  (fun _ ia X O=>⟨PE.weak (EF (ia _ O)) FW,fun ht=>nomatch ht⟩)
  (fun _ ia X O=>⟨PE.weak (EG (ia _ O)) FY,fun ht=>nomatch ht⟩)
  (fun _ _ hs ia ii X O=>d9 (PE.weak (Il FF (ia _ O).1 (ii _ O).1 (zd hs)) (pR fun s h=>by simp only[BT.ev])) (fun _ _ _ z=>nomatch z))
  (fun _ _ _ ia il iu X O=>d9 (by
   obtain ⟨tl,hl1,hl2⟩:=il _ O
   obtain ⟨tu,hu1,hu2⟩:=iu _ O
   exact PE.weak (yl osl (ia _ O).1 hl1 hu1) (FQ hl2 hu2)) (fun _ _ _ z=>nomatch z))
  (fun hg hn ha ia X O=>d9 (zj O hg hn ha (ia _ O)) (fun _ _ _ z=>nomatch z))
  (fun hu hb hg hs _ ia X O=>d9 (FU O hu hb hg (by simp[cU,hs]) (gZ (ia _ O).1 hs)) (fun _ _ _ z=>nomatch z))
  (fun hb hg hg2 hs _ ia X O=>d9 (zk O hb hg hg2 hs (ia _ O).1) (fun _ _ _ z=>nomatch z))
  (fun h1 h2 h3 h6 h7 ho ha io ia X O=>d9 (sMe O h1 h2 h3 h6 h7 ho ha (io _ O).1 (ia _ O)) (fun _ _ _ z=>nomatch z))
  (fun hu hk ht hz hs _ _ _ ii ic ie X O=>⟨Cr O hu hk ht hs (ii _ O _ hz) ic fun X' O'=>(ie _ O').1,fun ht=>nomatch ht⟩)
  (fun hb hf _ ia X O=>d9 (B3 (sc:=sc) (N:=N) hb hf (ia _ O).1) (fun _ _ _ z=>nomatch z))
  (fun h3 h6 h7 _ ha io ia X O=>d9 (zm O h3 h6 h7 (io _ O).1 ha (ia _ O)) (fun _ _ _ z=>nomatch z))
  (fun hk _ ia X O=>d9 (B4 hk (ia _ O).1) (fun _ _ _ z=>nomatch z))
  (fun hu hb hg hs1 hs2 _ _ ia ib X O=>d9 (B5 O hu hb hg (by simp[cU,hs1,hs2]) (qe (ia _ O).1 (ib _ O).1 hs1 hs2)) (fun _ _ _ z=>nomatch z))
  (fun hg hn ha ia X O=>d9 (zo O hg hn ha (ia _ O)) (fun _ _ _ z=>nomatch z))
  (fun _ ia X O=>d9 (Gn (ia _ O).1 (PE.weak (xV sC oW) fun σ H Q q=>⟨_,rfl,q⟩)) (fun _ _ _ z=>nomatch z))
  (fun h3 h6 hs _ _ io ia X O=>d9 (pW Q2 PySem.F.slot_str_join PySem.F.type_str_join (ty_str (k:=.join) (fun q=>nomatch q) fun ds d e=>let ⟨x,ys,ts,h,_⟩:=rD e;⟨x,_,h⟩) Ci h3 h6 (by simp[cU,hs]) (by simp) (io _ O).1 (gZ (ia _ O).1 hs)) (fun _ _ _ z=>nomatch z))
  (fun h3 h6 hs _ _ io ia X O=>d9 (pW Q2 PySem.F.slot_str_split PySem.F.type_str_split (ty_str (k:=.split) (fun q=>nomatch q) fun ds d e=>let ⟨x,y,h,_⟩:=oG e;⟨x,_,h⟩) zF h3 h6 (by simp[cU,hs]) (by simp) (io _ O).1 (gZ (ia _ O).1 hs)) (fun _ _ _ z=>nomatch z))
  (fun h3 h6 hs _ _ io ia X O=>d9 (pW SO Qk Tj ty_dict zJ h3 h6 (by simp[cU,hs]) (by simp) (io _ O).1 (gZ (ia _ O).1 hs)) (fun _ _ _ z=>nomatch z))
  (fun h3 h6 hs hs2 _ _ _ io ia ib X O=>d9 (pW SO Qk Tj ty_dict zJ h3 h6 (by simp[cU,hs,hs2]) (by simp) (io _ O).1 (qe (ia _ O).1 (ib _ O).1 hs hs2)) (fun _ _ _ z=>nomatch z))
  (fun hg hs _ ia X O=>d9 (PE.weak (fV Ga (dU O hg) (O.blt _ (by decide)) (by decide +kernel) (gZ (ia _ O).1 hs) (by decide) (by decide) (cV hs) rfl) fun σ H Q z=>zG z) (fun _ _ _ z=>nomatch z))
  (fun hg hs _ ia X O=>d9 (PE.weak (fV Gb (dU O hg) (O.blt _ (by decide)) (by decide +kernel) (gZ (ia _ O).1 hs) (by decide) (by decide) (cV hs) rfl) fun σ H Q z=>zG z) (fun _ _ _ z=>nomatch z))
  (fun hu hg hs _ ia X O=>d9 (PE.weak (gA (Gc (O.calm hu)) (dU O hg) (O.blt _ (by decide)) (by decide +kernel) (gZ (ia _ O).1 hs) (by decide) (by decide) (cV hs) rfl) fun σ H Q z=>zG z) (fun _ _ _ z=>nomatch z))
  (fun _ _ hm ia ib X O=>⟨PE.weak (uB DX (ia _ O).1 (ib _ O).1 hm) tM,fun _=>⟨PT.weak (uC DX (ia _ O).1 (ib _ O).1 hm) (mS tM),fun _ _ _ e=>nomatch e⟩⟩)
  (fun _ _ ia ib X O=>d9 (Gu (ia _ O).1 (ib _ O).1) (fun _ _ _ z=>nomatch z))
  (fun X O=>PA.weak oZ fun σ H Q q=>jd q)
  (fun hs _ _ ia ir X O=>PA.weak (gO (ia _ O).1 (ir _ O) (cV hs)) cons_of)
  (fun X O=>Gw)
  (fun _ ia X O=>Gx (ia _ O).1)
  (.inl ⟨rfl,rfl⟩)
  (fun ht _ ia=>.inr ⟨_,_,rfl,rfl,fun X' O'=>((ia _ O').2 ht).1⟩)
  (fun hg hs _ ia X O _ _=>zD O hg hs (gZ (ia _ O).1 hs))
  (fun hg hs hs2 hs3 _ _ _ ia ib ic X O _ _=>zN O hg hs hs2 hs3 (PA.weak (gO (ia _ O).1 (qe (ib _ O).1 (ic _ O).1 hs2 hs3) (cV hs)) cons_of))
  (fun hg hs _ ia X O _ _=>Cd O hg hs (ia _ O).1)
  (fun _ ia X O _ _=>Gm (ia _ O).1)
  (fun hg hs hs2 _ _ ia ib X O _ hz=>CK O hz hg hs hs2 (qe (ia _ O).1 (ib _ O).1 hs hs2))
  (fun _ ia X O _ _=>Cb (ia _ O).1)
  sc N t h
theorem sE (h:CE' sc N e' e) (O:Ok X F G sc N):PE X e (tD X F G e'):=(sQ h X O).1
theorem sT (h:CE' sc N e' e) (O:Ok X F G sc N) (ht:tOK e'=true):PT X e (tDT X F G e')/\∀ op vs p,e=.BoolOp op vs p->PW X e (tDT X F G e'):=(sQ h X O).2 ht
theorem sCC {cond:BT.Es} (h:CC sc N cond ifs):m6 F G sc N cond ifs:=sQ h
theorem sCI (h:CI sc N sr sa iter) (O:Ok X F G sc N) (hz:oA sr tg=true):PI X tg iter (iD X F G sr sa):=sQ h X O tg hz
end
structure Made (X:Cx) (pins:List (N2×Obj)) (σ:L2.St) (m:List N2) (H:Hp) (h:BT.HH) (q:Str) (pa:RO) (be:NY) (sc:OS) (cl:List (Str×N2)) (f:N2) (H3:Hp) (s3:NT):Prop where
 inv:Inv X pins σ H3 s3
 ext:Ext m H m H3
 rh:RH X.K m H3 h
 ex:∃ pm ctv c' oc os t,Tr m H3 f (UI "<lambda>" q pa be sc cl pm c' ctv)/\Tr m H3 c' oc/\oc.data=.fields os/\os[1]?=some (.str q t)
end BS
end
section
namespace BS
open PySem PySem.Spec PyProof.Rows L2
open Classical in
section
end
section
variable {F:FT}{G:Str->Option BT.W}
section
variable {X:Cx}{cl:List (Str×N2)}{H3 H5:Hp}{s3 s5:NT}{m2 m5:List N2}
end
end
end BS
end
section
namespace BS
open PySem PySem.Spec PyProof.Rows L2
noncomputable def kJ:NY->Bool
 | .ListComp _ _ _ _=>false
 | .SetComp _ _ _ _=>false
 | .DictComp _ _ _ _ _=>false
 | _=>true
noncomputable def swB (sc scope:OS) (x:Str) (np pos:Pos):Bool :=
 (if sc.kind.isAnnotationScope then ScopeKind.function else sc.kind)==.function&&sc.names.lookup x==some .local&&np.line==pos.line&&!(scope.names.any fun (n,k)=>n==x&&(k==.local||k==.cell))
mutual
inductive CS (sc:OS) (N:List Str):BT.S->OR->Prop where
 | setc {i:Nat}{x:Str}{mu:Bool}{sr:BT.Sr}{sa:BT.Es}{tg:List Str}{fv:List (Nat×Str)}{cond:BT.Es}{elt:BT.E}{te iter elt':NY}{ifs:List NY}{scope:OS}{pos np p:Pos} (hu:gm N=true) (h1:N[i]?=some x) (h3:(sc.names.lookup x==some .cell||swB sc scope x np pos)=true)
  (hk:jy sc N tg fv scope=true) (ht:rf (dQ scope sc) tg te=true) (hz:oA sr te=true) (hs:jw iter=true) (hi:CI sc N sr sa iter) (hc:CC (dQ scope sc) (tg++fv.map (·.2)) cond ifs) (he:CE' (dQ scope sc) (tg++fv.map (·.2)) elt elt') :
  CS sc N (.set i (.comp mu sr sa tg fv cond elt)) (.Assign [.Name x np] (.ListComp elt' [⟨te,iter,ifs,0⟩] scope pos) p)
 | set {i:Nat}{x:Str}{e:BT.E}{v:NY}{np p:Pos} (h1:N[i]?=some x) (h2:mX sc x=true) (h3:kJ v=true) (he:CE' sc N e v):CS sc N (.set i e) (.Assign [.Name x np] v p)
 | unp {tg:List (Nat×Str)}{e:BT.E}{es:List NY}{k:Nat}{fe:NY}{args:List NY}{kw:List QJ}{tp cp p:Pos} (hu:gm N=true) (ht:CT sc N tg (.Tuple es k tp)) (he:CE' sc N e (.Call fe args kw cp)):CS sc N (.unp tg e) (.Assign [.Tuple es k tp] (.Call fe args kw cp) p)
 | put {i:Nat}{x:Str}{k e:BT.E}{ke v:NY}{np sp p:Pos} (h1:N[i]?=some x) (h2:q9 sc x=true) (h3:fu x=true) (h4:kJ v=true) (h5:lH ke=true) (hk:CE' sc N k ke) (he:CE' sc N e v):CS sc N (.put i k e) (.Assign [.Subscript (.Name x np) ke sp] v p)
 | aug {i:Nat}{x:Str}{o:BT.Bin}{op:Q5}{e:BT.E}{v:NY}{np p:Pos} (h1:N[i]?=some x) (h2:mX sc x=true) (h3:zp o op=true) (he:CE' sc N e v):CS sc N (.aug i o e) (.AugAssign (.Name x np) op v p)
 | setf {o e:BT.E}{f:Str}{oe v:NY}{np p:Pos} (h1:attrName f=true) (h2:kJ v=true) (ho:CE' sc N o oe) (he:CE' sc N e v):CS sc N (.setf o f e) (.Assign [.Attribute oe f np] v p)
 | augf {o e:BT.E}{f:Str}{b:BT.Bin}{op:Q5}{oe v:NY}{np p:Pos} (h1:attrName f=true) (h3:zp b op=true) (ho:CE' sc N o oe) (he:CE' sc N e v):CS sc N (.augf o f b e) (.AugAssign (.Attribute oe f np) op v p)
 | ex {e:BT.E}{v:NY}{p:Pos} (h:kJ v=true) (he:CE' sc N e v):CS sc N (.ex e) (.Expr v p)
 | ret {e:BT.E}{v:NY}{p:Pos} (he:CE' sc N e v):CS sc N (.ret e) (.Return (some v) p)
 | ife {c:BT.E}{a b:BT.S}{t:NY}{xs ys:List OR}{p:Pos} (h:tOK c=true) (hc:CE' sc N c t) (ha:CSs sc N a xs) (hb:CSs sc N b ys):CS sc N (.ife c a b) (.If t xs ys p)
 | whl {c:BT.E}{b:BT.S}{t:NY}{xs:List OR}{p:Pos} (h:tOK c=true) (hc:CE' sc N c t) (hb:CSs sc N b xs):CS sc N (.whl c b) (.While t xs [] p)
 | for {tg:List (Nat×Str)}{sr:BT.Sr}{sa:BT.Es}{b:BT.S}{te iter:NY}{xs:List OR}{p:Pos} (hu:gm N=true) (ht:CT sc N tg te) (hi:CI sc N sr sa iter) (hz:oA sr te=true) (hs:jw iter=true) (hb:CSs sc N b xs):CS sc N (.for tg sr sa b) (.For te iter xs [] p)
 | brk {p:Pos}:CS sc N .brk (.Break p)
 | cnt {p:Pos}:CS sc N .cnt (.Continue p)
 | bad {st:OR}:CS sc N .bad st
inductive CSs (sc:OS) (N:List Str):BT.S->List OR->Prop where
 | nil:CSs sc N .nil []
 | one {s:BT.S}{st:OR} (h:CS sc N s st):CSs sc N s [st]
 | cons {a b:BT.S}{st st2:OR}{r:List OR} (h:CS sc N a st) (hr:CSs sc N b (st2 :: r)):CSs sc N (.seq a b) (st :: st2 :: r)
end
noncomputable def jV (X:Cx) (m:List N2) (H:Hp) (fl:BT.Fl) (D:Ends):Prop:=match fl with
 | .nx s' h'=>∀ σ' H' m',Ext m H m' H'->RH X.K m' H' h'->RS X.prog X.w X.K m' H' σ' s'->D.nx σ' H'
 | .rt z h'=>∀ v H' m',Ext m H m' H'->RH X.K m' H' h'->RW X.prog X.w X.K m' H' v z->D.rt v H'
 | .bk s' h'=>∀ σ' H' m',Ext m H m' H'->RH X.K m' H' h'->RS X.prog X.w X.K m' H' σ' s'->D.bk σ' H'
 | .ct s' h'=>∀ σ' H' m',Ext m H m' H'->RH X.K m' H' h'->RS X.prog X.w X.K m' H' σ' s'->D.ct σ' H'
theorem jV.ext {D:Ends} (x:Ext m H m' H') (p:jV X m H fl D):jV X m' H' fl D:=by
 cases fl<;>exact fun a b c y=>p a b c (x.trans y)
inductive tDS (X:Cx) (F:FT) (G:Str->Option BT.W) (S:BT.S) (D:Ends) (σ:L2.St) (H:Hp):Prop where
 | mk (m:List N2) (s:BT.Sl) (h:BT.HH) (fl:BT.Fl) (R:RH X.K m H h) (r:RS X.prog X.w X.K m H σ s) (e:BT.evS F G S s h=some fl) (p:jV X m H fl D):tDS X F G S D σ H
theorem PS.weak {st:OR} (h:PS X st t) (q:∀ D σ H,t' D σ H->t D σ H):PS X st t':=fun pins s σ H D I hw=>h pins s σ H D I (q _ _ _ hw)
theorem PSs.weak {st:List OR} (h:PSs X st t) (q:∀ D σ H,t' D σ H->t D σ H):PSs X st t':=fun pins s σ H D I hw=>h pins s σ H D I (q _ _ _ hw)
section
theorem zT (D:Ends) (σ:L2.St) (H:Hp) (q:tDS X F G (.seq a b) D σ H):HF (tDS X F G a) (tDS X F G b) D σ H:=by
 obtain ⟨m,s,h,fl,R,S,e,post⟩:=q
 simp only[BT.evS] at e
 cases g:BT.evS F G a s h with
 | none=>rw[g] at e;exact cR e
 | some f1 =>
  rw[g] at e
  refine ⟨m,s,h,f1,R,S,g,?_⟩
  cases f1 with
  | nx s1 h1=>exact fun σ1 H1 m1 x1 R1 S1=>⟨m1,s1,h1,fl,R1,S1,e,post.ext x1⟩
  | rt z h1=>cases e;exact post
  | bk s1 h1=>cases e;exact post
  | ct s1 h1=>cases e;exact post
theorem k8 {X:Cx}{S0:BT.S}{a:BT.E}{k:BT.Sl->BT.W->BT.HH->Option BT.Fl} (he:∀ s h,BT.evS F G S0 s h=BT.bnd (BT.ev F G a s h) (k s)) {D:Ends}{σ:L2.St}{H:Hp} (q:tDS X F G S0 D σ H) {R':V->Hp->Prop}
 (h1:∀ m s h x fl v H1,RH X.K m H1 h->RS X.prog X.w X.K m H1 σ s->RW X.prog X.w X.K m H1 v x->k s x h=some fl->jV X m H1 fl D->R' v H1):tD X F G a σ H R':=by
 obtain ⟨m,s,h,fl,R,S,ee,post⟩:=q
 rw[he] at ee
 obtain ⟨x,g,e1,e2⟩:=cT ee
 exact ⟨m,s,h,x,g,R,S,e1,fun v H1 m1 x1 R1 r1=>h1 m1 s g x fl v H1 R1 (S.ext x1) r1 e2 (post.ext x1)⟩
theorem vh (h:BT.tst x k=some fl):∃ b g,x=some (.p (.bl b),g)/\k b g=some fl:=by
 unfold BT.tst at h
 obtain ⟨w,g,e1,e2⟩:=cT h
 unfold BT.Jg at e2
 cases w with
 | p d =>
  cases d<;>simp only at e2<;>try contradiction
  exact ⟨_,g,e1,e2⟩
 | r n=>exact cR e2
 | k q=>exact cR e2
 | c _ _=>exact cR e2
 | x _=>exact cR e2
 | o q=>exact cR e2
theorem lO (h:kJ e=true):QT e t l env=pure false:=by
 cases e<;>first | rfl | exact BT.dN h
theorem CY (h:kJ e=true):swapsWithSole [t] e l env=pure false:=lO h
theorem tS (h:lH i=true):∀ v,SZ (.Subscript o i pos) env v=(do
 let ov ← Ro [v] (eval o env)
 let iv ← Ro [v,ov] (eval i env)
 TF pos
 Ro [v,ov,iv] (setItem ov iv v)
 release [v,ov,iv] []):=by
 intro v
 cases i<;>first | rfl | exact BT.dN h
theorem Gz (D:Ends) (σ:L2.St) (H:Hp) (q:tDS X F G (.whl c b) D σ H):xS (tDT X F G c) (tDS X F G b) D σ H:=by
 obtain ⟨m0,s,h,fl,R,S,e,post⟩:=q
 simp only[BT.evS] at e
 refine ⟨fun n σ H=>∃ m s h,RH X.K m H h/\RS X.prog X.w X.K m H σ s/\BT.fG (BT.ev F G c) (BT.evS F G b) n s h=some fl/\jV X m H fl D,⟨BT.turns,m0,s,h,R,S,e,post⟩,?_⟩
 rintro n σ1 H1 ⟨m,s,h,R,S,e,post⟩
 cases n with
 | zero=>exact cR e
 | succ n =>
  rw[BT.fG] at e
  obtain ⟨t,g,e1,e2⟩:=vh e
  refine ⟨m,s,h,t,g,R,S,e1,fun H2 m2 x2 R2=>?_⟩
  cases t with
  | false =>
   rw[BT.Fj] at e2
   cases e2
   rw[if_neg (by decide)]
   exact post σ1 H2 m2 x2 R2 (S.ext x2)
  | true =>
   rw[BT.pG] at e2
   rw[if_pos rfl]
   refine ⟨fun σ' H'=>∃ m' s' h',RH X.K m' H' h'/\RS X.prog X.w X.K m' H' σ' s'/\BT.fG (BT.ev F G c) (BT.evS F G b) n s' h'=some fl/\jV X m' H' fl D,fun σ' H' ⟨m',s',h',a1,a2,a3,a4⟩=>⟨n,P6 n,m',s',h',a1,a2,a3,a4⟩,?_⟩
   cases gb:BT.evS F G b s g with
   | none=>rw[gb] at e2;exact cR e2
   | some f1 =>
    rw[gb] at e2
    refine ⟨m2,s,g,f1,R2,S.ext x2,gb,?_⟩
    cases f1 with
    | nx s1 h1=>exact fun σ3 H3 m3 x3 R3 S3=>⟨m3,s1,h1,R3,S3,e2,(post.ext x2).ext x3⟩
    | ct s1 h1=>exact fun σ3 H3 m3 x3 R3 S3=>⟨m3,s1,h1,R3,S3,e2,(post.ext x2).ext x3⟩
    | bk s1 h1=>cases e2;exact fun σ3 H3 m3 x3 R3 S3=>post σ3 H3 m3 (x2.trans x3) R3 S3
    | rt z h1=>cases e2;exact fun v H3 m3 x3 R3 r3=>post v H3 m3 (x2.trans x3) R3 r3
theorem GA (D:Ends) (σ:L2.St) (H:Hp) (q:tDS X F G (.aug i o e) D σ H):HQ i (tD X F G e) (FZ o) D σ H:=by
 obtain ⟨m,s,h,fl,R,S,ee,post⟩:=q
 simp only[BT.evS] at ee
 obtain ⟨y,g,e1,e2⟩:=cT ee
 unfold BT.Jp at e2
 have hs:∃ d d' z,s[i]?=some (some (.p d))/\y=.p d'/\BT.mj o d d'=some z/\fl=.nx (s.set i (some (.p z))) g:=by
  cases g1:s[i]? with
  | none=>rw[g1] at e2;cases y<;>exact cR e2
  | some ow =>
   cases ow with
   | none=>rw[g1] at e2;cases y<;>exact cR e2
   | some w0 =>
    rw[g1] at e2
    cases w0<;>cases y<;>simp only at e2<;>try contradiction
    obtain ⟨z,e3,e4⟩:=cY e2
    exact ⟨_,_,z,rfl,rfl,e3,e4.symm⟩
 obtain ⟨d,d',z,g1,rfl,e3,rfl⟩:=hs
 obtain ⟨a,b,k,rfl,rfl,rfl⟩:=uX e3
 obtain ⟨v,hv,rv⟩:=S.get i _ g1
 have ev:v=.int a:=by cases rv with | p rv=>cases rv;rfl
 subst ev
 refine ⟨_,hv,m,s,h,_,g,R,S,e1,fun u H1 m1 x1 R1 r1=>?_⟩
 cases r1 with
 | p r1 =>
  cases r1
  exact ⟨a,b,k,rfl,rfl,e3,post _ H1 m1 x1 R1 ((S.ext x1).set (.p (.int k)))⟩
theorem xm (e:BT.pH s f v x h=some fl):∃ n c fs,x=.o n/\BT.oat h n=some (c,fs)/\BT.attrOk v=true/\fs.length < 1000/\fl=.nx s (h.set n (.o c (BT.eB f v fs))):=by
 cases x with
 | o n =>
  rw[BT.yI] at e
  cases g:BT.oat h n with
  | none=>rw[g] at e;exact cR e
  | some q =>
   obtain ⟨c,fs⟩:=q
   rw[g] at e
   simp only at e
   obtain ⟨c1,e⟩:=c6 e
   cases e
   simp only[NX,decide_eq_true_eq] at c1
   exact ⟨n,c,fs,rfl,g,c1.1,c1.2,rfl⟩
 | p d=>exact cR e
 | r n=>exact cR e
 | k q=>exact cR e
 | c _ _=>exact cR e
 | x _=>exact cR e
theorem rM {D:Ends} (R:RH X.K m H h) (S:RS X.prog X.w X.K m H σ s) (hn:m[n]?=some a) (h1:H a=some (.ins C dx vs)) (h2:oB X.K c C) (h3:RFs X.K m H vs fs) (ra:RA X.K m H v y)
 (post:jV X m H (.nx s (h.set n (.o c (BT.eB f y fs)))) D):D.nx σ (upd H a (.ins C dx (L2.eB f v vs))):=by
 have x:Ext m H m (upd H a (.ins C dx (L2.eB f v vs))):=mO (Oe hn) ⟨_,h1,rfl⟩
 exact post σ _ m x (R.setC hn ⟨_,h1,rfl⟩ ⟨C,dx,_,dS,h2,(RFs.put ra h3).ext x⟩) (S.ext x)
theorem CZ {X:Cx}{o e:BT.E}{f:Str} (hf:attrName f=true) (D:Ends) (σ:L2.St) (H:Hp) (q:tDS X F G (.setf o f e) D σ H):Ic X.K (tD X F G o) (tD X F G e) f D σ H:=by
 refine k8 (k:=fun s=>BT.yJ (BT.ev F G o s) s f) (fun s h=>by simp only[BT.evS]) q fun m s h y fl v H1 R S r e1 post=>?_
 rw[BT.yK] at e1
 obtain ⟨x,g,e2,e3⟩:=cT e1
 obtain ⟨n,c,fs,rfl,g1,ok,hl,rfl⟩:=xm e3
 refine ⟨m,s,h,.o n,g,R,S,e2,fun u H2 m2 x2 R2 r2=>?_⟩
 cases r2 with
 | @o a _ hn =>
  obtain ⟨C,dx,vs,q1,q2,q3⟩:=R2.rj _ _ _ _ hn g1
  exact ⟨a,C,dx,vs,rfl,q1,q2.cls,q2.no f hf,by rw[q3.length];exact hl,rM R2 (S.ext x2) hn q1 q2 q3 ((r.ext x2).ra ok) (post.ext x2)⟩
theorem zU (e:BT.uL ee s f op x h=some fl):∃ n c fs d y g fs' z,x=.o n/\BT.oat h n=some (c,fs)/\BT.iH f fs=some (.p d)/\ee h=some (.p y,g)/\BT.oat g n=some (c,fs')/\BT.mj op d y=some z/\fs'.length < 1000/\fl=.nx s (g.set n (.o c (BT.eB f (.p z) fs'))):=by
 cases x with
 | o n =>
  rw[BT.Bw] at e
  cases g1:BT.oat h n with
  | none=>rw[g1] at e;exact cR e
  | some q =>
   obtain ⟨c,fs⟩:=q
   rw[g1] at e
   simp only at e
   cases g2:BT.iH f fs with
   | none=>rw[g2] at e;exact cR e
   | some w0 =>
    rw[g2] at e
    cases w0 with
    | p d =>
     simp only at e
     obtain ⟨y,g,e1,e2⟩:=cT e
     cases y with
     | p y =>
      rw[BT.yL] at e2
      cases g3:BT.oat g n with
      | none=>rw[g3] at e2;exact cR e2
      | some q =>
       obtain ⟨c',fs'⟩:=q
       rw[g3] at e2
       simp only at e2
       cases g4:BT.mj op d y with
       | none=>rw[g4] at e2;exact cR e2
       | some z =>
        rw[g4] at e2
        simp only at e2
        obtain ⟨c1,e2⟩:=c6 e2
        cases e2
        obtain ⟨rfl,c1⟩:=c1
        exact ⟨n,c',fs,d,y,g,fs',z,rfl,g1,g2,e1,g3,g4,c1,rfl⟩
     | r n=>exact cR e2
     | k q=>exact cR e2
     | c _ _=>exact cR e2
     | x _=>exact cR e2
     | o n=>exact cR e2
    | r n=>exact cR e
    | k q=>exact cR e
    | c _ _=>exact cR e
    | x _=>exact cR e
    | o n=>exact cR e
 | p d=>exact cR e
 | r n=>exact cR e
 | k q=>exact cR e
 | c _ _=>exact cR e
 | x _=>exact cR e
theorem C1 {X:Cx}{o e:BT.E}{f:Str}{b:BT.Bin} (hf:attrName f=true) (D:Ends) (σ:L2.St) (H:Hp) (q:tDS X F G (.augf o f b e) D σ H):uD X.K (tD X F G o) (tD X F G e) (FZ b) f D σ H:=by
 refine k8 (k:=fun s=>BT.uL (BT.ev F G e s) s f b) (fun s h=>by simp only[BT.evS]) q fun m s h y fl v H1 R S r e1 post=>?_
 obtain ⟨n,c,fs,d,y,g,fs',z,rfl,g1,g2,e2,g3,g4,hl,rfl⟩:=zU e1
 obtain ⟨i,j,k,rfl,rfl,rfl⟩:=uX g4
 cases r with
 | @o a _ hn =>
  obtain ⟨C,dx,vs,q1,q2,q3⟩:=R.rj _ _ _ _ hn g1
  obtain ⟨u,l,ra⟩:=q3.get g2
  have eu:u=.int i:=by cases ra with | p ra=>cases ra;rfl
  subst eu
  refine ⟨a,C,dx,vs,_,rfl,q1,q2.cls,q2.no f hf,l,m,s,h,_,g,R,S,e2,fun u2 H2 m2 x2 R2 r2=>?_⟩
  cases r2 with
  | p r2 =>
   cases r2
   obtain ⟨C',dx',vs',p1,p2,p3⟩:=R2.rj _ _ _ _ (x2.ix hn) g3
   cases p2.cn.inj q2.cn
   exact ⟨i,j,k,rfl,rfl,g4,dx',vs',p1,by rw[p3.length];exact hl,rM R2 (S.ext x2) (x2.ix hn) p1 p2 p3 (.p (.int k)) (post.ext x2)⟩
theorem GB {X:Cx}{i:Nat}{k e:BT.E} (D:Ends) (σ:L2.St) (H:Hp) (q:tDS X F G (.put i k e) D σ H):xP (tD X F G e) (HP (tD X F G (.var i)) (tD X F G k) DH) D σ H:=by
 refine k8 (k:=fun s=>BT.Fo (BT.ev F G k s) s i) (fun s h=>by simp only[BT.evS]) q fun m s h y fl v H1 R S r e1 post=>?_
 unfold BT.Fo at e1
 cases y with
 | r n=>exact cR e1
 | k q=>exact cR e1
 | c _ _=>exact cR e1
 | x _=>exact cR e1
 | o q=>exact cR e1
 | p d =>
  cases g:s[i]? with
  | none=>rw[g] at e1;exact cR e1
  | some o =>
   cases o with
   | none=>rw[g] at e1;exact cR e1
   | some wz =>
    cases wz with
    | p _=>rw[g] at e1;exact cR e1
    | k _=>rw[g] at e1;exact cR e1
    | c _ _=>rw[g] at e1;exact cR e1
    | x _=>rw[g] at e1;exact cR e1
    | o _=>rw[g] at e1;exact cR e1
    | r n =>
     rw[g] at e1
     simp only at e1
     obtain ⟨q,h2,e2,e3⟩:=cT e1
     refine ⟨m,s,h,.r n,h,R,S,by simp only[BT.ev,g],fun o H2 m2 x2 R2 r2=>⟨m2,s,h,q,h2,R2,S.ext x2,e2,fun ki H3 m3 x3 R3 r3=>?_⟩⟩
     unfold BT.DO at e3
     cases q with
     | r _=>exact cR e3
     | k _=>exact cR e3
     | c _ _=>exact cR e3
     | x _=>exact cR e3
     | o _=>exact cR e3
     | p dk =>
      cases g2:BT.lat h2 n with
      | none=>rw[g2] at e3;cases dk<;>exact cR e3
      | some xs =>
       rw[g2] at e3
       cases dk with
       | int j =>
        simp only at e3
        cases g3:BT.place xs.length j with
        | none=>rw[g3] at e3;exact cR e3
        | some mm =>
         rw[g3] at e3
         cases e3
         have r2':=r2.ext x3
         cases r2' with
         | @r a _ hn =>
          cases r3 with
          | p r3 =>
           cases r3
           obtain ⟨us,hH,ru⟩:=R3.cell n a xs hn g2
           refine ⟨a,us,j,mm,rfl,rfl,hH,by rw[ru.length];exact g3,?_⟩
           have x4:Ext m3 H3 m3 (upd H3 a (.lst (us.set mm v))):=gE (Oe hn) hH
           cases r with
           | p r=>exact post σ _ m3 ((x2.trans x3).trans x4) (R3.set hn hH (RDs.set ((r.ext x2).ext x3) mm ru)) (((S.ext x2).ext x3).ext x4)
       | _=>exact cR e3
end
section
theorem GC (hg:GOk X tg g) (D:Ends) (σ:L2.St) (H:Hp) (q:tDS X F G (.for tg sr sa b) D σ H):HU (iD X F G sr sa) g (tDS X F G b) D σ H:=by
 obtain ⟨m,s,h,fl,R,S,e,post⟩:=q
 simp only[BT.evS] at e
 obtain ⟨ws,h1,e1,e2⟩:=cT e
 unfold BT.kFor at e2
 cases g1:(BT.rds ws h1).bind (BT.fK sr) with
 | none=>rw[g1] at e2;exact cR e2
 | some ds =>
  rw[g1] at e2
  simp only at e2
  split at e2
  ·rename_i ca
   refine ⟨m,s,h,ws,h1,ds,R,S,e1,g1,.inl ca,fun H1 m1 J x1 R1 it=>?_⟩
   refine ⟨fun i n σ H=>i<=ds.length/\n=ds.length - i/\∃ m s h,Ext m1 H1 m H/\RH X.K m H h/\RS X.prog X.w X.K m H σ s/\BT.d8 (BT.evS F G b) tg (ds.drop i) s h=some fl/\jV X m H fl D,
    ⟨ds.length,Qs _,rfl,m1,s,h1,.refl _ _,R1,S.ext x1,by rw[QS];exact e2,post.ext x1⟩,?_⟩
   rintro i n σ2 H2 ⟨hi,rfl,m2,s2,h2,x2,R2,S2,e3,post2⟩
   by_cases c:i < ds.length
   ·refine .inr ⟨it.go m2 H2 h2 i x2 R2 (mV ca) c,_,fun σ' H' z=>⟨ds.length - (i+1),by lia,c,rfl,z⟩,fun x H3 y=>?_⟩
    obtain ⟨x3,k3,r3⟩:=it.yld m2 H2 h2 i x H3 ds[i] x2 R2 (mV ca) (N8 c) y
    rw[Te c,BT.d8] at e3
    cases g2:BT.target tg.length ds[i] with
    | none=>rw[g2] at e3;exact cR e3
    | some dd =>
     rw[g2] at e3
     simp only at e3
     have R3:=R2.ext x3 k3
     refine hg m2 H3 σ2 s2 x ds[i] dd _ (S2.ext x3) r3 g2 fun σ4 S4=>?_
     cases g3:BT.evS F G b (BT.sets tg dd s2) h2 with
     | none=>rw[g3] at e3;exact cR e3
     | some f1 =>
      rw[g3] at e3
      refine ⟨m2,_,h2,f1,R3,S4,g3,?_⟩
      cases f1 with
      | nx s5 h5=>exact fun σ5 H5 m5 x5 R5 S5=>⟨m5,s5,h5,(x2.trans x3).trans x5,R5,S5,e3,(post2.ext x3).ext x5⟩
      | ct s5 h5=>exact fun σ5 H5 m5 x5 R5 S5=>⟨m5,s5,h5,(x2.trans x3).trans x5,R5,S5,e3,(post2.ext x3).ext x5⟩
      | bk s5 h5=>cases e3;exact fun σ5 H5 m5 x5 R5 S5=>post2 σ5 H5 m5 (x3.trans x5) R5 S5
      | rt z h5=>cases e3;exact fun v H5 m5 x5 R5 r5=>post2 v H5 m5 (x3.trans x5) R5 r5
   ·have ei:i=ds.length:=by lia
    subst ei
    refine .inl ⟨it.stop m2 H2 h2 x2 R2 (mV ca),?_⟩
    rw[List.drop_length,BT.d8] at e3
    cases e3
    exact post2 σ2 H2 m2 (.refl _ _) R2 S2
  ·exact cR e2
theorem JR {X:Cx}{sc:OS}{N:List Str} (O:Ok X F G sc N) {x:Str}{np pos p:Pos}{elt':NY}{gs:List Comprehension}{scope:OS} (h:swB sc scope x np pos=true):QT (.ListComp elt' gs scope pos) (some (.Name x np)) p.line X.env=pure true:=by
 have e:QT (.ListComp elt' gs scope pos) (some (.Name x np)) p.line X.env=pure (swB X.env.scope scope x np pos):=rfl
 rw[e,O.hsc,h]
theorem C2 (c:(sc.names.lookup x==some .cell)=true):mX sc x=true:=by
 unfold mX
 rw[eq_of_beq c]
theorem zV (h:swB sc scope x np pos=true):sc.names.lookup x=some .local:=by
 unfold swB at h
 simp only[NX] at h
 exact eq_of_beq h.1.1.2
theorem JS {X:Cx}{sc:OS}{N:List Str} (O:Ok X F G sc N) {x:Str}{np pos p:Pos}{elt':NY}{gs:List Comprehension}{scope:OS} (c:(sc.names.lookup x==some .cell)=true):QT (.ListComp elt' gs scope pos) (some (.Name x np)) p.line X.env=pure false:=by
 have e:QT (.ListComp elt' gs scope pos) (some (.Name x np)) p.line X.env=pure (swB X.env.scope scope x np pos):=rfl
 have z:swB sc scope x np pos=false:=by
  cases h:swB sc scope x np pos with
  | false=>rfl
  | true =>
   have:=zV h
   rw[eq_of_beq c] at this
   cases this
 rw[e,O.hsc,z]
theorem zW:PSs X [] (tDS X F G .nil):=PSs.weak AW fun D σ H q=>by
 obtain ⟨m,s,h,fl,R,S,e,post⟩:=q
 simp only[BT.evS] at e
 cases e
 exact post σ H m (.refl _ _) R S
theorem sS (O:Ok X F G sc N) (hf:∀ x,X.fn x=true) {st:OR} (hh:CS sc N s st):PS X st (tDS X F G s) :=
 CS.rec (motive_1:=fun s st _=>PS X st (tDS X F G s)) (motive_2:=fun s sts _=>PSs X sts (tDS X F G s))
  (@fun i x mu sr sa tg fv cond elt te iter elt' ifs scope pos np p hu h1 h3 hk ht hz hs hi hc he=>by
   have K:∀ (D:Ends) (σ:L2.St) (H:Hp),tDS X F G (.set i (.comp mu sr sa tg fv cond elt)) D σ H->xP (tD X F G (.comp mu sr sa tg fv cond elt)) (uy i) D σ H:=fun D σ H q =>
    k8 (k:=fun s=>BT.yG s i) (fun s h=>rfl) q fun m s h y fl v H1 R S r e1 post=>by
     simp only[BT.yG] at e1
     cases e1
     exact post _ H1 m (.refl _ _) R (S.set r)
   by_cases c:(sc.names.lookup x==some .cell)=true
   ·exact PS.weak (xR (i:=i) O.nd (by rw[O.hN];exact h1) (mY O (C2 c)) (sE (CQ.comp hu hk ht hz hs hi hc he) O) (JS O c) (.inl (hf x))) K
   ·have h4:swB sc scope x np pos=true:=by
     rw[Qh] at h3
     exact h3.resolve_left c
    exact PS.weak (Cs O hu hk ht hs (sCI hi O hz) (sCC hc) (fun X' O'=>sE he O') h1 (zV h4) (JR O h4)) K)
  (@fun i x e v np p h1 h2 h3 he=>PS.weak (xR (i:=i) O.nd (by rw[O.hN];exact h1) (mY O h2) (sE he O) (lO h3) (.inl (hf x))) fun D σ H q =>
   k8 (k:=fun s=>BT.yG s i) (fun s h=>by simp only[BT.evS]) q fun m s h y fl v H1 R S r e1 post=>by
    simp only[BT.yG] at e1
    cases e1
    exact post _ H1 m (.refl _ _) R (S.set r))
  (@fun tg e es k fe args kw tp cp p hu ht he=>by
   obtain ⟨g,hg1,hg2⟩:=sCT O (O.calm hu) ht fun q _=>.inl (hf q.2)
   exact PS.weak (xQ (sE he O) hg1 rfl rfl) fun D σ H q=>k8 (k:=fun s=>BT.Fk s tg) (fun s h=>by simp only[BT.evS]) q fun m s h y fl v H1 R S r e1 post=>by
    cases r with
    | p r =>
     simp only[BT.Fk] at e1
     rename_i d
     cases g1:BT.unpack tg.length d with
     | none=>rw[g1] at e1;exact cR e1
     | some ds =>
      rw[g1] at e1
      cases e1
      refine hg2 m H1 σ s _ d ds _ S r ?_ fun σ' S'=>post _ H1 m (.refl _ _) R S'
      cases ht with
      | tup hl _ =>
       unfold BT.target
       rw[if_neg (by have:=Um hl;lia)];exact g1
    | _=>exact cR e1)
  (fun h1 h2 h3 h4 h5 hk he=>PS.weak (xQ (sE he O) (Eo (uP O h1 h2 h3) (sE hk O) set_list (tS h5)) (CY h4) rfl) GB)
  (fun h1 h2 h3 he=>PS.weak (Ep O.nd (by rw[O.hN];exact h1) (mY O h2) (sE he O) (uW h3) (.inl (hf _))) GA)
  (fun h1 h2 ho he=>PS.weak (ED (sE ho O) (sE he O) (lO h2)) (CZ h1))
  (fun h1 h3 ho he=>PS.weak (wk (sE ho O) (sE he O) (uW h3)) (C1 h1))
  (fun h he=>PS.weak (AX (sE he O) (lO h)) fun D σ H q =>
   k8 (k:=fun s=>BT.kEx s) (fun s h=>by simp only[BT.evS]) q fun m s h y fl v H1 R S r e1 post=>by
    simp only[BT.kEx] at e1
    cases e1
    exact post σ H1 m (.refl _ _) R S)
  (fun he=>PS.weak (El (sE he O)) fun D σ H q =>
   k8 (k:=fun s=>BT.Fp) (fun s h=>by simp only[BT.evS]) q fun m s h y fl v H1 R S r e1 post=>by
    simp only[BT.Fp] at e1
    cases e1
    exact post v H1 m (.refl _ _) R r)
  (fun h hc ha hb ia ib=>PS.weak (HK (sT hc O h).1 ia ib) fun D σ H q=>by
   obtain ⟨m,s,h,fl,R,S,e,post⟩:=q
   simp only[BT.evS] at e
   obtain ⟨t,g,e1,e2⟩:=vh e
   refine ⟨m,s,h,t,g,R,S,e1,fun H1 m1 x1 R1=>?_⟩
   simp only[BT.kIf] at e2
   cases t with
   | true=>exact ⟨m1,s,g,fl,R1,S.ext x1,e2,post.ext x1⟩
   | false=>exact ⟨m1,s,g,fl,R1,S.ext x1,e2,post.ext x1⟩)
  (fun h hc hb ib=>PS.weak (xT O.own (sT hc O h).1 ib) Gz)
  (fun hu ht hi hz hs hb ib=>by
   obtain ⟨g,hg1,hg2⟩:=sCT O (O.calm hu) ht (fun q _=>.inl (hf q.2))
   exact PS.weak (Et O.own (O.calm hu) (sCI hi O hz) hg1 ib (u5 hs)) (GC hg2))
  (PS.weak xN fun D σ H q=>by
   obtain ⟨m,s,h,fl,R,S,e,post⟩:=q
   simp only[BT.evS] at e
   cases e
   exact post σ H m (.refl _ _) R S)
  (PS.weak qJ fun D σ H q=>by
   obtain ⟨m,s,h,fl,R,S,e,post⟩:=q
   simp only[BT.evS] at e
   cases e
   exact post σ H m (.refl _ _) R S)
  (fun pins s σ H D I q=>by
   obtain ⟨m,s,h,fl,R,S,e,post⟩:=q
   simp only[BT.evS] at e
   exact cR e)
  zW
  (fun _ ih=>ux ih)
  (fun _ _ ih ir=>PSs.weak (qI ih ir) zT)
  hh
theorem sSs (O:Ok X F G sc N) (hf:∀ x,X.fn x=true) {sts:List OR} (hh:CSs sc N s sts):PSs X sts (tDS X F G s):=by
 refine CSs.rec (motive_1:=fun _ _ _=>True) (motive_2:=fun s sts _=>PSs X sts (tDS X F G s)) ?_ ?_ ?_ ?_ ?_ ?_ ?_ ?_ ?_ ?_ ?_ ?_ ?_ ?_ ?_ zW (fun h _=>ux (sS O hf h)) (fun h _ _ ir=>PSs.weak (qI (sS O hf h) ir) zT) hh<;>(intros;trivial)
end
section
variable {K:NO}
mutual
theorem RD.shrink (x:∀ a∈m,a∈m'):∀ {v:V}{d:BT.D},RD K m' H v d->RD K m H v d
 | _,_,.non=>.non
 | _,_,.bl b=>.bl b
 | _,_,.int i=>.int i
 | _,_,.str y h=>.str y h
 | _,_,.tup h r=>.tup (h.elim (fun q=>.inl ⟨q.1,fun z=>q.2 (x _ z)⟩) .inr) (RDs.shrink x r)
 | _,_,.lst h r=>.lst (h.elim (fun q=>.inl ⟨q.1,fun z=>q.2 (x _ z)⟩) .inr) (RDs.shrink x r)
theorem RDs.shrink (x:∀ a∈m,a∈m'):∀ {vs:List V}{ds:List BT.D},RDs K m' H vs ds->RDs K m H vs ds
 | _,_,.nil=>.nil
 | _,_,.cons r t=>.cons (RD.shrink x r) (RDs.shrink x t)
end
end
theorem RFs.shrink {K:NO}:∀ {vs0 vs:List (Str×V)}{fs:List (Str×BT.W)},RFs K m H vs0 fs->RFs K (m++ex) H' vs fs->RFs K m H' vs fs
 | _,_,_,.nil,.nil=>.nil
 | _,_,_,.cons r0 t0,.cons r t=>by
  refine .cons ?_ (RFs.shrink t0 t)
  have back:∀ {n:Nat}{a b:N2},m[n]?=some b->(m++ex)[n]?=some a->m[n]?=some a:=fun {n a b} h1 h2=>by
   rw[N6 (getD_some h1)] at h2
   exact h2
  cases r with
  | p r=>exact .p (r.shrink fun a ha=>QE _ ha)
  | r h=>cases r0 with | r h0=>exact .r (back h0 h)
  | o h=>cases r0 with | o h0=>exact .o (back h0 h)
theorem RKs.shrink {K:NO} (sub:∀ a∈m,a∈m') (r:RKs K m' H vs kvs):RKs K m H vs kvs:=by
 induction r with
 | nil=>exact .nil
 | cons hk r t ih=>exact .cons (hk.shrink sub) (r.shrink sub) ih
theorem kK {K:NO} (e:BT.fin h y g=some (z,h')) (R:RH K m H h) (x:Ext m H m' H') (R':RH K m' H' g) (r:RW P w K m' H' v y) :
 ∃ m2,Ext m H m2 H'/\RH K m2 H' h'/\RW P w K m2 H' v z:=by
 unfold BT.fin at e
 split at e
 ·cases e;exact ⟨m',x,R',r⟩
 ·split at e
  ·rename_i c1 c2
   obtain ⟨ex,rfl,hx⟩:=x.pre
   have sub:∀ a∈m,a∈m++ex:=fun a ha=>QE _ ha
   have x2:Ext m H m H':=⟨⟨[],by simp,by simp⟩,x.keep,x.live,x.frz⟩
   have R2:RH K m H' h:=by
    refine ⟨R.nd,R.len,fun i a xs e1 e2=>?_,R'.tb⟩
    have hi:i < m.length:=getD_some e1
    have hi2:i < h.length:=by rw[← R.len];exact hi
    have e3:g[i]?=some xs:=by
     rw[← c2,Tn hi2] at e2
     exact e2
    have z:=R'.cl i a xs (by rw[N6 hi];exact e1) e3
    cases xs with
    | l ys=>obtain ⟨vs,q1,q2⟩:=z;exact ⟨vs,q1,q2.shrink sub⟩
    | o c fs =>
     obtain ⟨C0,dx0,vs0,_,_,q0⟩:=R.cl i a _ e1 e2
     obtain ⟨C,dx,vs,q1,q2,q3⟩:=z
     exact ⟨C,dx,vs,q1,q2,q0.shrink q3⟩
    | d kvs=>obtain ⟨vs,q1,q2⟩:=z;exact ⟨vs,q1,q2.shrink sub⟩
    | z=>exact z
   cases r with
   | p r=>cases e;exact ⟨m,x2,R2,.p (r.shrink sub)⟩
   | k _ _=>exact cR e
   | kl _ _=>exact cR e
   | c _ _=>exact cR e
   | x _=>exact cR e
   | g _ _=>exact cR e
   | @o a n hn =>
    simp only at e
    split at e
    ·rename_i c3
     cases e
     refine ⟨m,x2,R2,.o ?_⟩
     rw[N6 (by rw[R.len];exact c3)] at hn
     exact hn
    ·cases e;exact ⟨m++ex,x,R',.o hn⟩
   | @r a n hn =>
    simp only at e
    split at e
    ·rename_i c3
     cases e
     refine ⟨m,x2,R2,.r ?_⟩
     rw[N6 (by rw[R.len];exact c3)] at hn
     exact hn
    ·rename_i c3
     obtain ⟨xs,e4,e5⟩:=cY e
     cases e5
     obtain ⟨vs,q1,q2⟩:=R'.cell n a xs hn e4
     refine ⟨m,x2,R2,.p (.lst (.inl ⟨.inl q1,fun z=>?_⟩) (q2.shrink sub))⟩
     obtain ⟨j,hj⟩:=Pk z
     have hjl:=getD_some hj
     have ej:(m++ex)[j]?=some a:=by rw[N6 hjl];exact hj
     have:=oE R'.nd ej hn
     rw[R.len] at hjl
     lia
  ·cases e;exact ⟨m',x,R',r⟩
theorem rN {K:NO} (r:RWs P w K m H vs ws):RS P w K m H (L2.start N vs) (BT.gU N.length ws):=by
 have hl:=r.length
 refine ⟨by simp[L2.start,BT.gU,hl],fun i y e=>?_⟩
 simp only[BT.gU] at e
 by_cases c:i < ws.length
 ·rw[N6 (by simpa using c),OE] at e
  obtain ⟨z,e1,e2⟩:=cY e
  cases e2
  have:∀ {vs:List V}{ws:List BT.W}{i:Nat},RWs P w K m H vs ws->ws[i]?=some y->∃ v,vs[i]?=some v/\RW P w K m H v y:=by
   intro vs ws i r
   induction r generalizing i with
   | nil=>intro e;simp at e
   | cons r t ih =>
    intro e
    cases i with
    | zero=>simp at e;subst e;exact ⟨_,rfl,r⟩
    | succ i=>simpa using ih (by simpa using e)
  obtain ⟨v,h1,h2⟩:=this r e1
  refine ⟨v,?_,h2⟩
  unfold L2.start
  rw[N6 (by simp;lia),OE,h1];rfl
 ·rw[Os (by simpa using c),Qf] at e
  split at e<;>cases e
theorem GD {K:NO} (hT:BT.tE L=some ⟨ns,ns,.ret bt⟩)
 (hg:∀ ws h r,g ws h=some r->ws.length=ns.length/\BT.tw (BT.evS F G (.ret bt) (BT.gU ns.length ws) h) (BT.fin h)=some r)
 (hO:∀ (q:Str) (sc:OS) (cl:List (Str×N2)) (f c':N2) (A:ON) (outer:List Env) (s:NT) (H:Hp),ns.Nodup->eV k (A.deeper (QG q sc s.heap.objs.size f (.ref c') cl))->Ok (zy P w K mg base ns q sc cl f c' A outer s H) F G sc ns):rA P w K mg base (k+1) L g:=by
 intro A outer s H f us vs cvs m ws cs h z h' Q E hr e0 rv R rw nc la rc e post
 obtain ⟨bt',ps,fs,pa,be,sc,cl,pm,ctv,c',oc,os,t,q,l0,l1,l2,l3,l4,l5,l6,l7,l8,l9,l10⟩:=la
 rw[hT] at l0
 cases l0
 have lf:=MG l2
 obtain ⟨hwl,e1⟩:=hg _ _ _ e
 have C:=l10.cells l5
 have GZ:=rv.length
 have G0:=rw.length
 have Dy:=l10.len
 have G1:cvs.length=cs.length:=by
  clear e e1 hwl l10 Dy
  induction rc with
  | nil=>rfl
  | cons _ _ ih=>simp[ih]
 have hu:us.length=ps.length:=by
  simp only[Oa,N5] at hwl
  lia
 refine PySem.W.kla_callFunE hr.depth (e0.hok _ _ l6.1).1 rfl lf.co lf.ge rfl ⟨c',oc,os,t,rfl,(e0.hok _ _ l7.1).1,l8,l9⟩ ?_
 rw[B6 l1 hu]
 refine wpAny_pure (wpAny_newFunctionEnv lf.cell (fun y hy=>lf.loc y.1 (Rl hy).1) (fun h1 hns hsb=>?_) lf.kd)
 have hk1:∀ b o,s.heap.get? b=some o->h1.get? b=some o:=fun b o e=>hsb.extBut b o (Oh (N3 e)) (NQ _ e)
 refine ⟨e0.mod.nolimit.keeps fun b o e=>hk1 b o (e0.bs b o e).1,?_⟩
 show codeAny _ _ (.expr be (QG q sc s.heap.objs.size f (.ref c') cl)) _ _
 refine PySem.W.kla_codeExpr ?_
 have I:=B8 (q:=q) (f:=f) (c':=c') (tk:=s.toks+(ps.zip us).length) l1 lf l4 l5 l10 hr.hd e0 rv hu hns hk1
 have hr1:eV k (A.deeper (QG q sc s.heap.objs.size f (.ref c') cl)):=hr.deeper _
 have O:=hO q sc cl f c' A outer s H lf.nd hr1
 simp only[BT.evS] at e1
 cases g1:BT.ev F G bt (BT.gU (ps++fs).length (ws++cs.map BT.Cp.w)) h with
 | none=>rw[g1] at e1;exact cR e1
 | some yg =>
  obtain ⟨y,gh⟩:=yg
  rw[g1] at e1
  have e2:BT.fin h y gh=some (z,h'):=e1
  have hs:RS P w K m (hid cl H) (vs.map some++cvs.map some) (BT.gU (ps++fs).length (ws++cs.map BT.Cp.w)):=by
   have r0:=rN (N:=ps++fs) ((rw.tr C.sq nc).app (RCs.ws (P:=P) (w:=w) (rc.tr C.sq)))
   have e3:L2.start (ps++fs) (vs++cvs)=vs.map some++cvs.map some:=by
    unfold L2.start
    simp only[Oa]
    rw[show ps.length+fs.length - (vs.length+cvs.length)=0 by lia]
    simp
   rw[e3] at r0;exact r0
  refine P0 (sE l3 O [] _ _ _ (fun v H'=>∃ m',Ext m (hid cl H) m' H'/\RH K m' H' gh/\RW P w K m' H' v y) I ⟨m,_,h,y,gh,C.rh R,hs,g1,fun v H' m' x' R' r'=>⟨m',x',R',r'⟩⟩) (fun u s' ⟨v,H',I',rv',m',x',R',r'⟩=>?_) (fun e s' hx=>O6 hx)
  have N':∀ x c,cl.lookup x=some c->H' c=none:=fun x c e=>I'.freeC x c e
  have le:Le H' (ret cl H H'):=F3 N'
  obtain ⟨m2,x2,R2,r2⟩:=kK e2 (C.rh R) x' R' r'
  have B:Un (frs outer) [] (hid cl H) H' s.heap s'.heap:=I'.base
  have nc':∀ b,H b=none->¬ ∃ y,cl.lookup y=some b:=fun b n ⟨y,qq⟩=>by
   obtain ⟨o,uu,k1,_⟩:=C y b qq
   rw[n] at k1;exact cR k1
  refine ⟨v,ret cl H H',I'.os,I'.bare,⟨fun b o e n hb hx=>B.keep b o e (gH n) hb hx,fun b o e n hb hx=>B.slot b o e (gH n) hb hx,fun b o e n hx=>?_,fun b o e hx=>B.there b o e hx,fun b xs e=>?_,fun b o uu e=>?_,fun b qs e=>?_⟩,fun b uu e=>?_,rv',post v _ m2 (C.F4 N' x2 R2) (R2.le le) (r2.le le)⟩
  ·rw[fP (nc' b n)];exact B.free b o e (gH n) hx
  ·rw[fP (C.out e rfl)];exact B.tups b xs (C.hid e rfl)
  ·by_cases cc:∃ y,cl.lookup y=some b
   ·obtain ⟨y,qq⟩:=cc;rw[mT qq];exact e
   ·rw[fP cc];exact B.frzs b o uu (by rw[je cc];exact e)
  ·rw[fP (C.out e rfl)];exact B.tbls b qs (C.hid e rfl)
  ·by_cases cc:∃ y,cl.lookup y=some b
   ·obtain ⟨y,qq⟩:=cc
    rw[mT qq] at e
    obtain ⟨o,u2,k1,k2⟩:=C y b qq
    rw[k1] at e
    cases e
    have k3:=B.keep b o (e0.hok _ _ k1).1 (zx qq) (fun hb=>by rw[e0.frf b hb] at k1;exact cR k1) (by simp)
    exact ⟨k3,_,k3⟩
   ·rw[fP cc] at e
    exact (I'.hok b uu e).stay (fun _ _ _ q=>q) (fun d q=>le _ _ q) fun d xs q=>le _ _ q
noncomputable def m7 (K:NO) (q:Str) (fd:Pu) (fn:BT.Fn):Prop:=∀ y,fn.ns.contains (BT.f6 y)=true->q=y/\y∈BT.gk ∧
 (∃ c P,Pe K y=some (c,P)/\fd.code=.ref c/\RT K c P=true/\∀ z∈BT.gk,∀ c2,Pe K z=some (c2,P)->z=y) ∧
 ∃ bm ob,Oz K Ob "__builtins__"=some (some (.ref bm))/\bm≠Qi/\K.lookup bm=some ob/\ob.cls=.type "module"/\ob.dict=some Qi/\ob.data=.plain
inductive JT (K:NO) (mg:Str->Option NS) (x:Str) (fn:BT.Fn):Prop where
 | mk (f:N2) (fd:Pu) (st:OR) (h1:mg x=some (.ref f)) (h2:Fun K x x st f fd) (h3:fB fn.ns fn.ps (cZ st)) (h4:Binds K fd fn.ps []) (h5:CSs (cZ st) fn.ns fn.body (dM st)) (h6:m7 K x fd fn):JT K mg x fn
structure Def (K:NO) (mg:Str->Option NS) (x:Str) (fn:BT.Fn):Prop where
 ex:JT K mg x fn
inductive D3 (K:NO) (mg:Str->Option NS) (c m:Str) (fn:BT.Fn):Prop where
 | mk (C f:N2) (fd:Pu) (x qual:Str) (st:OR) (h1:oB K c C) (h2:mg c=some (.ref C)) (h3:yb K C m f) (h4:(m="__init__"->Mk K C f)) (h5:Fun K x qual st f fd) (h6:fB fn.ns fn.ps (cZ st)) (h7:Binds K fd fn.ps []) (h8:CSs (cZ st) fn.ns fn.body (dM st)) (h9:m7 K qual fd fn):D3 K mg c m fn
structure GE (K:NO) (mg:Str->Option NS) (c m:Str) (fn:BT.Fn):Prop where
 ex:D3 K mg c m fn
structure Txt (P:Oc) (w:Oo) (K:NO) (mg:Str->Option NS) (T:BT.FK->Option BT.Fn) (G:Str->Option BT.W):Prop where
 defs:∀ x fn,T (.f x)=some fn->Def K mg x fn
 meths:∀ c m fn,T (.m c m)=some fn->GE K mg c m fn
 lams:∀ L fn,T (.l L)=some fn->BT.tE L=some fn/\∃ ns bt,fn=⟨ns,ns,.ret bt⟩/\∀ y,ns.contains (BT.f6 y)=false
 glob:∀ x z,G x=some z->∃ u v,mg x=some u/\RelV v u/\∀ m H,RW P w K m H v z
 blt:∀ x∈JF,mg x=none
theorem vj (e:BT.runN T G k x ws h=some r):∃ fn,T x=some fn:=by
 cases k with
 | zero=>exact cR e
 | succ k =>
  rw[BT.runN] at e
  cases q:T x with
  | none=>rw[q] at e;exact cR e
  | some fn=>exact ⟨fn,rfl⟩
theorem C3 {K:NO}{st:OR} (F:Fun K x qual st f fd) (S:fB N ps (cZ st)) (len:∀ vs H Q E,sp vs H Q E->vs.length=ps.length)
 (hbody:∀ (cdv:NS) (A:ON) (outer:List Env) (s:NT) (H:Hp) (vs:List V) (Q:VK) (E:XK),fd.code=cdv->eV k (A.deeper (TJ qual (cZ st) s.heap.objs.size f cdv))->Mod K mg base->sp vs H Q E →
  ∃ t,PSs (sJ CX0 P w K mg base N qual (cZ st) f cdv A outer s H E).nox (dM st) t/\t { nx:=fun _ H'=>Q .non H',rt:=Q } (L2.start N vs) H):gP P w K mg base CX0 (k+1) f fd ps sp:=by
 obtain ⟨oc,od,kV,doc,pm,an,cdv,ct,osl,rfl,lk,hcd⟩:=F.ex
 refine ⟨len,fun A outer s H args us vs Q E hr e0 hb r hs=>?_⟩
 have F1:gP P w K mg base CX0 (k+1) f (Pn x qual (fz st) (dM st) (cZ st) .none kV doc pm an cdv ct) ps sp:=Ii lk hcd S len fun A outer s H vs Q E hr hsp=>by
  obtain ⟨t,h,q⟩:=hbody cdv A outer s H vs Q E rfl hr e0.mod hsp
  exact ⟨t,h.nox,q⟩
 exact F1.run A outer s H args us vs Q E hr e0 hb r hs
theorem D4 {K:NO} (X:Txt P w K mg T G)
 (ih:∀ (x:BT.FK) (fn:BT.Fn),T x=some fn->∀ (f:N2) (fd:Pu) (nm qual:Str) (st:OR),Fun K nm qual st f fd->fB fn.ns fn.ps (cZ st)->CSs (cZ st) fn.ns fn.body (dM st)->m7 K qual fd fn->gP P w K mg base CX0 (2*k) f fd fn.ps (spF P w K (BT.runN T G k x)))
 (il:∀ L,(∃ fn,T (.l L)=some fn)->rA P w K mg base (2*k) L (BT.runN T G k (.l L)))
 (e1:Y.prog=P) (e2:Y.w=w) (e3:Y.K=K) (e4:Y.mg=mg) (e5:Y.base=base) (hsc:Y.env.scope=sc) (hN:Y.N=N) (nd:Y.N.Nodup) (ca:Y.calm=true) (hr:eV (2*k+1) Y.A) (own:PassesOwn (Oi Y.prog Y.w) Y.A Y.env Y.xe)
 (lx:(∀ x,Y.fn x=true)->∀ x,N.contains (BT.f6 x)=true->LX Y x):Ok Y (BT.runN T G k) G sc N:=by
 subst e1 e2 e3 e4 e5
 refine ⟨hsc,hN,nd,fun _=>ca,?_,own,X.glob,fun g ws h r e=>?_,fun c g ws h r e=>?_,fun c ws h r e=>?_,X.blt,fun L ws h r e=>⟨2*k,hr.mono (QI _),il L (vj e)⟩,lx⟩
 ·have:=hr.un
  lia
 ·obtain ⟨fn',hTg⟩:=vj e
  obtain ⟨f',fd',st',a1,a2,a3,a4,a5,a6⟩:=(X.defs g fn' hTg).ex
  exact ⟨f',fd',fn'.ps,2*k,a1,a2.kp,a4,hr.mono (QI _),ih _ fn' hTg f' fd' g g st' a2 a3 a5 a6⟩
 ·obtain ⟨fn',hTg⟩:=vj e
  obtain ⟨C,f',fd',x',q',st',b1,b2,b3,b4,a2,a3,a4,a5,a6⟩:=(X.meths c g fn' hTg).ex
  exact ⟨C,f',fd',fn'.ps,2*k,b1,b3,a4,hr.mono (QI _),ih _ fn' hTg f' fd' x' q' st' a2 a3 a5 a6⟩
 ·obtain ⟨fn',hTg⟩:=vj e
  obtain ⟨C,f',fd',x',q',st',b1,b2,b3,b4,a2,a3,a4,a5,a6⟩:=(X.meths c _ fn' hTg).ex
  exact ⟨C,f',fd',fn'.ps,2*k,b1,b2,b4 rfl,a4,hr,ih _ fn' hTg f' fd' x' q' st' a2 a3 a5 a6⟩
theorem C4 {K:NO} (X:Txt P w K mg T G) :
 ∀ (k:Nat),(∀ (x:BT.FK) (fn:BT.Fn),T x=some fn->∀ (f:N2) (fd:Pu) (nm qual:Str) (st:OR),Fun K nm qual st f fd->fB fn.ns fn.ps (cZ st)->CSs (cZ st) fn.ns fn.body (dM st)->m7 K qual fd fn->gP P w K mg base CX0 (2*k) f fd fn.ps (spF P w K (BT.runN T G k x))) ∧
  ∀ L,(∃ fn,T (.l L)=some fn)->rA P w K mg base (2*k) L (BT.runN T G k (.l L)):=by
 intro k
 induction k with
 | zero =>
  refine ⟨fun x fn hT f fd nm qual st h2 h3 h5 h6=>?_,fun L hL=>?_⟩
  ·have no:∀ vs H Q E,¬ spF P w K (BT.runN T G 0 x) vs H Q E:=fun vs H Q E h=>by
    obtain ⟨m,ws,h,z,h',_,_,e,_⟩:=h
    exact cR e
   exact ⟨fun vs H Q E h=>absurd h (no vs H Q E),fun A outer s H args us vs Q E _ _ _ _ h=>absurd h (no vs H Q E)⟩
  ·intro A outer s H f us vs cvs m ws cs h z h' Q E hr e0 rv R rw nc la rc e post
   exact cR e
 | succ k ihk =>
  obtain ⟨ih,il⟩:=ihk
  refine ⟨fun x fn hT f fd nm qual st h2 h3 h5 h6=>?_,fun L hL=>?_⟩
  ·show gP P w K mg base CX0 (2*k+1+1) f fd fn.ps (spF P w K (BT.runN T G (k+1) x))
   refine C3 h2 h3 (fun vs H Q E h=>?_) fun cdv A outer s H vs Q E hcd hr hM h=>?_
   ·obtain ⟨m,ws,h,z,h',R,r,e,post⟩:=h
    rw[BT.runN,hT] at e
    simp only at e
    split at e
    ·rename_i c;rw[r.length];exact c
    ·exact cR e
   ·obtain ⟨m,ws,h,z,h',R,r,e,post⟩:=h
    rw[BT.runN,hT] at e
    simp only at e
    split at e
    ·have O:Ok (sJ CX0 P w K mg base fn.ns qual (cZ st) f cdv A outer s H E).nox (BT.runN T G k) G (cZ st) fn.ns:=by
      refine D4 X ih il rfl rfl rfl rfl rfl rfl rfl h3.nd rfl hr RU fun _ y hy=>?_
      obtain ⟨t1,t2,⟨c,Pt,t3,t4,t5,t6⟩,bm,ob,t7,t8,t9,t10,t11,t12⟩:=h6 y hy
      exact ⟨t2,⟨c,Pt,t3,hcd.symm.trans t4,TQ hM.kin t5,t6⟩,by show qual++".<locals>."=_;rw[t1],bm,ob,PL hM.kin hM.glob t7,t8,hM.kin _ _ t9,t10,t11,t12⟩
     refine ⟨_,sSs O (fun _=>rfl) h5,?_⟩
     cases gg:BT.evS (BT.runN T G k) G fn.body (BT.gU fn.ns.length ws) h with
     | none=>rw[gg] at e;exact cR e
     | some fl =>
      rw[gg] at e
      refine ⟨m,_,h,fl,R,rN r,gg,?_⟩
      cases fl with
      | rt y g =>
       intro v H' m' x' R' r'
       obtain ⟨m2,y1,y2,y3⟩:=kK e R x' R' r'
       exact post v H' m2 y1 y2 y3
      | nx s' g =>
       intro σ' H' m' x' R' _
       obtain ⟨m2,y1,y2,y3⟩:=kK (v:=.non) e R x' R' (.p .non)
       exact post .non H' m2 y1 y2 y3
      | bk s' g=>exact cR e
      | ct s' g=>exact cR e
    ·exact cR e
  ·obtain ⟨fn,hT⟩:=hL
   obtain ⟨hl,ns,bt,rfl,nt⟩:=X.lams L fn hT
   show rA P w K mg base (2*k+1+1) L (BT.runN T G (k+1) (.l L))
   refine GD (F:=BT.runN T G k) (G:=G) hl (fun ws h r e=>?_) fun q sc cl f c' A outer s H nd hr=>D4 X ih il rfl rfl rfl rfl rfl rfl rfl nd rfl hr RU fun _ y hy=>absurd hy (by rw[nt y];decide)
   rw[BT.runN,hT] at e
   simp only at e
   split at e
   ·rename_i c;exact ⟨c,e⟩
   ·exact cR e
theorem GF {K:NO} (X:Txt P w K mg T G) (k:Nat) (x:BT.FK) (fn:BT.Fn) (hT:T x=some fn) (f:N2) (fd:Pu) (nm qual:Str) (st:OR) (h2:Fun K nm qual st f fd) (h3:fB fn.ns fn.ps (cZ st)) (h5:CSs (cZ st) fn.ns fn.body (dM st)) (h6:m7 K qual fd fn) :
 gP P w K mg base CX0 (2*k) f fd fn.ps (spF P w K (BT.runN T G k x)):=(C4 X k).1 x fn hT f fd nm qual st h2 h3 h5 h6
end BS
end
section
namespace BT
open PySem
noncomputable def g9:Fn:=⟨["thing"],["thing"],
 (.ret (.cmp .mem (.var 0) (.glo "LETTERS")))⟩
theorem vm:NR s=NR t↔s=t:=by
 constructor
 ·intro h
  rw[Rg,Rg] at h
  have h1:(s.toList.map Tt)=(t.toList.map Tt):=by
   have:=congrArg (fun x:Str=>x.cps.toList) h
   simpa using this
  have inj:∀ (a b:List Char),a.map Tt=b.map Tt->a=b:=by
   intro a
   induction a with
   | nil=>intro b h;cases b with
    | nil=>rfl
    | cons _ _=>simp at h
   | cons x xs ih=>intro b h;cases b with
    | nil=>simp at h
    | cons y ys =>
     simp only[OA,QB] at h
     have:x=y:=Char.toNat_inj.mp h.1
     rw[this,ih ys h.2]
  have h2:=inj _ _ h1
  exact String.toList_inj.mp h2
 ·intro h;rw[h]
@[simp] theorem K9 (s t:String):(NR s==NR t)=(s==t):=by
 by_cases h:s=t
 ·subst h;simp
 ·have h1:¬ NR s=NR t:=fun e=>h (vm.mp e)
  rw[beq_eq_false_iff_ne.mpr h1,beq_eq_false_iff_ne.mpr h]
@[simp] theorem MM (s t:String):(NR s=NR t)=(s=t):=propext vm
@[simp] theorem NG (h:List α) (a:α) (r:List α):(h++a :: r)[h.length]?=some a:=by simp
@[simp] theorem JU (h:List α) (a b:α) (r:List α):(h++a :: b :: r)[h.length+1]?=some b:=by
 rw[Os (by lia)];simp
@[simp] theorem NH (h:List α) (a x:α) (r:List α):(h++a :: r).set h.length x=h++x :: r:=by simp
@[simp] theorem NI (h:List α) (a b x:α) (r:List α):(h++a :: b :: r).set (h.length+1) x=h++a :: x :: r:=by
 rw[List.set_append_right _ _ (by lia)];simp
theorem cS (h:HH) (w:W):fin h w h=some (w,h):=by simp[fin]
theorem oM (h g:HH) (d:D):fin h (.p d) (h++g)=some (.p d,h):=by
 unfold fin
 cases g with
 | nil=>simp
 | cons c g=>simp
@[simp] theorem NJ (h:HH) (a:Cl) (r:HH):lat (h++a :: r) h.length=qR a:=by simp[lat]
@[simp] theorem NK (h:HH) (a b:Cl) (r:HH):lat (h++a :: b :: r) (h.length+1)=qR b:=by
 unfold lat;rw[JU];rfl
@[simp] theorem NL (h:HH) (a:Cl) (r:HH):oat (h++a :: r) h.length=qS a:=by simp[oat]
@[simp] theorem NN (h:HH) (a b:Cl) (r:HH):oat (h++a :: b :: r) (h.length+1)=qS b:=by
 unfold oat;rw[JU];rfl
inductive Op where
 | add | sub | mul | less
noncomputable def Op.w:Op->String
 | .add=>"add" | .sub=>"sub" | .mul=>"mul" | .less=>"less"
inductive Nm where
 | a | b | c | d | e | f
noncomputable def Nm.w:Nm->String
 | .a=>"a" | .b=>"b" | .c=>"c" | .d=>"d" | .e=>"e" | .f=>"f"
noncomputable def Nm.ix:Nm->Nat
 | .a=>0 | .b=>1 | .c=>2 | .d=>3 | .e=>4 | .f=>5
inductive Sm where
 | num (n:Int)
 | nam (i:Nm)
 | cell (s:Sm)
 | two (o:Op) (s t:Sm)
noncomputable def Sm.enc:Sm->D
 | .num n=>.tup [.str "num",.int n]
 | .nam i=>.tup [.str "name",.str i.w]
 | .cell s=>.tup [.str "cell",s.enc]
 | .two o s t=>.tup [.str o.w,s.enc,t.enc]
noncomputable def Sm.size:Sm->Nat
 | .num _=>1
 | .nam _=>1
 | .cell s=>s.size+1
 | .two _ s t=>s.size+t.size+1
noncomputable def Wth (n:Int):Prop:=0<=n/\n<=10006
noncomputable def Sm.ok:Sm->Prop
 | .num n=>Wth n
 | .nam _=>True
 | .cell s=>s.ok
 | .two _ s t=>s.ok/\t.ok
theorem Sm.size_pos (s:Sm):1<=s.size:=by cases s<;>simp[Sm.size]
structure St where
 row:Nat
 names:List Int
 cells:List Int
 calls:List Nat
 asked:Nat
 said:List Int
noncomputable def c7 (xs:List Int):List D:=xs.map D.int
noncomputable def JV (xs:List Nat):List D:=xs.map fun (n:Nat)=>D.int (n:Int)
noncomputable def St.enc (s:St):D:=.tup [.int s.row,.tup (c7 s.names),.tup (c7 s.cells),.tup (JV s.calls),.int s.asked,.tup (c7 s.said)]
structure St.ok (s:St):Prop where
 nlen:s.names.length=6
 clen:s.cells.length=4
 nw:∀ x∈s.names,Wth x
 cw:∀ x∈s.cells,Wth x
noncomputable def two (o:Op) (x y:Int):Int:=match o with
 | .add=>(x+y) % 10007
 | .sub=>(x - y) % 10007
 | .mul=>(x*y) % 10007
 | .less=>if x < y then 1 else 0
noncomputable def Sm.val (st:St):Sm->Int
 | .num n=>n
 | .nam i=>st.names.getD i.ix 0
 | .cell s=>st.cells.getD (s.val st % 4).toNat 0
 | .two o s t=>BT.two o (s.val st) (t.val st)
section
noncomputable def C5:List D:=[.str "a",.str "b",.str "c",.str "d",.str "e",.str "f"]
theorem C6 (x:Nm):eS .mem (.str x.w) (.tup C5)=some true:=by cases x<;>simp[C5,Nm.w]
end
section
variable {T:FK->Option Fn}{F:FK->List W->HH->Option (W×HH)}{G:Str->Option W}{i:Nat}{e e' c:E}{a b:S}{s s':Sl}{h g:HH}{w:W}{d d' z:D}
end
section
theorem jW (xs:List α) (i:Nat):atP xs (i:Int)=xs[i]?:=by
 unfold atP place
 by_cases h:i < xs.length
 ·have h1:((i:Int) < (xs.length:Int)):=by lia
  simp[h1,h]
 ·have h1:¬ ((i:Int) < (xs.length:Int)):=by lia
  simp[h1];lia
inductive Rw where
 | set (x:Nm) (s:Sm) | put (s t:Sm) | ask (x:Nm) | say (s:Sm) | jump (p:Nat) | unless (s:Sm) (p:Nat) | call (p:Nat) | back | stop
noncomputable def Rw.enc:Rw->D
 | .set x s=>.tup [.str "set",.str x.w,s.enc]
 | .put s t=>.tup [.str "put",s.enc,t.enc]
 | .ask x=>.tup [.str "ask",.str x.w]
 | .say s=>.tup [.str "say",s.enc]
 | .jump p=>.tup [.str "jump",.int p]
 | .unless s p=>.tup [.str "unless",s.enc,.int p]
 | .call p=>.tup [.str "call",.int p]
 | .back=>.tup [.str "back"]
 | .stop=>.tup [.str "stop"]
noncomputable def m8 (s:Sm):Prop:=s.ok/\s.size<=15
noncomputable def Rw.ok (n:Nat):Rw->Prop
 | .set _ s=>m8 s
 | .put s t=>m8 s/\m8 t
 | .ask _=>True
 | .say s=>m8 s
 | .jump p=>p<=n
 | .unless s p=>m8 s/\p<=n
 | .call p=>p<=n
 | .back=>True
 | .stop=>True
noncomputable abbrev Pg:=List Rw
noncomputable def dZ (p:Pg):D:=.tup (p.map Rw.enc)
noncomputable def Pg.ok (p:Pg):Prop:=∀ r∈p,r.ok p.length
noncomputable def Rw.next (asked:List Int) (st:St):Rw->St
 | .set x s=>{ st with row:=st.row+1,names:=st.names.set x.ix (s.val st) }
 | .put s t=>{ st with row:=st.row+1,cells:=st.cells.set (s.val st % 4).toNat (t.val st) }
 | .ask x=>{ st with row:=st.row+1,names:=st.names.set x.ix (asked.getD st.asked 0),asked:=st.asked+1 }
 | .say s=>{ st with row:=st.row+1,said:=st.said++[s.val st] }
 | .jump p=>{ st with row:=p }
 | .unless s p=>{ st with row:=if s.val st=0 then p else st.row+1 }
 | .call p=>{ st with row:=p,calls:=st.calls++[st.row+1] }
 | .back=>{ st with row:=st.calls.getLast?.getD 0,calls:=st.calls.dropLast }
 | .stop=>st
noncomputable def Rw.over (st:St):Rw->Bool
 | .back=>st.calls.length==0
 | .call _=>decide (6<=st.calls.length)
 | .stop=>true
 | _=>false
noncomputable def over (p:Pg) (st:St):Bool:=match p[st.row]? with
 | some r=>r.over st
 | none=>true
noncomputable def step (p:Pg) (asked:List Int) (st:St):St:=match p[st.row]? with
 | some r=>r.next asked st
 | none=>st
noncomputable def St.zero:St:=⟨0,[0,0,0,0,0,0],[0,0,0,0],[],0,[]⟩
noncomputable def sts (p:Pg) (asked:List Int):Nat->St->List St
 | 0,st=>[st]
 | n+1,st=>if over p st then [st] else st :: sts p asked n (step p asked st)
noncomputable def Rw.word:Rw->String
 | .set _ _=>"set" | .put _ _=>"put" | .ask _=>"ask" | .say _=>"say" | .jump _=>"jump" | .unless _ _=>"unless" | .call _=>"call" | .back=>"back" | .stop=>"stop"
theorem zX (xs:List Int):(c7 xs).length=xs.length:=by simp[c7]
end
section
end
noncomputable def fH:Fn:=⟨["_law_script","_law_k"],["_law_script","_law_k"],
 (.seq (.ife (.cmp .eq (.var 0) (.lst false .nil)) (.ret (.bin .mul (.cst (.int 7)) (.var 1))) .nil)
 (.ret (.bin .add (.idx (.var 0) (.bin .mod (.var 1) (.bi .len false (.cons (.var 0) .nil)))) (.bin .mul (.cst (.int 6553)) (.bin .fdiv (.var 1) (.bi .len false (.cons (.var 0) .nil)))))))⟩
noncomputable def fQ:Fn:=⟨["_law_script","_law_k","_law_many"],["_law_script","_law_k","_law_many","_law_cell_here"],
 (.seq (.set 3 (.bin .mod (.bin .add (.bin .mul (.bin .mod (.call "_law_cell" (.cons (.var 0) (.cons (.var 1) .nil))) (.cst (.int 2147483563))) (.cst (.int 69069))) (.bin .mul (.cst (.int 104723)) (.bin .add (.var 1) (.cst (.int 1))))) (.cst (.int 2147483563))))
 (.seq (.set 3 (.bin .mod (.bin .add (.bin .mul (.var 3) (.var 3)) (.bin .fdiv (.var 3) (.cst (.int 3)))) (.cst (.int 2147483399))))
 (.ret (.bin .mod (.bin .fdiv (.bin .mod (.bin .add (.bin .mul (.var 3) (.var 3)) (.bin .fdiv (.var 3) (.cst (.int 7)))) (.cst (.int 2147483647))) (.cst (.int 11))) (.var 2)))))⟩
noncomputable def smL:S:=(.seq (.ife (.cmp .eq (.call "_law_drawn" (.cons (.var 0) (.cons (.bin .add (.var 1) (.cst (.int 1))) (.cons (.cst (.int 2)) .nil)))) (.cst (.int 0))) (.ret (.tup (.cons (.cst (.str "num")) (.cons (.idx (.lst false (.cons (.cst (.int 0)) (.cons (.cst (.int 1)) (.cons (.cst (.int 2)) (.cons (.cst (.int 3)) (.cons (.cst (.int 10)) (.cons (.cst (.int 10006)) .nil))))))) (.call "_law_drawn" (.cons (.var 0) (.cons (.bin .add (.var 1) (.cst (.int 2))) (.cons (.cst (.int 6)) .nil))))) .nil)))) .nil)
 (.ret (.tup (.cons (.cst (.str "name")) (.cons (.idx (.cst (.str "abcf")) (.call "_law_drawn" (.cons (.var 0) (.cons (.bin .add (.var 1) (.cst (.int 2))) (.cons (.cst (.int 4)) .nil))))) .nil)))))
noncomputable def smR:S:=(.seq (.set 4 (.call "_law_sum" (.cons (.var 0) (.cons (.bin .add (.bin .mul (.var 1) (.cst (.int 2))) (.cst (.int 5))) (.cons (.bin .sub (.var 2) (.cst (.int 1))) .nil)))))
 (.seq (.ife (.cmp .lt (.var 3) (.cst (.int 6))) (.ret (.tup (.cons (.cst (.str "cell")) (.cons (.var 4) .nil)))) .nil)
 (.ret (.tup (.cons (.idx (.lst false (.cons (.cst (.str "add")) (.cons (.cst (.str "sub")) (.cons (.cst (.str "mul")) (.cons (.cst (.str "less")) .nil))))) (.bin .sub (.var 3) (.cst (.int 6)))) (.cons (.var 4) (.cons (.call "_law_sum" (.cons (.var 0) (.cons (.bin .add (.bin .mul (.var 1) (.cst (.int 2))) (.cst (.int 19))) (.cons (.bin .sub (.var 2) (.cst (.int 1))) .nil)))) .nil)))))))
noncomputable def eZ:Fn:=⟨["_law_script","_law_at","_law_deep"],["_law_script","_law_at","_law_deep","_law_way","_law_one"],
 (.seq (.set 3 (.call "_law_drawn" (.cons (.var 0) (.cons (.var 1) (.cons (.cst (.int 10)) .nil)))))
 (.seq (.ife (.or (.cmp .eq (.var 2) (.cst (.int 0))) (.cmp .lt (.var 3) (.cst (.int 4)))) smL .nil)
 smR))⟩
noncomputable def ig:Fn:=⟨["_law_script","_law_at","_law_size"],["_law_script","_law_at","_law_size","_law_way","_law_place","_law_name","_law_one"],
 (.seq (.set 3 (.call "_law_drawn" (.cons (.var 0) (.cons (.var 1) (.cons (.cst (.int 16)) .nil)))))
 (.seq (.set 4 (.call "_law_drawn" (.cons (.var 0) (.cons (.bin .add (.var 1) (.cst (.int 1))) (.cons (.bin .add (.var 2) (.cst (.int 1))) .nil)))))
 (.seq (.set 5 (.idx (.cst (.str "abc")) (.call "_law_drawn" (.cons (.var 0) (.cons (.bin .add (.var 1) (.cst (.int 2))) (.cons (.cst (.int 3)) .nil))))))
 (.seq (.set 6 (.call "_law_sum" (.cons (.var 0) (.cons (.bin .add (.var 1) (.cst (.int 3))) (.cons (.cst (.int 2)) .nil)))))
 (.seq (.ife (.cmp .lt (.var 3) (.cst (.int 5))) (.ret (.tup (.cons (.cst (.str "set")) (.cons (.var 5) (.cons (.var 6) .nil))))) .nil)
 (.seq (.ife (.cmp .lt (.var 3) (.cst (.int 7))) (.ret (.tup (.cons (.cst (.str "put")) (.cons (.call "_law_sum" (.cons (.var 0) (.cons (.bin .add (.var 1) (.cst (.int 9))) (.cons (.cst (.int 1)) .nil)))) (.cons (.var 6) .nil))))) .nil)
 (.seq (.ife (.cmp .lt (.var 3) (.cst (.int 9))) (.ret (.idx (.lst false (.cons (.tup (.cons (.cst (.str "ask")) (.cons (.var 5) .nil))) (.cons (.tup (.cons (.cst (.str "say")) (.cons (.var 6) .nil))) .nil))) (.bin .sub (.var 3) (.cst (.int 7))))) .nil)
 (.seq (.ife (.cmp .lt (.var 3) (.cst (.int 12))) (.ret (.idx (.lst false (.cons (.tup (.cons (.cst (.str "jump")) (.cons (.var 4) .nil))) (.cons (.tup (.cons (.cst (.str "unless")) (.cons (.var 6) (.cons (.var 4) .nil)))) (.cons (.tup (.cons (.cst (.str "unless")) (.cons (.tup (.cons (.cst (.str "name")) (.cons (.var 5) .nil))) (.cons (.var 4) .nil)))) .nil)))) (.bin .sub (.var 3) (.cst (.int 9))))) .nil)
 (.ret (.idx (.lst false (.cons (.tup (.cons (.cst (.str "call")) (.cons (.var 4) .nil))) (.cons (.tup (.cons (.cst (.str "call")) (.cons (.var 4) .nil))) (.cons (.tup (.cons (.cst (.str "back")) .nil)) (.cons (.idx (.lst false (.cons (.tup (.cons (.cst (.str "stop")) .nil)) (.cons (.tup (.cons (.cst (.str "back")) .nil)) .nil))) (.bin .mod (.var 4) (.cst (.int 2)))) .nil))))) (.bin .sub (.var 3) (.cst (.int 12)))))))))))))⟩
noncomputable def eg:Fn:=⟨["_law_script","_law_at"],["_law_script","_law_at","_law_size","_law_put","_law_sign","_law_rows"],
 (.seq (.set 2 (.bin .add (.cst (.int 1)) (.call "_law_drawn" (.cons (.var 0) (.cons (.var 1) (.cons (.cst (.int 9)) .nil))))))
 (.seq (.ife (.cmp .eq (.call "_law_drawn" (.cons (.var 0) (.cons (.bin .add (.var 1) (.cst (.int 1))) (.cons (.cst (.int 4)) .nil)))) (.cst (.int 0))) (.seq (.set 3 (.tup (.cons (.cst (.str "put")) (.cons (.tup (.cons (.cst (.str "name")) (.cons (.cst (.str "a")) .nil))) (.cons (.tup (.cons (.cst (.str "num")) (.cons (.call "_law_drawn" (.cons (.var 0) (.cons (.bin .add (.var 1) (.cst (.int 2))) (.cons (.cst (.int 9)) .nil)))) .nil))) .nil)))))
 (.seq (.set 4 (.idx (.lst false (.cons (.cst (.str "add")) (.cons (.cst (.str "sub")) .nil))) (.call "_law_drawn" (.cons (.var 0) (.cons (.bin .add (.var 1) (.cst (.int 3))) (.cons (.cst (.int 2)) .nil))))))
 (.seq (.set 5 (.tup (.cons (.tup (.cons (.cst (.str "ask")) (.cons (.cst (.str "a")) .nil))) (.cons (.tup (.cons (.cst (.str "call")) (.cons (.cst (.int 4)) .nil))) (.cons (.tup (.cons (.cst (.str "say")) (.cons (.tup (.cons (.cst (.str "name")) (.cons (.cst (.str "a")) .nil))) .nil))) (.cons (.tup (.cons (.cst (.str "jump")) (.cons (.cst (.int 0)) .nil))) (.cons (.var 3) .nil)))))))
 (.ret (.bin .add (.var 5) (.tup (.cons (.tup (.cons (.cst (.str "call")) (.cons (.cst (.int 7)) .nil))) (.cons (.tup (.cons (.cst (.str "back")) .nil)) (.cons (.tup (.cons (.cst (.str "set")) (.cons (.cst (.str "b")) (.cons (.tup (.cons (.var 4) (.cons (.tup (.cons (.cst (.str "name")) (.cons (.cst (.str "b")) .nil))) (.cons (.tup (.cons (.cst (.str "name")) (.cons (.cst (.str "a")) .nil))) .nil)))) .nil)))) (.cons (.tup (.cons (.cst (.str "back")) .nil)) .nil)))))))))) .nil)
 (.ret (.bi .tuple false (.cons (.comp false .rng1 (.cons (.var 2) .nil) ["_law_k"] [(0,"_law_script"),(1,"_law_at"),(2,"_law_size")] .nil (.call "_law_row" (.cons (.var 1) (.cons (.bin .add (.bin .add (.var 2) (.cst (.int 10))) (.bin .mul (.cst (.int 40)) (.var 0))) (.cons (.var 3) .nil))))) .nil)))))⟩
noncomputable def iw:Fn:=⟨["_law_script","_law_at"],["_law_script","_law_at"],
 (.ret (.comp false .rng1 (.cons (.call "_law_drawn" (.cons (.var 0) (.cons (.var 1) (.cons (.cst (.int 4)) .nil)))) .nil) ["_law_k"] [(0,"_law_script"),(1,"_law_at")] .nil (.idx (.lst false (.cons (.cst (.int 0)) (.cons (.cst (.int 1)) (.cons (.cst (.int 5)) (.cons (.cst (.int 10006)) .nil))))) (.call "_law_drawn" (.cons (.var 1) (.cons (.bin .add (.bin .add (.var 2) (.cst (.int 1))) (.var 0)) (.cons (.cst (.int 4)) .nil)))))))⟩
structure Lw (T:FK->Option Fn):Prop where
 cell:T "_law_cell"=some fH
 drawn:T "_law_drawn"=some fQ
 sum:T "_law_sum"=some eZ
 row:T "_law_row"=some ig
 asked:T "_law_asked"=some iw
noncomputable def vn (ns:List Int) (k:Int):Int:=if ns=[] then 7*k else ns.getD (k % ns.length).toNat 0+6553*(k / ns.length)
noncomputable def drw (ns:List Int) (k many:Int):Int :=
 let a:=(vn ns k % 2147483563*69069+104723*(k+1)) % 2147483563
 let b:=(a*a+a / 3) % 2147483399
 (b*b+b / 7) % 2147483647 / 11 % many
theorem fM (ns:List Int) (k:Int) (h:0 < many):0<=drw ns k many:=Int.emod_nonneg _ (by lia)
theorem fN (ns:List Int) (k:Int) (h:0 < many):drw ns k many < many:=Int.emod_lt_of_pos _ h
theorem oN (h0:0<=i) (h1:i < 18446744073709551616):big i=true:=by
 unfold big;exact decide_eq_true (by lia)
section
theorem C7 (ns:List Int):eqv (.lst (c7 ns)) (.lst [])=decide (ns=[]):=by
 cases ns<;>simp[c7]
theorem zY (L:Lw T) (m:Nat) (ns:List Int) (hl:ns.length<=1000) (k:Int) (h:HH):runN T G (m+1) "_law_cell" [.p (.lst (c7 ns)),.p (.int k)] h=some (.p (.int (vn ns k)),h):=by
 rw[run_eq L.cell rfl]
 by_cases c:ns=[]
 ·subst c
  simp[fH,c7,vn,big,cS]
 ·have n0:0 < ns.length:=List.length_pos_iff.mpr c
  have q:eqv (.lst (c7 ns)) (.lst [])=false:=by rw[C7];exact decide_eq_false c
  have p1:(0:Int) < (ns.length:Int):=by lia
  have p2:(ns.length:Int) < 1073741824:=by lia
  have m1:=Int.emod_nonneg k (b:=(ns.length:Int)) (by lia)
  have m2:=Int.emod_lt_of_pos k p1
  have i1:(k % (ns.length:Int)).toNat < ns.length:=by lia
  have n2:ns.length < 1073741824:=by lia
  simp[fH,-eqv,q,zX,p1,p2,n0,n2,m1,m2,big,cS,vn,c]
  simp[c7,i1,cS,n0,n2,m1,m2,big,p1,p2]
theorem fY (L:Lw T) (m:Nat) (ns:List Int) (hl:ns.length<=1000) (k many:Int) (hm:0 < many) (h:HH) :
 runN T G (m+2) "_law_drawn" [.p (.lst (c7 ns)),.p (.int k),.p (.int many)] h=some (.p (.int (drw ns k many)),h):=by
 rw[run_eq L.drawn rfl]
 have r:=zY (G:=G) L m ns hl k
 have b0:big 69069=true:=by decide
 have b1:big 104723=true:=by decide
 have b2:∀ x:Int,big (x % 2147483563)=true:=fun x=>oN (by lia) (by lia)
 have b3:∀ x:Int,big (x % 2147483399)=true:=fun x=>oN (by lia) (by lia)
 simp[fQ,r,b0,b1,b2,b3,cS,hm,drw]
theorem qh:NR "abcf"=⟨#[97,98,99,102]⟩:=by decide +kernel
theorem zZ:NR "abc"=⟨#[97,98,99]⟩:=by decide +kernel
theorem o_a:NR "a"=⟨#[97]⟩:=by decide +kernel
theorem o_b:NR "b"=⟨#[98]⟩:=by decide +kernel
theorem o_c:NR "c"=⟨#[99]⟩:=by decide +kernel
theorem o_f:NR "f"=⟨#[102]⟩:=by decide +kernel
theorem vo (i:Int) (h0:0<=i) (h1:i < 4):∃ x:Nm,fq (.str "abcf") (.int i)=some (.str x.w):=by
 have:i=0\/i=1\/i=2\/i=3:=by lia
 rcases this with rfl | rfl | rfl | rfl
 ·exact ⟨.a,by rw[Nm.w,qh,o_a];rfl⟩
 ·exact ⟨.b,by rw[Nm.w,qh,o_b];rfl⟩
 ·exact ⟨.c,by rw[Nm.w,qh,o_c];rfl⟩
 ·exact ⟨.f,by rw[Nm.w,qh,o_f];rfl⟩
theorem GG (i:Int) (h0:0<=i) (h1:i < 3):∃ x:Nm,fq (.str "abc") (.int i)=some (.str x.w):=by
 have:i=0\/i=1\/i=2:=by lia
 rcases this with rfl | rfl | rfl
 ·exact ⟨.a,by rw[Nm.w,zZ,o_a];rfl⟩
 ·exact ⟨.b,by rw[Nm.w,zZ,o_b];rfl⟩
 ·exact ⟨.c,by rw[Nm.w,zZ,o_c];rfl⟩
theorem vp (i:Int) (h0:0<=i) (h1:i < 6):∃ n:Int,Wth n/\fq (.lst [.int 0,.int 1,.int 2,.int 3,.int 10,.int 10006]) (.int i)=some (.int n):=by
 have:i=0\/i=1\/i=2\/i=3\/i=4\/i=5:=by lia
 rcases this with rfl | rfl | rfl | rfl | rfl | rfl
 ·exact ⟨0,⟨by decide,by decide⟩,rfl⟩
 ·exact ⟨1,⟨by decide,by decide⟩,rfl⟩
 ·exact ⟨2,⟨by decide,by decide⟩,rfl⟩
 ·exact ⟨3,⟨by decide,by decide⟩,rfl⟩
 ·exact ⟨10,⟨by decide,by decide⟩,rfl⟩
 ·exact ⟨10006,⟨by decide,by decide⟩,rfl⟩
theorem GH (i:Int) (h0:0<=i) (h1:i < 4):∃ o:Op,fq (.lst [.str "add",.str "sub",.str "mul",.str "less"]) (.int i)=some (.str o.w):=by
 have:i=0\/i=1\/i=2\/i=3:=by lia
 rcases this with rfl | rfl | rfl | rfl
 ·exact ⟨.add,rfl⟩
 ·exact ⟨.sub,rfl⟩
 ·exact ⟨.mul,rfl⟩
 ·exact ⟨.less,rfl⟩
theorem z9 (L:Lw T) (ns:List Int) (hl:ns.length<=1000) (p n:Int) (k:Nat) (rest:Sl) (h:HH) (c:drw ns (p+1) 2=0) (en:fq (.lst [.int 0,.int 1,.int 2,.int 3,.int 10,.int 10006]) (.int (drw ns (p+2) 6))=some (.int n)) :
 evS (runN T G (k+2)) G smL (some (.p (.lst (c7 ns))) :: some (.p (.int p)) :: rest) h=some (.rt (.p (Sm.num n).enc) h):=by
 have dr:=fun q many (hm:0 < many)=>fY (G:=G) L k ns hl q many hm
 simp[-ef,-iM,smL,dr,c,en,Sm.enc]
theorem Aa (L:Lw T) (ns:List Int) (hl:ns.length<=1000) (p:Int) (x:Nm) (k:Nat) (rest:Sl) (h:HH) (c:¬ drw ns (p+1) 2=0) (ex:fq (.str "abcf") (.int (drw ns (p+2) 4))=some (.str x.w)) :
 evS (runN T G (k+2)) G smL (some (.p (.lst (c7 ns))) :: some (.p (.int p)) :: rest) h=some (.rt (.p (Sm.nam x).enc) h):=by
 have dr:=fun q many (hm:0 < many)=>fY (G:=G) L k ns hl q many hm
 simp[-ef,-iM,smL,dr,c,ex,Sm.enc]
theorem lP (L:Lw T) (ns:List Int) (hl:ns.length<=1000):∀ (deep:Nat) (p:Int),∃ s:Sm,s.ok/\s.size+1<=2 ^ (deep+1)/\∀ (m:Nat) (h:HH),
 runN T G (m+deep+3) "_law_sum" [.p (.lst (c7 ns)),.p (.int p),.p (.int deep)] h=some (.p s.enc,h):=by
 intro deep
 induction deep with
 | zero =>
  intro p
  have dr:=fun m q many (hm:0 < many)=>fY (G:=G) L m ns hl q many hm
  obtain ⟨x,ex⟩:=vo (drw ns (p+2) 4) (fM _ _ (by decide)) (fN _ _ (by decide))
  obtain ⟨n,hn,en⟩:=vp (drw ns (p+2) 6) (fM _ _ (by decide)) (fN _ _ (by decide))
  have key:∀ (s:Sm) (m:Nat) (h:HH),(∀ rest,evS (runN T G (m+2)) G smL (some (.p (.lst (c7 ns))) :: some (.p (.int p)) :: rest) h=some (.rt (.p s.enc) h))->runN T G (m+0+3) "_law_sum" [.p (.lst (c7 ns)),.p (.int p),.p (.int ((0:Nat):Int))] h=some (.p s.enc,h):=fun s m h q=>by
   rw[run_eq L.sum rfl]
   simp[eZ,dr,q,cS]
  by_cases c:drw ns (p+1) 2=0
  ·exact ⟨.num n,hn,by simp[Sm.size],fun m h=>key _ m h fun rest=>z9 L ns hl p n m rest h c en⟩
  ·exact ⟨.nam x,trivial,by simp[Sm.size],fun m h=>key _ m h fun rest=>Aa L ns hl p x m rest h c ex⟩
 | succ deep ih =>
  intro p
  have dr:=fun m q many (hm:0 < many)=>fY (G:=G) L m ns hl q many hm
  obtain ⟨x,ex⟩:=vo (drw ns (p+2) 4) (fM _ _ (by decide)) (fN _ _ (by decide))
  obtain ⟨n,hn,en⟩:=vp (drw ns (p+2) 6) (fM _ _ (by decide)) (fN _ _ (by decide))
  obtain ⟨s,so,ss,sr0⟩:=ih (p*2+5)
  obtain ⟨t,to,tt,tr0⟩:=ih (p*2+19)
  have ee:∀ m,m+(deep+1)+2=m+deep+3:=fun m=>by lia
  have sr:=fun m h=>(ee m).symm ▸ sr0 m h
  have tr:=fun m h=>(ee m).symm ▸ tr0 m h
  have d0:¬ ((deep:Int)+1=0):=by lia
  have d1:((deep:Int)+1 - 1)=deep:=by lia
  have b2:big 2=true:=by decide
  have w0:=fM ns p (many:=10) (by decide)
  have w1:=fN ns p (many:=10) (by decide)
  have pw:2 ^ (deep+1+1)=2 ^ (deep+1)+2 ^ (deep+1):=by lia
  by_cases c1:drw ns p 10 < 4
  ·have key:∀ (s:Sm) (m:Nat) (h:HH),(∀ rest,evS (runN T G (m+deep+1+2)) G smL (some (.p (.lst (c7 ns))) :: some (.p (.int p)) :: rest) h=some (.rt (.p s.enc) h))->runN T G (m+(deep+1)+3) "_law_sum" [.p (.lst (c7 ns)),.p (.int p),.p (.int ((deep+1:Nat):Int))] h=some (.p s.enc,h):=fun s m h q=>by
    rw[run_eq L.sum rfl]
    have dq:=dr (m+(deep+1))
    have q:∀ rest,evS (runN T G (m+(deep+1)+2)) G smL (some (.p (.lst (c7 ns))) :: some (.p (.int p)) :: rest) h=some (.rt (.p s.enc) h):=q
    simp[eZ,dq,c1,d0,q,cS]
   by_cases c:drw ns (p+1) 2=0
   ·exact ⟨.num n,hn,by simp only[Sm.size];lia,fun m h=>key _ m h fun rest=>z9 L ns hl p n (m+deep+1) rest h c en⟩
   ·exact ⟨.nam x,trivial,by simp only[Sm.size];lia,fun m h=>key _ m h fun rest=>Aa L ns hl p x (m+deep+1) rest h c ex⟩
  ·by_cases c2:drw ns p 10 < 6
   ·refine ⟨.cell s,so,by simp only[Sm.size];lia,fun m h=>?_⟩
    rw[run_eq L.sum rfl]
    simp[-ef,-iM,eZ,smR,dr,c1,c2,d0,d1,b2,sr,cS,Sm.enc]
   ·obtain ⟨o,eo⟩:=GH (drw ns p 10 - 6) (by lia) (by lia)
    refine ⟨.two o s t,⟨so,to⟩,by simp only[Sm.size];lia,fun m h=>?_⟩
    rw[run_eq L.sum rfl]
    simp[-ef,-iM,eZ,smR,dr,c1,c2,d0,d1,b2,sr,tr,eo,cS,Sm.enc]
end
noncomputable def D5:S:=(.ret (.idx (.lst false (.cons (.tup (.cons (.cst (.str "call")) (.cons (.var 4) .nil))) (.cons (.tup (.cons (.cst (.str "call")) (.cons (.var 4) .nil))) (.cons (.tup (.cons (.cst (.str "back")) .nil)) (.cons (.idx (.lst false (.cons (.tup (.cons (.cst (.str "stop")) .nil)) (.cons (.tup (.cons (.cst (.str "back")) .nil)) .nil))) (.bin .mod (.var 4) (.cst (.int 2)))) .nil))))) (.bin .sub (.var 3) (.cst (.int 12)))))
noncomputable def rA3:S:=(.ret (.idx (.lst false (.cons (.tup (.cons (.cst (.str "jump")) (.cons (.var 4) .nil))) (.cons (.tup (.cons (.cst (.str "unless")) (.cons (.var 6) (.cons (.var 4) .nil)))) (.cons (.tup (.cons (.cst (.str "unless")) (.cons (.tup (.cons (.cst (.str "name")) (.cons (.var 5) .nil))) (.cons (.var 4) .nil)))) .nil)))) (.bin .sub (.var 3) (.cst (.int 9)))))
noncomputable def Ab:S:=(.seq (.ife (.cmp .lt (.var 3) (.cst (.int 12))) rA3 .nil) D5)
noncomputable def rA2:S:=(.ret (.idx (.lst false (.cons (.tup (.cons (.cst (.str "ask")) (.cons (.var 5) .nil))) (.cons (.tup (.cons (.cst (.str "say")) (.cons (.var 6) .nil))) .nil))) (.bin .sub (.var 3) (.cst (.int 7)))))
noncomputable def vq:S:=(.seq (.ife (.cmp .lt (.var 3) (.cst (.int 9))) rA2 .nil) Ab)
noncomputable def rA1:S:=(.ret (.tup (.cons (.cst (.str "put")) (.cons (.call "_law_sum" (.cons (.var 0) (.cons (.bin .add (.var 1) (.cst (.int 9))) (.cons (.cst (.int 1)) .nil)))) (.cons (.var 6) .nil)))))
noncomputable def rO:S:=(.seq (.ife (.cmp .lt (.var 3) (.cst (.int 7))) rA1 .nil) vq)
noncomputable def rA0:S:=(.ret (.tup (.cons (.cst (.str "set")) (.cons (.var 5) (.cons (.var 6) .nil)))))
noncomputable def tT:S:=(.seq (.ife (.cmp .lt (.var 3) (.cst (.int 5))) rA0 .nil) rO)
theorem nO:ig=⟨["_law_script","_law_at","_law_size"],["_law_script","_law_at","_law_size","_law_way","_law_place","_law_name","_law_one"],
 (.seq (.set 3 (.call "_law_drawn" (.cons (.var 0) (.cons (.var 1) (.cons (.cst (.int 16)) .nil)))))
 (.seq (.set 4 (.call "_law_drawn" (.cons (.var 0) (.cons (.bin .add (.var 1) (.cst (.int 1))) (.cons (.bin .add (.var 2) (.cst (.int 1))) .nil)))))
 (.seq (.set 5 (.idx (.cst (.str "abc")) (.call "_law_drawn" (.cons (.var 0) (.cons (.bin .add (.var 1) (.cst (.int 2))) (.cons (.cst (.int 3)) .nil))))))
 (.seq (.set 6 (.call "_law_sum" (.cons (.var 0) (.cons (.bin .add (.var 1) (.cst (.int 3))) (.cons (.cst (.int 2)) .nil)))))
 tT))))⟩:=rfl
section
theorem C8 (L:Lw T) (ns:List Int) (hl:ns.length<=1000) (p:Int) (size:Nat):∃ r:Rw,r.ok size/\∀ (m:Nat) (h:HH),
 runN T G (m+6) "_law_row" [.p (.lst (c7 ns)),.p (.int p),.p (.int size)] h=some (.p r.enc,h):=by
 have dr:=fun m q many (hm:0 < many)=>fY (G:=G) L m ns hl q many hm
 obtain ⟨x,ex⟩:=GG (drw ns (p+2) 3) (fM _ _ (by decide)) (fN _ _ (by decide))
 obtain ⟨s,so,ss,sr⟩:=lP (G:=G) L ns hl 2 (p+3)
 obtain ⟨t,to,tt,tr⟩:=lP (G:=G) L ns hl 1 (p+9)
 have w0:=fM ns p (many:=16) (by decide)
 have w1:=fN ns p (many:=16) (by decide)
 have sz:(0:Int) < (size:Int)+1:=by lia
 have p0:=fM ns (p+1) sz
 have p1:=fN ns (p+1) sz
 obtain ⟨pl,hpl⟩:∃ pl:Nat,drw ns (p+1) ((size:Int)+1)=(pl:Int):=⟨(drw ns (p+1) ((size:Int)+1)).toNat,by lia⟩
 have ple:pl<=size:=by lia
 have sok:m8 s:=⟨so,by lia⟩
 have tok:m8 t:=⟨to,by lia⟩
 have sr':=fun m h=>sr (m+0) h
 have tr':=fun m h=>tr (m+1) h
 simp at sr' tr'
 have dp:=fun m h=>dr m (p+1) ((size:Int)+1) sz h
 rw[hpl] at dp
 have pre:∀ (m:Nat) (h:HH),runN T G (m+6) "_law_row" [.p (.lst (c7 ns)),.p (.int p),.p (.int size)] h =
  tw (evS (runN T G (m+5)) G tT [some (.p (.lst (c7 ns))),some (.p (.int p)),some (.p (.int size)),some (.p (.int (drw ns p 16))),some (.p (.int (pl:Int))),some (.p (.str x.w)),some (.p s.enc)] h) (fin h):=fun m h=>by
  rw[run_eq L.row rfl,nO]
  simp[-iM,dp,dr,ex,sr']
 by_cases c1:drw ns p 16 < 5
 ·refine ⟨.set x s,sok,fun m h=>?_⟩
  rw[pre]
  simp[-ef,-iM,tT,rA0,c1,cS,Rw.enc]
 ·by_cases c2:drw ns p 16 < 7
  ·refine ⟨.put t s,⟨tok,sok⟩,fun m h=>?_⟩
   rw[pre]
   simp[-ef,-iM,tT,rO,rA1,tr',c1,c2,cS,Rw.enc]
  ·by_cases c3:drw ns p 16 < 9
   ·obtain ⟨r,ro,ix⟩:∃ r:Rw,r.ok size/\fq (.lst [.tup [.str "ask",.str x.w],.tup [.str "say",s.enc]]) (.int (drw ns p 16 - 7))=some r.enc:=by
     have c:drw ns p 16=7\/drw ns p 16=8:=by lia
     rcases c with c | c<;>rw[c]
     ·exact ⟨.ask x,trivial,rfl⟩
     ·exact ⟨.say s,sok,rfl⟩
    refine ⟨r,ro,fun m h=>?_⟩
    rw[pre]
    simp[-ef,tT,rO,vq,rA2,c1,c2,c3,ix,cS]
   ·by_cases c4:drw ns p 16 < 12
    ·obtain ⟨r,ro,ix⟩:∃ r:Rw,r.ok size/\fq (.lst [.tup [.str "jump",.int pl],.tup [.str "unless",s.enc,.int pl],.tup [.str "unless",.tup [.str "name",.str x.w],.int pl]]) (.int (drw ns p 16 - 9))=some r.enc:=by
      have c:drw ns p 16=9\/drw ns p 16=10\/drw ns p 16=11:=by lia
      rcases c with c | c | c<;>rw[c]
      ·exact ⟨.jump pl,ple,rfl⟩
      ·exact ⟨.unless s pl,⟨sok,ple⟩,rfl⟩
      ·exact ⟨.unless (.nam x) pl,⟨⟨trivial,by simp[Sm.size]⟩,ple⟩,rfl⟩
     refine ⟨r,ro,fun m h=>?_⟩
     rw[pre]
     simp[-ef,tT,rO,vq,Ab,rA3,c1,c2,c3,c4,ix,cS]
    ·obtain ⟨u,uo,iu⟩:∃ u:Rw,u.ok size/\fq (.lst [.tup [.str "stop"],.tup [.str "back"]]) (.int ((pl:Int) % 2))=some u.enc:=by
      have z:(pl:Int) % 2=0\/(pl:Int) % 2=1:=by lia
      rcases z with z | z<;>rw[z]
      ·exact ⟨.stop,trivial,rfl⟩
      ·exact ⟨.back,trivial,rfl⟩
     obtain ⟨r,ro,ix⟩:∃ r:Rw,r.ok size/\fq (.lst [.tup [.str "call",.int pl],.tup [.str "call",.int pl],.tup [.str "back"],u.enc]) (.int (drw ns p 16 - 12))=some r.enc:=by
      have c:drw ns p 16=12\/drw ns p 16=13\/drw ns p 16=14\/drw ns p 16=15:=by lia
      rcases c with c | c | c | c<;>rw[c]
      ·exact ⟨.call pl,ple,rfl⟩
      ·exact ⟨.call pl,ple,rfl⟩
      ·exact ⟨.back,trivial,rfl⟩
      ·exact ⟨u,uo,rfl⟩
     refine ⟨r,ro,fun m h=>?_⟩
     rw[pre]
     simp[-ef,tT,rO,vq,Ab,D5,c1,c2,c3,c4,iu,ix,cS]
theorem comp_map (f:List D->HH->Option (Option D×HH)) (g:D->D):∀ (ds:List D) (h:HH),(∀ d∈ds,∀ h,f [d] h=some (some (g d),h))->c9 f 1 ds h=some (ds.map g,h):=by
 intro ds
 induction ds with
 | nil=>intro h _;rfl
 | cons d r ih =>
  intro h hf
  have e1:=hf d NW h
  have e2:=ih h fun x hx=>hf x (NU _ hx)
  rw[c9,qZ]
  simp[e1,e2]
theorem Ac (h:d∈upto 0 n):∃ k:Nat,k < n/\d=.int k:=by
 simp[upto] at h
 obtain ⟨k,hk,e⟩:=h
 exact ⟨k,hk,e.symm⟩
theorem Ad (n:Nat) (g:D->D):(upto 0 n).map g=(PJ n).map fun (k:Nat)=>g (.int k):=by
 simp[upto,Function.comp_def]
noncomputable def Ae:E:=.call "_law_row" (.cons (.var 1) (.cons (.bin .add (.bin .add (.var 2) (.cst (.int 10))) (.bin .mul (.cst (.int 40)) (.var 0))) (.cons (.var 3) .nil)))
structure Drawn (p:Pg):Prop where
 ok:Pg.ok p
 lo:1<=p.length
 hi:p.length<=9
noncomputable def iU (n:Int) (o:Op):Pg:=[.ask .a,.call 4,.say (.nam .a),.jump 0,.put (.nam .a) (.num n),.call 7,.back,.set .b (.two o (.nam .b) (.nam .a)),.back]
theorem qi (n:Int) (o:Op) (h:Wth n):Drawn (iU n o):=by
 refine ⟨?_,by simp[iU],by simp[iU]⟩
 intro r hr
 simp only[iU,Qe,Ph,or_false] at hr
 rcases hr with rfl | rfl | rfl | rfl | rfl | rfl | rfl | rfl | rfl<;>simp[Rw.ok,iU,m8,Sm.ok,Sm.size,h]
theorem ng (L:Lw T)
 (ns:List Int) (hl:ns.length<=1000) (p:Int)
 (run1:∀ (m:Nat) (h:HH) (n:Int) (o:Op),drw ns (p+1) 4=0->n=drw ns (p+2) 9->fq (.lst [.str "add",.str "sub"]) (.int (drw ns (p+3) 2))=some (.str o.w) →
  (∀ m q many,0 < many->∀ h,runN T G (m+2) "_law_drawn" [.p (.lst (c7 ns)),.p (.int q),.p (.int many)] h=some (.p (.int (drw ns q many)),h)) →
  runN T G (m+7) "_law_program" [.p (.lst (c7 ns)),.p (.int p)] h=some (.p (dZ (iU n o)),h))
 (run2:∀ (m:Nat) (h:HH) (pg:Pg),drw ns (p+1) 4≠0->pg.length=(1+drw ns p 9).toNat →
  (∀ m q many,0 < many->∀ h,runN T G (m+2) "_law_drawn" [.p (.lst (c7 ns)),.p (.int q),.p (.int many)] h=some (.p (.int (drw ns q many)),h)) →
  (∀ h,c9 (dP (fun _ h=>some ([],h)) (ev (runN T G (m+6)) G Ae) [some (.p (.lst (c7 ns))),some (.p (.int p)),some (.p (.int (1+drw ns p 9)))]) 1 (upto 0 (1+drw ns p 9).toNat) h=some (pg.map Rw.enc,h)) →
  runN T G (m+7) "_law_program" [.p (.lst (c7 ns)),.p (.int p)] h=some (.p (dZ pg),h)) :
 ∃ pg:Pg,Drawn pg/\∀ (m:Nat) (h:HH),runN T G (m+7) "_law_program" [.p (.lst (c7 ns)),.p (.int p)] h=some (.p (dZ pg),h):=by
 have dr:=fun m q many (hm:0 < many)=>fY (G:=G) L m ns hl q many hm
 by_cases c:drw ns (p+1) 4=0
 ·have d0:=fM ns (p+3) (many:=2) (by decide)
  have d1:=fN ns (p+3) (many:=2) (by decide)
  have e0:=fM ns (p+2) (many:=9) (by decide)
  have e1:=fN ns (p+2) (many:=9) (by decide)
  have z:drw ns (p+3) 2=0\/drw ns (p+3) 2=1:=by lia
  have:∃ o:Op,fq (.lst [.str "add",.str "sub"]) (.int (drw ns (p+3) 2))=some (.str o.w):=by
   rcases z with z | z<;>rw[z]
   ·exact ⟨.add,rfl⟩
   ·exact ⟨.sub,rfl⟩
  obtain ⟨o,eo⟩:=this
  exact ⟨iU (drw ns (p+2) 9) o,qi _ _ ⟨by lia,by lia⟩,fun m h=>run1 m h _ o c rfl eo dr⟩
 ·have d0:=fM ns p (many:=9) (by decide)
  have d1:=fN ns p (many:=9) (by decide)
  obtain ⟨sz,hsz⟩:∃ sz:Nat,1+drw ns p 9=(sz:Int):=⟨(1+drw ns p 9).toNat,by lia⟩
  have ch:∀ k:Nat,∃ r:Rw,r.ok sz/\∀ (m:Nat) (h:HH),runN T G (m+6) "_law_row" [.p (.lst (c7 ns)),.p (.int (p+10+40*(k:Int))),.p (.int sz)] h=some (.p r.enc,h) :=
   fun k=>C8 L ns hl _ sz
  obtain ⟨g,hg⟩:=Classical.axiomOfChoice ch
  refine ⟨(PJ sz).map g,⟨?_,by simp;lia,by simp;lia⟩,fun m h=>run2 m h _ c (by simp;lia) dr fun h=>?_⟩
  ·intro r hr
   simp at hr
   obtain ⟨k,_,rfl⟩:=hr
   simpa using (hg k).1
  ·rw[hsz]
   have b:big 40=true:=by decide
   have he:∀ (k:Nat) (h:HH),ev (runN T G (m+6)) G Ae [some (.p (.int k)),some (.p (.lst (c7 ns))),some (.p (.int p)),some (.p (.int sz))] h=some (.p (g k).enc,h):=fun k h=>by
    have e:=(hg k).2
    simp[Ae,e,b]
   have cm:=comp_map (dP (fun _ h=>some ([],h)) (ev (runN T G (m+6)) G Ae) [some (.p (.lst (c7 ns))),some (.p (.int p)),some (.p (.int sz))]) (fun d=>match d with | .int k=>(g k.toNat).enc | _=>.non) (upto 0 sz) h (by
    intro d hd h
    obtain ⟨k,hk,rfl⟩:=Ac hd
    simp[gz,he])
   rw[Ad] at cm
   simp only[Sf,Qx]
   rw[cm]
   rfl
end
section
noncomputable def prA:S:=(.seq (.set 3 (.tup (.cons (.cst (.str "put")) (.cons (.tup (.cons (.cst (.str "name")) (.cons (.cst (.str "a")) .nil))) (.cons (.tup (.cons (.cst (.str "num")) (.cons (.call "_law_drawn" (.cons (.var 0) (.cons (.bin .add (.var 1) (.cst (.int 2))) (.cons (.cst (.int 9)) .nil)))) .nil))) .nil)))))
 (.seq (.set 4 (.idx (.lst false (.cons (.cst (.str "add")) (.cons (.cst (.str "sub")) .nil))) (.call "_law_drawn" (.cons (.var 0) (.cons (.bin .add (.var 1) (.cst (.int 3))) (.cons (.cst (.int 2)) .nil))))))
 (.seq (.set 5 (.tup (.cons (.tup (.cons (.cst (.str "ask")) (.cons (.cst (.str "a")) .nil))) (.cons (.tup (.cons (.cst (.str "call")) (.cons (.cst (.int 4)) .nil))) (.cons (.tup (.cons (.cst (.str "say")) (.cons (.tup (.cons (.cst (.str "name")) (.cons (.cst (.str "a")) .nil))) .nil))) (.cons (.tup (.cons (.cst (.str "jump")) (.cons (.cst (.int 0)) .nil))) (.cons (.var 3) .nil)))))))
 (.ret (.bin .add (.var 5) (.tup (.cons (.tup (.cons (.cst (.str "call")) (.cons (.cst (.int 7)) .nil))) (.cons (.tup (.cons (.cst (.str "back")) .nil)) (.cons (.tup (.cons (.cst (.str "set")) (.cons (.cst (.str "b")) (.cons (.tup (.cons (.var 4) (.cons (.tup (.cons (.cst (.str "name")) (.cons (.cst (.str "b")) .nil))) (.cons (.tup (.cons (.cst (.str "name")) (.cons (.cst (.str "a")) .nil))) .nil)))) .nil)))) (.cons (.tup (.cons (.cst (.str "back")) .nil)) .nil))))))))))
noncomputable def prB:S:=(.ret (.bi .tuple false (.cons (.comp false .rng1 (.cons (.var 2) .nil) ["_law_k"] [(0,"_law_script"),(1,"_law_at"),(2,"_law_size")] .nil Ae) .nil)))
theorem gr:eg=⟨["_law_script","_law_at"],["_law_script","_law_at","_law_size","_law_put","_law_sign","_law_rows"],
 (.seq (.set 2 (.bin .add (.cst (.int 1)) (.call "_law_drawn" (.cons (.var 0) (.cons (.var 1) (.cons (.cst (.int 9)) .nil))))))
 (.seq (.ife (.cmp .eq (.call "_law_drawn" (.cons (.var 0) (.cons (.bin .add (.var 1) (.cst (.int 1))) (.cons (.cst (.int 4)) .nil)))) (.cst (.int 0))) prA .nil)
 prB))⟩:=rfl
theorem rP (L:Lw T) (hP:T "_law_program"=some eg) (ns:List Int) (hl:ns.length<=1000) (p:Int) :
 ∃ pg:Pg,Drawn pg/\∀ (m:Nat) (h:HH),runN T G (m+7) "_law_program" [.p (.lst (c7 ns)),.p (.int p)] h=some (.p (dZ pg),h):=by
 refine ng L ns hl p (fun m h n o c en eo dr=>?_) (fun m h pg c el dr cm=>?_)
 ·rw[run_eq hP rfl]
  have d:=fun q many hm h=>dr (m+4) q many hm h
  rw[gr]
  simp[-ef,prA,d,c,eo,cS,dZ,iU,Rw.enc,Sm.enc,← en,Nm.w]
 ·rw[run_eq hP rfl]
  have d:=fun q many hm h=>dr (m+4) q many hm h
  have d0:=fM ns p (many:=9) (by decide)
  have d1:=fN ns p (many:=9) (by decide)
  have c0:-100000<=1+drw ns p 9:=by lia
  have c1:1+drw ns p 9<=100000:=by lia
  have c2:pg.length<=100000:=by lia
  have cm':=cm h
  rw[gr]
  simp[-dP,prB,d,c,c0,c1,c2,cm',cS,dZ,jn]
mutual
theorem fj:∀ d:D,eqv d d=true
 | .non=>rfl
 | .bl b=>by simp
 | .int i=>by simp
 | .str x=>by simp
 | .tup xs=>by simp[jh xs]
 | .lst xs=>by simp[jh xs]
theorem jh:∀ ds:List D,jt ds ds=true
 | []=>rfl
 | d :: r=>by simp[fj d,jh r]
end
theorem rQ (n:Nat) (xs:List Int):(c7 xs).all (dok n)=true:=by simp[c7,OL]
@[simp] theorem GI (ds:List D):jt ds ds=true:=jh ds
@[simp] theorem Hv (d:D):eqv d d=true:=fj d
@[simp] theorem Hw (x:D) (xs:List Int):dY x (.tup (c7 xs))=true:=mq (rQ 99 xs)
@[simp] theorem JW (x:D) (xs ys:List Int):dY x (.tup [.tup (c7 xs),.tup (c7 ys)])=true:=mq (by simp[rQ])
end
section
variable {T:FK->Option Fn}{G:Str->Option W}
end
structure Tp where
 p:Pg
 asked:List Int
 gap:Nat
 most:Nat
 kept:List St
 far:Nat
 front:St
 now:Nat
noncomputable def Tp.fs (t:Tp) (r:Nat):List (Str×W):=[("program",.p (dZ t.p)),("asked",.p (.lst (c7 t.asked))),("gap",.p (.int t.gap)),("most",.p (.int t.most)),("kept",.r r),("farthest",.p (.int t.far)),("front",.p t.front.enc),("now",.p (.int t.now))]
section
variable (t:Tp) (r:Nat)
end
noncomputable def fJ:Fn:=⟨["thing"],["thing"],
 (.ret (.and (.bi .isInt false (.cons (.var 0) .nil)) (.not (.bi .isBool false (.cons (.var 0) .nil)))))⟩
section
noncomputable def Tp.keep (t:Tp) (st:St):Tp:=if t.kept.length < 8 then { t with kept:=t.kept++[st] } else { t with kept:=(PJ 5).filterMap fun i=>(t.kept++[st])[2*i]?,gap:=2*t.gap }
end
noncomputable def jl (c:Nat):List (List Nat)->List Nat
 | []=>[]
 | [x]=>x
 | x :: y :: r=>x++c :: jl c (y :: r)
theorem vv (c:Nat):∀ ts:List Str,(NZ ⟨#[c]⟩ ts).cps.toList=jl c (ts.map fun t=>t.cps.toList)
 | []=>rfl
 | [x]=>rfl
 | x :: y :: r=>by
  have ih:=vv c (y :: r)
  show ((x++⟨#[c]⟩++NZ ⟨#[c]⟩ (y :: r):Str)).cps.toList=x.cps.toList++c :: jl c ((y :: r).map fun t=>t.cps.toList)
  rw[← ih]
  show (x.cps++#[c]++(NZ ⟨#[c]⟩ (y :: r)).cps).toList=_
  simp
theorem Af {c:Nat}:∀ {x y a b:List Nat},c∉x->c∉y->x++c :: a=y++c :: b->x=y/\a=b
 | [],[],a,b,_,_,h=>⟨rfl,(On h).2⟩
 | [],y :: ys,a,b,_,hy,h=>absurd ((On h).1 ▸ NW) hy
 | x :: xs,[],a,b,hx,_,h=>absurd ((On h).1 ▸ NW) hx
 | x :: xs,y :: ys,a,b,hx,hy,h=>by
  obtain ⟨h1,h2⟩:=On h
  obtain ⟨q1,q2⟩:=Af (fun z=>hx (NU _ z)) (fun z=>hy (NU _ z)) h2
  exact ⟨by rw[h1,q1],q2⟩
theorem Ag {c:Nat}:∀ {xs ys:List (List Nat)},xs≠[]->ys≠[]->(∀ x∈xs,c∉x)->(∀ y∈ys,c∉y)->jl c xs=jl c ys->xs=ys
 | [],_,h,_,_,_,_=>absurd rfl h
 | _ :: _,[],_,h,_,_,_=>absurd rfl h
 | [x],[y],_,_,_,_,h=>by
  have h:x=y:=h
  rw[h]
 | [x],y :: y' :: r,_,_,hx,_,h=>by
  have h:x=y++c :: jl c (y' :: r):=h
  exact absurd (by rw[h];simp) (hx x NW)
 | x :: x' :: r,[y],_,_,_,hy,h=>by
  have h:x++c :: jl c (x' :: r)=y:=h
  exact absurd (by rw[← h];simp) (hy y NW)
 | x :: x' :: r,y :: y' :: r',_,_,hx,hy,h=>by
  have h:x++c :: jl c (x' :: r)=y++c :: jl c (y' :: r'):=h
  obtain ⟨h1,h2⟩:=Af (hx x NW) (hy y NW) h
  have:=Ag (by simp) (by simp) (fun z hz=>hx z (NU _ hz)) (fun z hz=>hy z (NU _ hz)) h2
  rw[h1,this]
theorem gu {x y:Str} (h:x.cps.toList=y.cps.toList):x=y:=by
 obtain ⟨a⟩:=x
 obtain ⟨b⟩:=y
 have:a=b:=Array.toList_inj.mp h
 rw[this]
theorem nh (x y:Str):Txt.split x y≠[]:=by
 unfold Txt.split
 split
 ·simp
 ·split
  ·simp
  ·intro h
   have:=length_partsBetween x (O4 x y 0 x.length (x.length+1)) y.length
   rw[h] at this
   simp at this
theorem map_toList_inj:∀ {ts us:List Str},ts.map (fun t=>t.cps.toList)=us.map (fun t=>t.cps.toList)->ts=us
 | [],[],_=>rfl
 | [],_ :: _,h=>by cases h
 | _ :: _,[],h=>by cases h
 | t :: ts,u :: us,h=>by
  obtain ⟨h1,h2⟩:=On h
  rw[gu h1,map_toList_inj h2]
noncomputable def Fre (c:Nat) (t:Str):Prop:=c∉t.cps.toList
theorem Ah {c:Nat}{ts us:List Str} (h1:ts≠[]) (h2:us≠[]) (f1:∀ t∈ts,Fre c t) (f2:∀ t∈us,Fre c t) (h:NZ ⟨#[c]⟩ ts=NZ ⟨#[c]⟩ us):ts=us:=by
 have e:=congrArg (fun x:Str=>x.cps.toList) h
 simp only[vv] at e
 refine map_toList_inj (Ag (by simpa using h1) (by simpa using h2) (fun x hx=>?_) (fun x hx=>?_) e)
 ·obtain ⟨t,ht,rfl⟩:=List.mem_map.mp hx;exact f1 t ht
 ·obtain ⟨t,ht,rfl⟩:=List.mem_map.mp hx;exact f2 t ht
theorem iy {c:Nat}{ts:List Str} (h1:ts≠[]) (f1:∀ t∈ts,Fre c t):Txt.split (NZ ⟨#[c]⟩ ts) ⟨#[c]⟩=ts :=
 Ah (nh _ _) h1 (fun t ht=>T7 _ c t ht) f1 (Ry _ _)
theorem lQ (y:Str):∀ (xs zs:List Str),zs≠[]->NZ y (xs++[NZ y zs])=NZ y (xs++zs)
 | [],zs,h=>rfl
 | [x],zs,h=>by
  cases zs with
  | nil=>exact absurd rfl h
  | cons z zs=>rfl
 | x :: x' :: r,zs,h=>by
  have ih:=lQ y (x' :: r) zs h
  show x++y++NZ y ((x' :: r)++[NZ y zs])=x++y++NZ y ((x' :: r)++zs)
  rw[ih]
theorem Ai (y:Str) (xs zs us:List Str) (h1:zs≠[]) (h2:us≠[]):NZ y (xs++[NZ y zs,NZ y us])=NZ y (xs++(zs++us)):=by
 have e:∀ (zs us:List Str),zs≠[]->us≠[]->NZ y (zs++us)=NZ y zs++y++NZ y us:=by
  intro zs
  induction zs with
  | nil=>intro us h _;exact absurd rfl h
  | cons z zs ih =>
   intro us _ h2
   cases zs with
   | nil =>
    cases us with
    | nil=>exact absurd rfl h2
    | cons u us=>rfl
   | cons z' zs =>
    have:=ih us (by simp) h2
    show z++y++NZ y ((z' :: zs)++us)=(z++y++NZ y (z' :: zs))++y++NZ y us
    rw[this]
    apply gu
    show (z.cps++y.cps++(((NZ y (z' :: zs)).cps++y.cps)++(NZ y us).cps)).toList=((z.cps++y.cps++(NZ y (z' :: zs)).cps)++y.cps++(NZ y us).cps).toList
    simp
 have e2:NZ y (xs++[NZ y zs,NZ y us])=NZ y (xs++[NZ y (zs++us)]):=by
  rw[e zs us h1 h2]
  induction xs with
  | nil=>rfl
  | cons x xs ih =>
   cases xs with
   | nil=>rfl
   | cons x' xs =>
    show x++y++NZ y ((x' :: xs)++_)=x++y++NZ y ((x' :: xs)++_)
    rw[ih]
 rw[e2,lQ y xs (zs++us) (by simp[h1])]
theorem ni:∀ (ls:List Str),NZ ⟨#[]⟩ (ls.map (fun l:Str=>l++(⟨#[10]⟩:Str)))=NZ ⟨#[10]⟩ (ls++[⟨#[]⟩])
 | []=>rfl
 | [x]=>by
  apply gu
  show (x.cps++#[10]).toList=(x.cps++#[10]++#[]).toList
  simp
 | x :: x' :: r=>by
  have ih:=ni (x' :: r)
  apply gu
  show ((x.cps++#[10])++#[]++(NZ ⟨#[]⟩ ((x' :: r).map (fun l:Str=>l++(⟨#[10]⟩:Str)))).cps).toList=(x.cps++#[10]++(NZ ⟨#[10]⟩ ((x' :: r)++[(⟨#[]⟩:Str)])).cps).toList
  rw[ih]
  simp
theorem join_le (y:Str) (B:Nat):∀ ts:List Str,(∀ t∈ts,t.length<=B)->(NZ y ts).length<=ts.length*(B+y.length)
 | [],_=>Qs _
 | [x],h=>by
  have:=h x NW
  show x.length<=1*(B+y.length)
  lia
 | x :: x' :: r,h=>by
  have ih:=join_le y B (x' :: r) fun t ht=>h t (NU _ ht)
  have:=h x NW
  have e:(NZ y (x :: x' :: r)).length=x.length+y.length+(NZ y (x' :: r)).length:=by
   show (x++y++NZ y (x' :: r)).length=_
   rw[O9,O9]
  rw[e,N7,Nat.add_mul]
  lia
noncomputable def Aj:S:=(.seq (.set 3 (.me .pop (.var 1) .nil))
 (.seq (.aug 2 .add (.cst (.int 1)))
 (.seq (.ife (.or (.cmp .gt (.var 2) (.glo "MOST_PARTS")) (.not (.call "has_sum_form" (.cons (.var 3) .nil)))) (.ret (.cst (.bl false))) .nil)
 (.ex (.me .extend (.var 1) (.cons (.call "inner_sums" (.cons (.var 3) .nil)) .nil))))))
noncomputable def wsB:S:=(.seq (.set 3 (.me .pop (.var 2) .nil))
 (.seq (.ex (.me .append (.var 1) (.cons (.call "written_word" (.cons (.var 3) .nil)) .nil)))
 (.ex (.me .extend (.var 2) (.cons (.rvs (.call "inner_sums" (.cons (.var 3) .nil))) .nil)))))
noncomputable def wrB:S:=(.ex (.me .append (.var 1) (.cons (.ite (.cmp .eq (.var 3) (.cst (.str "sum"))) (.call "written_sum" (.cons (.var 2) .nil)) (.tx .str (.cons (.var 2) .nil))) .nil)))
noncomputable def soB:S:=(.seq (.set 3 (.tx .dget (.cons (.glo "INNER_COUNTS") (.cons (.var 2) (.cons (.cst (.int 0)) .nil)))))
 (.seq (.ife (.cmp .gt (.var 3) (.bi .len false (.cons (.var 1) .nil))) .bad .nil)
 (.seq (.set 4 (.comp false .rng1 (.cons (.var 3) .nil) ["number"] [(1,"parts")] .nil (.me .pop (.var 1) .nil)))
 (.ex (.me .append (.var 1) (.cons (.ite (.cmp .gt (.var 3) (.cst (.int 0))) (.bin .add (.tup (.cons (.var 2) .nil)) (.bi .tuple false (.cons (.var 4) .nil))) (.call "leaf_of" (.cons (.var 2) .nil))) .nil))))))
noncomputable def seB:S:=(.seq (.aug 2 .add (.bin .sub (.tx .dget (.cons (.glo "INNER_COUNTS") (.cons (.idx (.var 0) (.var 1)) (.cons (.cst (.int 0)) .nil)))) (.cst (.int 1))))
 (.aug 1 .add (.cst (.int 1))))
noncomputable def roB:S:=(.seq (.set 5 (.var 3))
 (.seq (.ife (.cmp .eq (.var 5) (.bi .len false (.cons (.var 1) .nil))) .bad .nil)
 (.seq (.set 3 (.ite (.cmp .eq (.var 4) (.cst (.str "sum"))) (.call "sum_end" (.cons (.var 1) (.cons (.var 5) .nil))) (.bin .add (.var 5) (.cst (.int 1)))))
 (.ex (.me .append (.var 2) (.cons (.ite (.cmp .eq (.var 4) (.cst (.str "sum"))) (.call "sum_of" (.cons (.slc (.var 1) (.cons (.var 5) .nil) (.cons (.var 3) .nil)) .nil)) (.call "number_or_word" (.cons (.idx (.var 1) (.var 5)) .nil))) .nil))))))
noncomputable def iz:Fn:=⟨["thing"],["thing"],
 (.ret (.and (.call "is_whole" (.cons (.var 0) .nil)) (.chain .le .lt (.cst (.int 0)) (.var 0) (.glo "WORTH_COUNT"))))⟩
noncomputable def iA:Fn:=⟨["thing","row_count"],["thing","row_count"],
 (.ret (.and (.call "is_whole" (.cons (.var 0) .nil)) (.chain .le .le (.cst (.int 0)) (.var 0) (.var 1))))⟩
noncomputable def fR:Fn:=⟨["thing"],["thing"],
 (.seq (.ife (.and (.bi .isTuple false (.cons (.var 0) .nil)) (.and (.cmp .gt (.bi .len false (.cons (.var 0) .nil)) (.cst (.int 0))) (.bi .isStr false (.cons (.idx (.var 0) (.cst (.int 0))) .nil)))) (.ret (.idx (.var 0) (.cst (.int 0)))) .nil)
 (.ret (.cst .non)))⟩
noncomputable def d7:Fn:=⟨["part"],["part"],
 (.seq (.ife (.cmp .eq (.idx (.glo "INNER_COUNTS") (.idx (.var 0) (.cst (.int 0)))) (.cst (.int 0))) (.ret (.tup .nil)) .nil)
 (.ret (.slc (.var 0) (.cons (.cst (.int 1)) .nil) .nil)))⟩
noncomputable def dG:Fn:=⟨["thing"],["thing","word"],
 (.seq (.set 1 (.call "first_word" (.cons (.var 0) .nil)))
 (.seq (.ife (.cmp .eq (.var 1) (.cst (.str "num"))) (.ret (.and (.cmp .eq (.bi .len false (.cons (.var 0) .nil)) (.cst (.int 2))) (.call "is_worth" (.cons (.idx (.var 0) (.cst (.int 1))) .nil)))) .nil)
 (.seq (.ife (.cmp .eq (.var 1) (.cst (.str "name"))) (.ret (.and (.cmp .eq (.bi .len false (.cons (.var 0) .nil)) (.cst (.int 2))) (.call "is_name" (.cons (.idx (.var 0) (.cst (.int 1))) .nil)))) .nil)
 (.ret (.and (.cmp .mem (.var 1) (.glo "INNER_COUNTS")) (.cmp .eq (.bi .len false (.cons (.var 0) .nil)) (.bin .add (.idx (.glo "INNER_COUNTS") (.var 1)) (.cst (.int 1)))))))))⟩
noncomputable def jX:Fn:=⟨["thing"],["thing","waiting","parts","part"],
 (.seq (.set 1 (.lst true (.cons (.var 0) .nil)))
 (.seq (.set 2 (.cst (.int 0)))
 (.seq (.whl (.cmp .gt (.bi .len false (.cons (.var 1) .nil)) (.cst (.int 0))) Aj)
 (.ret (.cst (.bl true))))))⟩
noncomputable def kL:Fn:=⟨["thing","form","row_count"],["thing","form","row_count"],
 (.seq (.ife (.cmp .eq (.var 1) (.cst (.str "name"))) (.ret (.call "is_name" (.cons (.var 0) .nil))) .nil)
 (.seq (.ife (.cmp .eq (.var 1) (.cst (.str "place"))) (.ret (.call "is_place" (.cons (.var 0) (.cons (.var 2) .nil)))) .nil)
 (.ret (.call "is_sum" (.cons (.var 0) .nil)))))⟩
noncomputable def jY:Fn:=⟨["thing","row_count"],["thing","row_count","forms"],
 (.seq (.set 2 (.tx .dget (.cons (.glo "ROW_FORMS") (.cons (.call "first_word" (.cons (.var 0) .nil)) .nil))))
 (.seq (.ife (.or (.cmp .isN (.var 2) (.cst .non)) (.cmp .ne (.bi .len false (.cons (.var 0) .nil)) (.bin .add (.bi .len false (.cons (.var 2) .nil)) (.cst (.int 1))))) (.ret (.cst (.bl false))) .nil)
 (.ret (.tx .all (.cons (.comp false .zipG (.cons (.slc (.var 0) (.cons (.cst (.int 1)) .nil) .nil) (.cons (.var 2) .nil)) ["part","form"] [(1,"row_count")] .nil (.call "fits" (.cons (.var 0) (.cons (.var 1) (.cons (.var 2) .nil))))) .nil)))))⟩
noncomputable def fS:Fn:=⟨["thing"],["thing"],
 (.seq (.ife (.or (.not (.bi .isTuple false (.cons (.var 0) .nil))) (.cmp .gt (.bi .len false (.cons (.var 0) .nil)) (.glo "MOST_ROWS"))) (.ret (.cst (.bl false))) .nil)
 (.ret (.tx .all (.cons (.comp false .seq (.cons (.var 0) .nil) ["row"] [(0,"thing")] .nil (.call "is_row" (.cons (.var 0) (.cons (.bi .len false (.cons (.var 1) .nil)) .nil)))) .nil))))⟩
noncomputable def dH:Fn:=⟨["part"],["part"],
 (.seq (.ife (.cmp .eq (.idx (.var 0) (.cst (.int 0))) (.cst (.str "num"))) (.ret (.tx .str (.cons (.idx (.var 0) (.cst (.int 1))) .nil))) .nil)
 (.ret (.ite (.cmp .eq (.idx (.var 0) (.cst (.int 0))) (.cst (.str "name"))) (.idx (.var 0) (.cst (.int 1))) (.idx (.var 0) (.cst (.int 0))))))⟩
noncomputable def fD:Fn:=⟨["term"],["term","words","waiting","part"],
 (.seq (.set 1 (.lst true .nil))
 (.seq (.set 2 (.lst true (.cons (.var 0) .nil)))
 (.seq (.whl (.cmp .gt (.bi .len false (.cons (.var 2) .nil)) (.cst (.int 0))) wsB)
 (.ret (.tx .join (.cons (.cst (.str " ")) (.cons (.var 1) .nil)))))))⟩
noncomputable def fE:Fn:=⟨["row"],["row","words","part","form"],
 (.seq (.set 1 (.lst true (.cons (.idx (.var 0) (.cst (.int 0))) .nil)))
 (.seq (.for [(2,"part"),(3,"form")] .zipG (.cons (.slc (.var 0) (.cons (.cst (.int 1)) .nil) .nil) (.cons (.idx (.glo "ROW_FORMS") (.idx (.var 0) (.cst (.int 0)))) .nil)) wrB)
 (.ret (.tx .join (.cons (.cst (.str " ")) (.cons (.var 1) .nil))))))⟩
noncomputable def ji:Fn:=⟨["program"],["program"],
 (.ret (.tx .join (.cons (.cst (.str "")) (.cons (.comp false .seq (.cons (.var 0) .nil) ["row"] [] .nil (.bin .add (.call "written_row" (.cons (.var 0) .nil)) (.cst (.str "\n")))) .nil))))⟩
noncomputable def fT:Fn:=⟨["word"],["word"],
 (.ret (.and (.chain .lt .le (.cst (.int 0)) (.bi .len false (.cons (.var 0) .nil)) (.glo "MOST_FIGURES")) (.tx .all (.cons (.comp false .chs (.cons (.var 0) .nil) ["sign"] [] .nil (.tx .inS (.cons (.var 0) (.cons (.glo "FIGURES") .nil)))) .nil))))⟩
noncomputable def dW:Fn:=⟨["word"],["word"],
 (.ret (.ite (.call "is_figures" (.cons (.var 0) .nil)) (.tx .intS (.cons (.var 0) .nil)) (.var 0)))⟩
noncomputable def gK:Fn:=⟨["word"],["word","part"],
 (.seq (.set 1 (.call "number_or_word" (.cons (.var 0) .nil)))
 (.ret (.ite (.call "is_whole" (.cons (.var 1) .nil)) (.tup (.cons (.cst (.str "num")) (.cons (.var 1) .nil))) (.tup (.cons (.cst (.str "name")) (.cons (.var 1) .nil))))))⟩
noncomputable def jZ:Fn:=⟨["words"],["words","parts","word","many","inner"],
 (.seq (.set 1 (.lst true .nil))
 (.seq (.for [(2,"word")] .rev (.cons (.var 0) .nil) soB)
 (.ret (.idx (.var 1) (.neg (.cst (.int 1)))))))⟩
noncomputable def jj:Fn:=⟨["words","start"],["words","start","missing"],
 (.seq (.set 2 (.cst (.int 1)))
 (.seq (.whl (.and (.cmp .gt (.var 2) (.cst (.int 0))) (.cmp .lt (.var 1) (.bi .len false (.cons (.var 0) .nil)))) seB)
 (.ret (.var 1))))⟩
noncomputable def j0:Fn:=⟨["line"],["line","words","row","behind","form","start"],
 (.seq (.set 1 (.tx .split (.cons (.var 0) (.cons (.cst (.str " ")) .nil))))
 (.seq (.set 2 (.lst true (.cons (.idx (.var 1) (.cst (.int 0))) .nil)))
 (.seq (.set 3 (.cst (.int 1)))
 (.seq (.for [(4,"form")] .seq (.cons (.tx .dget (.cons (.glo "ROW_FORMS") (.cons (.idx (.var 1) (.cst (.int 0))) (.cons (.tup .nil) .nil)))) .nil) roB)
 (.ret (.bi .tuple false (.cons (.var 2) .nil)))))))⟩
noncomputable def iB:Fn:=⟨["text"],["text","term"],
 (.seq (.set 1 (.call "sum_of" (.cons (.tx .split (.cons (.var 0) (.cons (.cst (.str " ")) .nil))) .nil)))
 (.seq (.ife (.or (.not (.call "is_sum" (.cons (.var 1) .nil))) (.cmp .ne (.call "written_sum" (.cons (.var 1) .nil)) (.var 0))) .bad .nil)
 (.ret (.var 1))))⟩
noncomputable def qj:Fn:=⟨["text"],["text","program"],
 (.seq (.set 1 (.bi .tuple false (.cons (.comp false .seq (.cons (.slc (.tx .split (.cons (.var 0) (.cons (.cst (.str "\n")) .nil))) .nil (.cons (.neg (.cst (.int 1))) .nil)) .nil) ["line"] [] .nil (.call "row_of" (.cons (.var 0) .nil))) .nil)))
 (.seq (.ife (.or (.not (.call "is_program" (.cons (.var 1) .nil))) (.cmp .ne (.call "written" (.cons (.var 1) .nil)) (.var 0))) .bad .nil)
 (.ret (.var 1))))⟩
noncomputable def iC:List (Str×D):=[("num",.int 0),("name",.int 0),("cell",.int 1),("add",.int 2),("sub",.int 2),("mul",.int 2),("less",.int 2)]
noncomputable def C9:List (Str×D):=[("set",.tup [.str "name",.str "sum"]),("put",.tup [.str "sum",.str "sum"]),("ask",.tup [.str "name"]),("say",.tup [.str "sum"]),("jump",.tup [.str "place"]),("unless",.tup [.str "sum",.str "place"]),("call",.tup [.str "place"]),("back",.tup []),("stop",.tup [])]
structure P80 (T:FK → Option Fn) (G:Str → Option W):Prop where
 is_whole:T "is_whole"=some fJ
 is_worth:T "is_worth"=some iz
 is_name:T "is_name"=some g9
 is_place:T "is_place"=some iA
 first_word:T "first_word"=some fR
 inner_sums:T "inner_sums"=some d7
 has_sum_form:T "has_sum_form"=some dG
 is_sum:T "is_sum"=some jX
 fits:T "fits"=some kL
 is_row:T "is_row"=some jY
 is_program:T "is_program"=some fS
 written_word:T "written_word"=some dH
 written_sum:T "written_sum"=some fD
 written_row:T "written_row"=some fE
 written:T "written"=some ji
 is_figures:T "is_figures"=some fT
 number_or_word:T "number_or_word"=some dW
 leaf_of:T "leaf_of"=some gK
 sum_of:T "sum_of"=some jZ
 sum_end:T "sum_end"=some jj
 row_of:T "row_of"=some j0
 read_sum:T "read_sum"=some iB
 read:T "read"=some qj
 LETTERS:G "LETTERS"=some (.p (.tup [.str "a",.str "b",.str "c",.str "d",.str "e",.str "f"]))
 WORTH_COUNT:G "WORTH_COUNT"=some (.p (.int 10007))
 MOST_PARTS:G "MOST_PARTS"=some (.p (.int 15))
 MOST_ROWS:G "MOST_ROWS"=some (.p (.int 20))
 INNER_COUNTS:G "INNER_COUNTS"=some (.k (.t iC))
 ROW_FORMS:G "ROW_FORMS"=some (.k (.t C9))
 FIGURES:G "FIGURES"=some (.p (.str "0123456789"))
 MOST_FIGURES:G "MOST_FIGURES"=some (.p (.int 5))
noncomputable def dI (n:Int):Str:=NR (toString n)
noncomputable def Sm.hd:Sm → Str
 | .num n=>dI n
 | .nam i=>i.w
 | .cell _=>"cell"
 | .two o _ _=>o.w
noncomputable def Sm.inn:Sm → List Sm
 | .num _=>[]
 | .nam _=>[]
 | .cell s=>[s]
 | .two _ s t=>[s,t]
noncomputable def Sm.wds:Sm → List Str
 | .num n=>[dI n]
 | .nam i=>[(i.w:Str)]
 | .cell s=>"cell" :: s.wds
 | .two o s t=>o.w :: (s.wds++t.wds)
theorem tU (s:Sm):s.wds=s.hd :: (s.inn.flatMap Sm.wds):=by
 cases s<;>simp[Sm.wds,Sm.hd,Sm.inn]
theorem kM (s:Sm):s.wds≠[]:=by rw[tU];simp
theorem gv:∀ s:Sm,s.wds.length=s.size
 | .num _=>rfl
 | .nam _=>rfl
 | .cell s=>by simp[Sm.wds,Sm.size,gv s]
 | .two o s t=>by simp[Sm.wds,Sm.size,gv s,gv t]
noncomputable def szs (l:List Sm):Nat:=(l.map Sm.size).sum
theorem xo (s:Sm):szs s.inn+1=s.size:=by cases s<;>simp[szs,Sm.inn,Sm.size]
theorem kN (a b:List Sm):szs (a++b)=szs a+szs b:=by simp[szs]
theorem xq (a:List Sm):szs a.reverse=szs a:=by simp[szs]
theorem tV {s:Sm} (h:s.ok):∀ t∈s.inn,t.ok:=by
 cases s with
 | num _=>intro t ht;cases ht
 | nam _=>intro t ht;cases ht
 | cell s =>
  intro t ht
  have:t=s:=by simpa [Sm.inn] using ht
  subst this;exact h
 | two o a b =>
  intro t ht
  rcases (show t=a ∨ t=b by simpa [Sm.inn] using ht) with rfl | rfl
  ·exact h.1
  ·exact h.2
section
variable {T:FK → Option Fn}{G:Str → Option W}
theorem vz (o:Op):dB (NR o.w) iC=some (.int 2):=by cases o<;>rfl
theorem j3 (P:P80 T G) (k:Nat) {s:Sm} (hs:s.ok) (h:HH):runN T G (k+1) "written_word" [.p s.enc] h=some (.p (.str s.hd),h):=by
 rw[run_eq P.written_word rfl]
 cases s with
 | num n =>
  have hb:big n=true:=by
   have:=hs
   unfold big
   exact decide_eq_true (by
    have h1:Wth n:=hs
    have h2:0 ≤ n ∧ n ≤ 10006:=h1
    lia)
  simp[dH,Sm.enc,Sm.hd,dI,kTx,txD,rds,hb,cS]
 | nam i=>simp[dH,Sm.enc,Sm.hd,cS]
 | cell s=>simp[dH,Sm.enc,Sm.hd,cS]
 | two o s t=>cases o<;>simp[dH,Sm.enc,Sm.hd,Op.w,cS]
theorem nj (P:P80 T G) (k:Nat) (s:Sm) (h:HH):runN T G (k+1) "inner_sums" [.p s.enc] h=some (.p (.tup (s.inn.map Sm.enc)),h):=by
 rw[run_eq P.inner_sums rfl]
 cases s with
 | num n=>simp[d7,Sm.enc,Sm.inn,P.INNER_COUNTS,iC,cS]
 | nam i=>simp[d7,Sm.enc,Sm.inn,P.INNER_COUNTS,iC,cS]
 | cell s=>simp[d7,Sm.enc,Sm.inn,P.INNER_COUNTS,iC,cS]
 | two o s t=>cases o<;>simp[d7,Sm.enc,Sm.inn,Op.w,P.INNER_COUNTS,iC,cS]
theorem j4 (l:List Sm):l.length ≤ szs l:=by
 induction l with
 | nil=>simp[szs]
 | cons s l ih =>
  have h1:=s.size_pos
  simp only[szs,OA,Q6,N7] at ih ⊢
  lia
theorem nk (s:Sm) (l:List Sm):szs (s :: l)=szs (s.inn++l)+1:=by
 have:=xo s
 rw[kN]
 have e:szs (s :: l)=s.size+szs l:=by simp[szs]
 lia
noncomputable def wsC:E:=(.cmp .gt (.bi .len false (.cons (.var 2) .nil)) (.cst (.int 0)))
theorem Dc (P:P80 T G) (k:Nat) (h:HH) (t0:W):∀ (m:Nat) (stk:List Sm) (ps:List Str) (x:Option W),szs stk ≤ m → ps.length+szs stk ≤ 900 → (∀ s∈stk,s.ok) →
 ∃ x',fG (BT.ev (runN T G (k+1)) G wsC) (evS (runN T G (k+1)) G wsB) (m+1) [some t0,some (.r h.length),some (.r (h.length+1)),x] (h++[.l (ps.map .str),.l (stk.reverse.map Sm.enc)]) =
  some (.nx [some t0,some (.r h.length),some (.r (h.length+1)),x'] (h++[.l ((ps++stk.flatMap Sm.wds).map .str),.l []])):=by
 intro m
 induction m with
 | zero =>
  intro stk ps x hs _ _
  have:stk=[]:=by
   have:=j4 stk
   exact Px (by lia)
  subst this
  exact ⟨x,by simp[fG,wsC,rd]⟩
 | succ m ih =>
  intro stk ps x hs hl hok
  cases stk with
  | nil=>exact ⟨x,by simp[fG,wsC,rd]⟩
  | cons s l =>
   have e:=nk s l
   have ok1:=hok s NW
   obtain ⟨x',q⟩:=ih (s.inn++l) (ps++[s.hd]) (some (.p s.enc)) (by lia) (by simp only[Oa,Rm];lia) (fun t ht=>by
    rcases List.mem_append.mp ht with z | z
    ·exact tV ok1 t z
    ·exact hok t (NU _ z))
   refine ⟨x',?_⟩
   have r:=nj P k s
   have r2:=j3 P k ok1
   have hl2:=j4 (s.inn++l)
   rw[Oa] at hl2
   have l1:l.length+s.inn.length ≤ 100000:=by lia
   have c1:(0:Int) < (l.length:Int)+1:=by lia
   have l2:ps.length < 100000:=by lia
   have hc:BT.ev (runN T G (k+1)) G wsC [some t0,some (.r h.length),some (.r (h.length+1)),x] (h++[.l (ps.map .str),.l ((s :: l).reverse.map Sm.enc)])=some (.p (.bl true),h++[.l (ps.map .str),.l ((s :: l).reverse.map Sm.enc)]):=by
    simp[wsC,rd,c1]
   have hb:evS (runN T G (k+1)) G wsB [some t0,some (.r h.length),some (.r (h.length+1)),x] (h++[.l (ps.map .str),.l ((s :: l).reverse.map Sm.enc)]) =
    some (.nx [some t0,some (.r h.length),some (.r (h.length+1)),some (.p s.enc)] (h++[.l ((ps++[s.hd]).map .str),.l ((s.inn++l).reverse.map Sm.enc)])):=by
    simp[wsB,r,r2,l1,l2]
   rw[fG,hc,sZ,pG,hb,eW,q,R6,tU s,Uz,Ot]
   simp
theorem nq:∀ ts:List Str,strsOf (ts.map .str)=some ts
 | []=>rfl
 | t :: ts=>by
  have ih:=nq ts
  show (strsOf (ts.map .str)).map (t :: ·)=_
  rw[ih];rfl
theorem qk {x:Str}{ts:List Str}{h:HH}{w:W} (hw:rd w h=some (.lst (ts.map .str))) (h1:ts.length ≤ 1000) (h2:x.length ≤ 10) (h3:∀ t∈ts,t.length ≤ 1000):kTx .join [.p (.str x),w] h=some (.p (.str (NZ x ts)),h):=by
 show ((rds [.p (.str x),w] h).bind fun ds=>(txD .join ds).map fun d=>(W.p d,h))=_
 have e:rds [.p (.str x),w] h=some [.str x,.lst (ts.map .str)]:=by
  simp only[rds,hw,L3,OI,Qc]
 rw[e,OI]
 show (((strsOf (ts.map .str)).bind fun ts=>if ts.length ≤ 1000 ∧ x.length ≤ 10 ∧ ∀ t∈ts,t.length ≤ 1000 then some (D.str (NZ x ts)) else none).map fun d=>(W.p d,h))=_
 rw[nq,OI,if_pos ⟨h1,h2,h3⟩];rfl
theorem qm {n:Int} (h:Wth n):1 ≤ (dI n).length ∧ (dI n).length ≤ 5:=by
 obtain ⟨h0,h1⟩:=h
 obtain ⟨m,rfl⟩:=TV h0
 have e:=Sy m
 have l:(dI (m:Int)).length=(Nat.toDigits 10 m).length:=by
  show (NR (toString ((m:Nat):Int))).cps.size=_
  rw[← Pr,e,N5]
 rw[l]
 exact ⟨PyProof.Rows.tDigits_len_ge 10 m,PyProof.Rows.digits10_le (by decide) (by lia)⟩
theorem tW (i:Nm):(NR i.w).length=1:=by cases i<;>rfl
theorem GJ (o:Op):(NR o.w).length ≤ 4:=by cases o<;>decide
theorem kO:∀ {s:Sm},s.ok → ∀ t∈s.wds,t.length ≤ 5
 | .num n,h,t,ht=>by
  have:t=dI n:=by simpa [Sm.wds] using ht
  subst this
  exact (qm h).2
 | .nam i,h,t,ht=>by
  have:t=NR i.w:=by simpa [Sm.wds] using ht
  subst this
  rw[tW];decide
 | .cell s,h,t,ht=>by
  rcases List.mem_cons.mp ht with rfl | ht
  ·decide
  ·exact kO (s:=s) h t ht
 | .two o a b,h,t,ht=>by
  rcases List.mem_cons.mp ht with rfl | ht
  ·have:=GJ o;lia
  ·rcases List.mem_append.mp ht with ht | ht
   ·exact kO (s:=a) h.1 t ht
   ·exact kO (s:=b) h.2 t ht
noncomputable def Sm.txt (s:Sm):Str:=NZ " " s.wds
theorem dX (P:P80 T G) (k:Nat) {s:Sm} (hs:s.ok) (hz:s.size ≤ 100) (h:HH):runN T G (k+2) "written_sum" [.p s.enc] h=some (.p (.str s.txt),h):=by
 rw[run_eq P.written_sum rfl]
 obtain ⟨x',q⟩:=Dc P k h (.p s.enc) 99999 [s] [] none (by simp only[szs,OA,Qa,Q6,Se];lia) (by simp only[szs,OA,Qa,Q6,Se,QH];lia) (fun t ht=>by
  have:t=s:=by simpa using ht
  subst this;exact hs)
 simp only[R6,List.flatMap_nil,OJ,PP,TR,OA,Qa] at q
 have wl:=gv s
 have j:=qk (x:=" ") (ts:=s.wds) (h:=h++[.l (s.wds.map .str),.l []]) (w:=.r h.length) (by simp[rd]) (by lia) (by decide) fun t ht=>Om (kO hs t ht) (by decide)
 have f:=oM h [.l (s.wds.map .str),.l []] (.str s.txt)
 rw[← Sm.txt] at j
 have eq:fD=⟨["term"],["term","words","waiting","part"],.seq (.set 1 (.lst true .nil)) (.seq (.set 2 (.lst true (.cons (.var 0) .nil))) (.seq (.whl wsC wsB) (.ret (.tx .join (.cons (.cst (.str " ")) (.cons (.var 1) .nil))))))⟩:=rfl
 rw[eq]
 simp[turns,q,j,f]
theorem GK (x:Str) (h:HH):kTx .str [.p (.str x)] h=some (.p (.str x),h):=rfl
theorem GL {n:Int} (hb:big n=true) (h:HH):kTx .str [.p (.int n)] h=some (.p (.str (dI n)),h):=by
 show (((if big n=true then some (D.str (toString n)) else none):Option D).map fun d=>(W.p d,h))=_
 rw[if_pos hb];rfl
theorem Dd {n:Int} (h:Wth n):big n=true:=by
 obtain ⟨h0,h1⟩:=h
 unfold big
 exact decide_eq_true (by lia)
theorem qo {s:Sm} (hs:s.ok) (hz:s.size ≤ 100):s.txt.length ≤ 600:=by
 have:=join_le " " 5 s.wds (kO hs)
 rw[gv] at this
 have e:(" ":Str).length=1:=rfl
 rw[e] at this
 exact Om this (by lia)
theorem cgo {F:FK → List W → HH → Option (W×HH)}{G:Str → Option W}{sr:Sr}{sa:Es}{tg:List Str}{fv:List (Nat×Str)}{cond:Es}{elt:E}{s:Sl}{h h1 h2:HH}{ws:List W}{ds xs:List D}{fs:Sl} (e1:evs F G sa s h=some (ws,h1)) (e2:(rds ws h1).bind (fK sr)=some ds) (e3:frees s fv=some fs) (e4:jn ws=true) (e5:c9 (dP (evs F G cond) (BT.ev F G elt) fs) tg.length ds h1=some (xs,h2)) (e6:xs.length ≤ 100000):BT.ev F G (.comp false sr sa tg fv cond elt) s h=some (.p (.lst xs),h2):=by
 rw[BT.ev,e1,dm]
 unfold oq
 rw[e2,e3]
 show (if jn ws=true then _ else _)=_
 rw[if_pos e4,e5,dm]
 unfold gD
 rw[if_pos (show xs.length ≤ lim from e6)];rfl
end
theorem j5 (y:Str):∀ (zs us:List Str),zs≠[] → us≠[] → NZ y (zs++us)=NZ y zs++y++NZ y us
 | [],_,h,_=>absurd rfl h
 | [z],us,_,h2=>by
  cases us with
  | nil=>exact absurd rfl h2
  | cons u us=>rfl
 | z :: z' :: zs,us,_,h2=>by
  have:=j5 y (z' :: zs) us (by simp) h2
  show z++y++NZ y ((z' :: zs)++us)=(z++y++NZ y (z' :: zs))++y++NZ y us
  rw[this]
  apply gu
  show (z.cps++y.cps++(((NZ y (z' :: zs)).cps++y.cps)++(NZ y us).cps)).toList=((z.cps++y.cps++(NZ y (z' :: zs)).cps)++y.cps++(NZ y us).cps).toList
  simp
theorem k9 (y:Str):∀ (cs:List (List Str)) (xs:List Str),xs≠[] → (∀ c∈cs,c≠[]) → NZ y (xs++cs.map (NZ y))=NZ y (xs++cs.flatten)
 | [],xs,_,_=>by simp
 | c :: cs,xs,hx,hc=>by
  have hc1:=hc c NW
  have ih:=k9 y cs (xs++c) (by simp[hx]) fun d hd=>hc d (NU _ hd)
  rw[O7,← Ot,← ih,OA]
  by_cases z:cs.map (NZ y)=[]
  ·rw[z,OJ];exact lQ y xs c hc1
  ·rw[show xs++NZ y c :: cs.map (NZ y)=(xs++[NZ y c])++cs.map (NZ y) by simp,j5 y _ _ (by simp) z,j5 y _ _ (by simp[hx]) z,lQ y xs c hc1]
structure Prt where
 f:Str
 d:D
 ws:List Str
noncomputable def Prt.sm (s:Sm):Prt:=⟨"sum",s.enc,s.wds⟩
noncomputable def Prt.nm (x:Nm):Prt:=⟨"name",.str x.w,[(x.w:Str)]⟩
noncomputable def Prt.pl (p:Nat):Prt:=⟨"place",.int p,[dI p]⟩
noncomputable def Rw.prt:Rw → List Prt
 | .set x s=>[.nm x,.sm s]
 | .put s t=>[.sm s,.sm t]
 | .ask x=>[.nm x]
 | .say s=>[.sm s]
 | .jump p=>[.pl p]
 | .unless s p=>[.sm s,.pl p]
 | .call p=>[.pl p]
 | .back=>[]
 | .stop=>[]
inductive f9 (n:Nat):Prt → Prop where
 | sm (s:Sm) (h:m8 s):f9 n (.sm s)
 | nm (x:Nm):f9 n (.nm x)
 | pl (p:Nat) (h:p ≤ n):f9 n (.pl p)
theorem iE {n:Nat}{r:Rw} (h:r.ok n):∀ p∈r.prt,f9 n p:=by
 cases r with
 | set x s=>intro p hp;rcases (show p=.nm x ∨ p=.sm s by simpa [Rw.prt] using hp) with rfl | rfl;exact .nm x;exact .sm s h
 | put s t=>intro p hp;rcases (show p=.sm s ∨ p=.sm t by simpa [Rw.prt] using hp) with rfl | rfl;exact .sm s h.1;exact .sm t h.2
 | ask x=>intro p hp;rw[show p=.nm x by simpa [Rw.prt] using hp];exact .nm x
 | say s=>intro p hp;rw[show p=.sm s by simpa [Rw.prt] using hp];exact .sm s h
 | jump q=>intro p hp;rw[show p=.pl q by simpa [Rw.prt] using hp];exact .pl q h
 | «unless» s q=>intro p hp;rcases (show p=.sm s ∨ p=.pl q by simpa [Rw.prt] using hp) with rfl | rfl;exact .sm s h.1;exact .pl q h.2
 | call q=>intro p hp;rw[show p=.pl q by simpa [Rw.prt] using hp];exact .pl q h
 | back=>intro p hp;cases hp
 | stop=>intro p hp;cases hp
noncomputable def Rw.wd (r:Rw):Str:=NR r.word
noncomputable def Rw.wds (r:Rw):List Str:=r.wd :: (r.prt.map Prt.ws).flatten
noncomputable def Rw.txt (r:Rw):Str:=NZ " " r.wds
theorem j6 (r:Rw):r.enc=.tup (.str r.wd :: r.prt.map Prt.d):=by cases r<;>rfl
theorem qp (r:Rw):dB r.wd C9=some (.tup (r.prt.map fun p=>.str p.f)):=by cases r<;>rfl
theorem j7 (r:Rw):r.prt.length ≤ 2:=by cases r<;>simp[Rw.prt]
theorem Ak {n:Nat}{p:Prt} (h:f9 n p):p.ws≠[]:=by
 cases h with
 | sm s h=>exact kM s
 | nm x=>simp[Prt.nm]
 | pl q h=>simp[Prt.pl]
theorem qt {p n:Nat} (hn:n ≤ 100) (h:p ≤ n):Wth (p:Int):=⟨by lia,by lia⟩
theorem tX {n:Nat} (hn:n ≤ 100) {p:Prt} (h:f9 n p):(∀ t∈p.ws,t.length ≤ 5) ∧ p.ws.length ≤ 15:=by
 cases h with
 | sm s h=>exact ⟨kO h.1,by show s.wds.length ≤ 15;rw[gv];exact h.2⟩
 | nm x=>exact ⟨fun t ht=>by rw[show t=NR x.w by simpa [Prt.nm] using ht,tW];decide,by simp[Prt.nm]⟩
 | pl q h=>exact ⟨fun t ht=>by rw[show t=dI q by simpa [Prt.pl] using ht];exact (qm (qt hn h)).2,by simp[Prt.pl]⟩
theorem Al {n:Nat} (hn:n ≤ 100) {p:Prt} (h:f9 n p):(NZ " " p.ws).length ≤ 1000:=by
 obtain ⟨h1,h2⟩:=tX hn h
 have:=join_le " " 5 p.ws h1
 have e:(" ":Str).length=1:=rfl
 rw[e] at this
 exact Om this (by lia)
theorem vA (r:Rw):r.word∈["set","put","ask","say","jump","unless","call","back","stop"]:=by cases r<;>simp[Rw.word]
theorem xr:∀ w∈(["set","put","ask","say","jump","unless","call","back","stop"]:List String),(NR w).length ≤ 6 ∧ ¬ (NR w="num" ∨ NR w="name"):=by decide
theorem vB (r:Rw):r.wd.length ≤ 6:=(xr _ (vA r)).1
theorem GM {n:Nat}{r:Rw} (h:r.ok n):r.txt=NZ " " (r.wd :: r.prt.map fun p=>NZ " " p.ws):=by
 have e:=k9 " " (r.prt.map Prt.ws) [r.wd] (by simp) fun c hc=>by
  obtain ⟨p,hp,rfl⟩:=List.mem_map.mp hc
  exact Ak (iE h p hp)
 rw[Qx] at e
 exact e.symm
section
variable {T:FK → Option Fn}{G:Str → Option W}
theorem JX (a:D) (l:List D):pq (.tup (a :: l)) (some 1) none=some (.tup l):=by
 have e1:clip (a :: l).length 0 (some 1)=1:=by
  show (if (1:Int) < 0 then ((1:Int)+((a :: l).length:Int)).toNat else if (1:Int) ≤ ((a :: l).length:Int) then (1:Int).toNat else (a :: l).length)=1
  rw[if_neg (by decide),if_pos (by rw[N7];lia)];rfl
 show some (D.tup (cut (a :: l) (some 1) none))=_
 unfold cut
 rw[e1]
 simp
theorem De (P:P80 T G) {n:Nat} (hn:n ≤ 100) {p:Prt} (ok:f9 n p) (k:Nat) (w0 w1:W) (h:HH) :
 BT.ev (runN T G (k+2)) G (.ite (.cmp .eq (.var 3) (.cst (.str "sum"))) (.call "written_sum" (.cons (.var 2) .nil)) (.tx .str (.cons (.var 2) .nil))) [some w0,some w1,some (.p p.d),some (.p (.str p.f))] h=some (.p (.str (NZ " " p.ws)),h):=by
 cases ok with
 | sm s h1 =>
  have r:=dX P k h1.1 (by have:=h1.2;lia) h
  simp[Prt.sm,r,Sm.txt]
 | nm x=>simp[Prt.nm,GK];rfl
 | pl q h1=>simp[Prt.pl,GL (Dd (qt hn h1))];rfl
theorem vC (P:P80 T G) {n:Nat} (hn:n ≤ 100) (k:Nat) (w0:W) (h:HH):∀ (ps:List Prt) (acc:List Str) (x2 x3:Option W),(∀ p∈ps,f9 n p) → acc.length+ps.length ≤ 100 →
 ∃ y2 y3,d8 (evS (runN T G (k+2)) G wrB) [(2,"part"),(3,"form")] (ps.map fun p=>.tup [p.d,.str p.f]) [some w0,some (.r h.length),x2,x3] (h++[.l (acc.map .str)]) =
  some (.nx [some w0,some (.r h.length),y2,y3] (h++[.l ((acc++ps.map fun p=>NZ " " p.ws).map .str)]))
 | [],acc,x2,x3,_,_=>⟨x2,x3,by simp⟩
 | p :: ps,acc,x2,x3,hp,hl=>by
  simp only[N7] at hl
  have c:=De P hn (hp p NW) k w0 (.r h.length) (h++[.l (acc.map .str)])
  obtain ⟨y2,y3,q⟩:=vC P hn k w0 h ps (acc++[NZ " " p.ws]) (some (.p p.d)) (some (.p (.str p.f))) (fun q hq=>hp q (NU _ hq)) (by simp;lia)
  refine ⟨y2,y3,?_⟩
  have l1:acc.length < 100000:=by lia
  have b:evS (runN T G (k+2)) G wrB [some w0,some (.r h.length),some (.p p.d),some (.p (.str p.f))] (h++[.l (acc.map .str)])=some (.nx [some w0,some (.r h.length),some (.p p.d),some (.p (.str p.f))] (h++[.l ((acc++[NZ " " p.ws]).map .str)])):=by
   rw[wrB]
   generalize (E.ite (.cmp .eq (.var 3) (.cst (.str "sum"))) (.call "written_sum" (.cons (.var 2) .nil)) (.tx .str (.cons (.var 2) .nil)))=EE at *
   simp[c,l1]
  have st:d8 (evS (runN T G (k+2)) G wrB) [(2,"part"),(3,"form")] ((p :: ps).map fun p=>.tup [p.d,.str p.f]) [some w0,some (.r h.length),x2,x3] (h++[.l (acc.map .str)])=iG (evS (runN T G (k+2)) G wrB [some w0,some (.r h.length),some (.p p.d),some (.p (.str p.f))] (h++[.l (acc.map .str)])) (d8 (evS (runN T G (k+2)) G wrB) [(2,"part"),(3,"form")] (ps.map fun p=>.tup [p.d,.str p.f])):=rfl
  rw[st,b,eW,q]
  simp
theorem qu:∀ ps:List Prt,gC (ps.map Prt.d) (ps.map fun p=>.str p.f)=ps.map fun p=>.tup [p.d,.str p.f]
 | []=>rfl
 | p :: ps=>by simp[qu ps]
theorem kP (P:P80 T G) {n:Nat} (hn:n ≤ 100) {r:Rw} (hr:r.ok n) (k:Nat) (h:HH):runN T G (k+3) "written_row" [.p r.enc] h=some (.p (.str r.txt),h):=by
 rw[run_eq P.written_row rfl,GM hr,j6]
 obtain ⟨y2,y3,q⟩:=vC P hn k (.p (.tup (.str r.wd :: r.prt.map Prt.d))) h r.prt [r.wd] none none (iE hr) (by have:=j7 r;simp;lia)
 have j:=qk (x:=" ") (ts:=r.wd :: r.prt.map fun p=>NZ " " p.ws) (h:=h++[.l (([r.wd]++r.prt.map fun p=>NZ " " p.ws).map .str)]) (w:=.r h.length) (by simp[rd]) (by have:=j7 r;simp;lia) (by decide) fun t ht=>by
  rcases List.mem_cons.mp ht with rfl | ht
  ·exact Om (vB r) (by decide)
  ·obtain ⟨p,hp,rfl⟩:=List.mem_map.mp ht
   exact Al hn (iE hr p hp)
 have f:=oM h [.l (([r.wd]++r.prt.map fun p=>NZ " " p.ws).map .str)] (.str (NZ " " (r.wd :: r.prt.map fun p=>NZ " " p.ws)))
 have i0:fq (.tup (.str r.wd :: r.prt.map Prt.d)) (.int 0)=some (.str r.wd):=by
  show atP _ ((0:Nat):Int)=_
  rw[jW];rfl
 have s0:=JX (.str r.wd) (r.prt.map Prt.d)
 have g:=qp r
 have z:=qu r.prt
 generalize r.prt.map Prt.d=PD at *
 generalize (r.prt.map fun p=>D.str p.f)=PF at *
 generalize (r.prt.map fun p=>D.tup [p.d,.str p.f])=PZ at *
 generalize (r.prt.map fun p=>NZ " " p.ws)=PC at *
 have sr:fK .zipG [.tup PD,.tup PF]=some PZ:=by rw[fW,← z];rfl
 simp only[Po,OA,Qa,List.cons_append,PP] at q j f
 simp[-d8,-sV,-yt,-fW,fE,i0,s0,P.ROW_FORMS,g,sr,jn,q,j,f]
end
theorem vD:(" ":Str)=⟨#[32]⟩:=by decide
theorem JY:("\n":Str)=⟨#[10]⟩:=by decide
theorem D6:("":Str)=⟨#[]⟩:=by decide
theorem vE {n:Nat} (hn:n ≤ 100) {r:Rw} (hr:r.ok n):(∀ t∈r.wds,t.length ≤ 6) ∧ r.wds.length ≤ 31:=by
 constructor
 ·intro t ht
  rcases List.mem_cons.mp ht with rfl | ht
  ·exact vB r
  ·obtain ⟨l,hl,h2⟩:=List.mem_flatten.mp ht
   obtain ⟨p,hp,rfl⟩:=List.mem_map.mp hl
   exact Nat.le_succ_of_le ((tX hn (iE hr p hp)).1 t h2)
 ·have:∀ ps:List Prt,(∀ p∈ps,f9 n p) → (ps.map Prt.ws).flatten.length ≤ ps.length*15:=by
   intro ps
   induction ps with
   | nil=>intro _;simp
   | cons p ps ih =>
    intro h
    have h1:=(tX hn (h p NW)).2
    have h2:=ih fun q hq=>h q (NU _ hq)
    simp only[OA,O7,Oa,N7]
    lia
  have h1:=this r.prt (iE hr)
  have h2:=j7 r
  show ((r.prt.map Prt.ws).flatten).length+1 ≤ 31
  lia
theorem j8 {n:Nat} (hn:n ≤ 100) {r:Rw} (hr:r.ok n):r.txt.length ≤ 217:=by
 obtain ⟨h1,h2⟩:=vE hn hr
 have:=join_le " " 6 r.wds h1
 have e:(" ":Str).length=1:=rfl
 rw[e] at this
 exact Om this (by lia)
noncomputable def lnT (r:Rw):Str:=r.txt++"\n"
noncomputable def pgT (pg:Pg):Str:=NZ "" (pg.map lnT)
theorem qv {n:Nat} (hn:n ≤ 100) {r:Rw} (hr:r.ok n):(lnT r).length ≤ 218:=by
 have:=j8 hn hr
 have e:("\n":Str).length=1:=rfl
 show (r.txt++"\n").length ≤ 218
 rw[O9,e]
 lia
section
variable {T:FK → Option Fn}{G:Str → Option W}
theorem nu (F:FK → List W → HH → Option (W×HH)) (f:Str) (h:HH) {n:Nat} (hn:n ≤ 100):∀ pg:Pg,(∀ r∈pg,r.ok n) → (∀ r∈pg,F (.f f) [.p r.enc] h=some (.p (.str r.txt),h)) →
 c9 (dP (evs F G .nil) (BT.ev F G (.bin .add (.call f (.cons (.var 0) .nil)) (.cst (.str "\n")))) []) 1 (pg.map Rw.enc) h=some ((pg.map lnT).map .str,h)
 | [],_,_=>rfl
 | r :: pg,hok,hf=>by
  have q:=nu F f h hn pg (fun x hx=>hok x (NU _ hx)) fun x hx=>hf x (NU _ hx)
  have f1:=hf r NW
  have l1:=j8 hn (hok r NW)
  have e:("\n":Str).length=1:=rfl
  have el:BT.ev F G (.bin .add (.call f (.cons (.var 0) .nil)) (.cst (.str "\n"))) [some (.p r.enc)] h=some (.p (.str (lnT r)),h):=by
   have b:fZ .add (.str r.txt) (.str "\n")=some (.str (lnT r)):=by
    show (if r.txt.length+("\n":Str).length ≤ 100000 then _ else _)=_
    rw[if_pos (by rw[e];lia)];rfl
   generalize lnT r=L at *
   generalize r.txt=TX at *
   simp[-dF,f1,b]
  have st:c9 (dP (evs F G .nil) (BT.ev F G (.bin .add (.call f (.cons (.var 0) .nil)) (.cst (.str "\n")))) []) 1 ((r :: pg).map Rw.enc) h = bnd (bnd (BT.ev F G (.bin .add (.call f (.cons (.var 0) .nil)) (.cst (.str "\n"))) [some (.p r.enc)] h) jv) (mJ (c9 (dP (evs F G .nil) (BT.ev F G (.bin .add (.call f (.cons (.var 0) .nil)) (.cst (.str "\n")))) []) 1 (pg.map Rw.enc))):=rfl
  rw[st,el,dm]
  show bnd (some (some (D.str (lnT r)),h)) _=_
  rw[dm,i6,q];rfl
theorem nP {n:Nat} (hn:n ≤ 100) {pg:Pg} (hl:pg.length ≤ 100) (hok:∀ r∈pg,r.ok n) (h:HH):kTx .join [.p (.str ""),.p (.lst ((pg.map lnT).map .str))] h=some (.p (.str (pgT pg)),h) :=
 qk (x:="") (ts:=pg.map lnT) (w:=.p (.lst ((pg.map lnT).map .str))) rfl (by rw[N5];lia) (by decide) fun t ht=>by
  obtain ⟨r,hr,rfl⟩:=List.mem_map.mp ht
  exact Om (qv hn (hok r hr)) (by decide)
theorem fU (P:P80 T G) {n:Nat} (hn:n ≤ 100) {pg:Pg} (hl:pg.length ≤ 100) (hok:∀ r∈pg,r.ok n) (k:Nat) (h:HH):runN T G (k+4) "written" [.p (dZ pg)] h=some (.p (.str (pgT pg)),h):=by
 rw[run_eq P.written rfl]
 have c:=nu (G:=G) (runN T G (k+3)) "written_row" h hn pg hok fun r hr=>kP P hn (hok r hr) k h
 have c2:BT.ev (runN T G (k+3)) G (.comp false .seq (.cons (.var 0) .nil) ["row"] [] .nil (.bin .add (.call "written_row" (.cons (.var 0) .nil)) (.cst (.str "\n")))) [some (.p (dZ pg))] h=some (.p (.lst ((pg.map lnT).map .str)),h) :=
  cgo (ws:=[.p (dZ pg)]) (h1:=h) (fs:=[]) (by simp) rfl rfl rfl c (by simp;lia)
 have j:=nP hn hl hok h
 generalize (pg.map lnT).map D.str=L at *
 generalize pgT pg=PT at *
 rw[ji]
 generalize (E.comp false .seq (.cons (.var 0) .nil) ["row"] [] .nil (.bin .add (.call "written_row" (.cons (.var 0) .nil)) (.cst (.str "\n"))))=EE at *
 generalize dZ pg=PE at *
 simp[c2,j,cS]
theorem GN:∀ c:Nat,48 ≤ c → c ≤ 57 → Txt.contains "0123456789" ⟨#[c]⟩=true:=by
 intro c h1 h2
 have:c=48 ∨ c=49 ∨ c=50 ∨ c=51 ∨ c=52 ∨ c=53 ∨ c=54 ∨ c=55 ∨ c=56 ∨ c=57:=by lia
 rcases this with rfl | rfl | rfl | rfl | rfl | rfl | rfl | rfl | rfl | rfl<;>decide +kernel
theorem rR (P:P80 T G) (F:FK → List W → HH → Option (W×HH)) (h:HH):∀ l:List Nat,c9 (dP (evs F G .nil) (BT.ev F G (.tx .inS (.cons (.var 0) (.cons (.glo "FIGURES") .nil)))) []) 1 (l.map fun c=>.str ⟨#[c]⟩) h=some (l.map fun c=>.bl (Txt.contains "0123456789" ⟨#[c]⟩),h)
 | []=>rfl
 | c :: l=>by
  have q:=rR P F h l
  have el:BT.ev F G (.tx .inS (.cons (.var 0) (.cons (.glo "FIGURES") .nil))) [some (.p (.str ⟨#[c]⟩))] h=some (.p (.bl (Txt.contains "0123456789" ⟨#[c]⟩)),h):=by
   simp[P.FIGURES];rfl
  have st:c9 (dP (evs F G .nil) (BT.ev F G (.tx .inS (.cons (.var 0) (.cons (.glo "FIGURES") .nil)))) []) 1 ((c :: l).map fun c=>.str ⟨#[c]⟩) h=bnd (bnd (BT.ev F G (.tx .inS (.cons (.var 0) (.cons (.glo "FIGURES") .nil))) [some (.p (.str ⟨#[c]⟩))] h) jv) (mJ (c9 (dP (evs F G .nil) (BT.ev F G (.tx .inS (.cons (.var 0) (.cons (.glo "FIGURES") .nil)))) []) 1 (l.map fun c=>.str ⟨#[c]⟩))):=rfl
  rw[st,el,dm]
  show bnd (some (some (D.bl _),h)) _=_
  rw[dm,i6,q];rfl
theorem oO:∀ bs:List Bool,boolsOf (bs.map .bl)=some bs
 | []=>rfl
 | b :: bs=>by
  show (boolsOf (bs.map .bl)).map (b :: ·)=_
  rw[oO bs];rfl
theorem tY (bs:List Bool) (h:HH):kTx .all [.p (.lst (bs.map .bl))] h=some (.p (.bl (bs.all id)),h):=by
 show (((boolsOf (bs.map .bl)).map fun bs=>D.bl (bs.all id)).map fun d=>(W.p d,h))=_
 rw[oO];rfl
theorem oQ (P:P80 T G) (k:Nat) (x:Str) (hx:1 ≤ x.length) (hx2:x.length ≤ 5) (h:HH):runN T G (k+1) "is_figures" [.p (.str x)] h=some (.p (.bl (x.cps.toList.all fun c=>Txt.contains "0123456789" ⟨#[c]⟩)),h):=by
 rw[run_eq P.is_figures rfl]
 have c:=rR (G:=G) P (runN T G k) h x.cps.toList
 have c2:BT.ev (runN T G k) G (.comp false .chs (.cons (.var 0) .nil) ["sign"] [] .nil (.tx .inS (.cons (.var 0) (.cons (.glo "FIGURES") .nil)))) [some (.p (.str x))] h=some (.p (.lst (x.cps.toList.map fun c=>.bl (Txt.contains "0123456789" ⟨#[c]⟩))),h) :=
  cgo (ws:=[.p (.str x)]) (h1:=h) (fs:=[]) (by simp) rfl rfl rfl c (by
   have:x.cps.size ≤ 5:=hx2
   simp;lia)
 have a:=tY (x.cps.toList.map fun c=>Txt.contains "0123456789" ⟨#[c]⟩) h
 rw[Qx] at a
 have ea:((x.cps.toList.map fun c=>Txt.contains "0123456789" ⟨#[c]⟩).all id)=x.cps.toList.all fun c=>Txt.contains "0123456789" ⟨#[c]⟩:=by
  rw[Uc];rfl
 rw[ea] at a
 have a:kTx .all [.p (.lst (x.cps.toList.map fun c=>.bl (Txt.contains "0123456789" ⟨#[c]⟩)))] h=some (.p (.bl (x.cps.toList.all fun c=>Txt.contains "0123456789" ⟨#[c]⟩)),h):=a
 have z1:(0:Int) < (x.length:Int):=by lia
 have z2:(x.length:Int) ≤ 5:=by lia
 have z3:x.length ≤ 100000:=by lia
 rw[fT]
 generalize (E.comp false .chs (.cons (.var 0) .nil) ["sign"] [] .nil (.tx .inS (.cons (.var 0) (.cons (.glo "FIGURES") .nil))))=EE at *
 generalize (x.cps.toList.map fun c=>D.bl (Txt.contains "0123456789" ⟨#[c]⟩))=L at *
 generalize (x.cps.toList.all fun c=>Txt.contains "0123456789" ⟨#[c]⟩)=B at *
 have z4:0 < x.length:=by lia
 simp[P.MOST_FIGURES,z1,z2,z3,z4,hx2,c2,a,cS]
theorem j9 {n:Int} (hn:Wth n):((dI n).cps.toList.all fun c=>Txt.contains "0123456789" ⟨#[c]⟩)=true:=by
 obtain ⟨h0,h1⟩:=hn
 obtain ⟨m,rfl⟩:=TV h0
 rw[OL]
 intro c hc
 have hc:c∈(NR (toString ((m:Nat):Int))).cps.toList:=hc
 rw[Sy] at hc
 obtain ⟨ch,hch,rfl⟩:=List.mem_map.mp hc
 have d:=Nat.isDigit_of_mem_toDigits (by decide) (by decide) hch
 unfold Char.isDigit at d
 simp only[NX,decide_eq_true_eq] at d
 exact GN _ (by have:=d.1;exact this) (by have:=d.2;exact this)
theorem oR (P:P80 T G) (k:Nat) {n:Int} (hn:Wth n) (h:HH):runN T G (k+2) "number_or_word" [.p (.str (dI n))] h=some (.p (.int n),h):=by
 rw[run_eq P.number_or_word rfl]
 have l:=qm hn
 have f:=oQ P k (dI n) l.1 l.2 h
 rw[j9 hn] at f
 have t:kTx .intS [.p (.str (dI n))] h=some (.p (.int n),h):=by
  show ((if (dI n).length ≤ 640 then (Qm (dI n)).map D.int else none).map fun d=>(W.p d,h))=_
  rw[if_pos (by lia),show Qm (dI n)=some n from QX hn.1 (by have:=hn.2;lia)];rfl
 simp[dW,f,t,cS]
theorem vF (i:Nm):((NR i.w).cps.toList.all fun c=>Txt.contains "0123456789" ⟨#[c]⟩)=false:=by cases i<;>decide +kernel
theorem rS (P:P80 T G) (k:Nat) (i:Nm) (h:HH):runN T G (k+2) "number_or_word" [.p (.str i.w)] h=some (.p (.str i.w),h):=by
 rw[run_eq P.number_or_word rfl]
 have l:=tW i
 have f:=oQ P k (NR i.w) (by rw[l];decide) (by rw[l];decide) h
 rw[vF i] at f
 simp[dW,f,cS]
theorem kQ (P:P80 T G) (k:Nat) (n:Int) (h:HH):runN T G (k+1) "is_whole" [.p (.int n)] h=some (.p (.bl true),h):=by
 rw[run_eq P.is_whole rfl]
 simp[fJ,cS]
theorem xu (P:P80 T G) (k:Nat) (x:Str) (h:HH):runN T G (k+1) "is_whole" [.p (.str x)] h=some (.p (.bl false),h):=by
 rw[run_eq P.is_whole rfl]
 simp[fJ,cS]
theorem tZ (P:P80 T G) (k:Nat) {n:Int} (hn:Wth n) (h:HH):runN T G (k+3) "leaf_of" [.p (.str (dI n))] h=some (.p (Sm.num n).enc,h):=by
 rw[run_eq P.leaf_of rfl]
 have a:=oR P k hn h
 have b:=kQ P (k+1) n h
 simp[gK,a,b,cS,Sm.enc]
theorem xw (P:P80 T G) (k:Nat) (i:Nm) (h:HH):runN T G (k+3) "leaf_of" [.p (.str i.w)] h=some (.p (Sm.nam i).enc,h):=by
 rw[run_eq P.leaf_of rfl]
 have a:=rS P k i h
 have b:=xu P (k+1) i.w h
 simp[gK,a,b,cS,Sm.enc]
end
theorem dg (kvs:List (Str×D)) (x:Str) (d:D) (h:HH):kTx .dget [.k (.t kvs),.p (.str x),.p d] h=some (.p ((dB x kvs).getD d),h):=rfl
theorem dg1 (kvs:List (Str×D)) (x:Str) (h:HH):kTx .dget [.k (.t kvs),.p (.str x)] h=some (.p ((dB x kvs).getD .non),h):=rfl
theorem qw {n:Int} (hn:Wth n):dB (dI n) iC=none:=by
 have f:=j9 hn
 generalize dI n=x at *
 have ne:∀ y:Str,(y.cps.toList.all fun c=>Txt.contains "0123456789" ⟨#[c]⟩)=false → x≠y:=by
  intro y hy e
  rw[e,hy] at f
  exact absurd f (by decide)
 have a1:=ne "num" (by decide +kernel)
 have a2:=ne "name" (by decide +kernel)
 have a3:=ne "cell" (by decide +kernel)
 have a4:=ne "add" (by decide +kernel)
 have a5:=ne "sub" (by decide +kernel)
 have a6:=ne "mul" (by decide +kernel)
 have a7:=ne "less" (by decide +kernel)
 simp[iC,a1,a2,a3,a4,a5,a6,a7]
theorem vG (i:Nm):dB (NR i.w) iC=none:=by cases i<;>rfl
noncomputable def soC:E:=(.comp false .rng1 (.cons (.var 3) .nil) ["number"] [(1,"parts")] .nil (.me .pop (.var 1) .nil))
section
variable {T:FK → Option Fn}{G:Str → Option W}
theorem JZ (F:FK → List W → HH → Option (W×HH)) (w0 x2 x4:Option W) (n:Nat) (h:HH):BT.ev F G soC [w0,some (.r n),x2,some (.p (.int 0)),x4] h=some (.p (.lst []),h) :=
 cgo (ws:=[.p (.int 0)]) (h1:=h) (fs:=[some (.r n)]) (ds:=[]) (by simp) rfl rfl rfl rfl (by simp)
theorem ua (F:FK → List W → HH → Option (W×HH)) (i:D) (h:HH) (st:List D) (a:D):dP (evs F G .nil) (BT.ev F G (.me .pop (.var 1) .nil)) [some (.r h.length)] [i] (h++[.l (st++[a])])=some (some a,h++[.l st]):=by
 simp
theorem J0 (F:FK → List W → HH → Option (W×HH)) (w0 x2 x4:Option W) (h:HH) (st:List D) (a:D):BT.ev F G soC [w0,some (.r h.length),x2,some (.p (.int 1)),x4] (h++[.l (st++[a])])=some (.p (.lst [a]),h++[.l st]):=by
 refine cgo (ws:=[.p (.int 1)]) (h1:=h++[.l (st++[a])]) (fs:=[some (.r h.length)]) (ds:=[.int 0]) (by simp) rfl rfl rfl ?_ (by simp)
 have p1:=ua (G:=G) F (.int 0) h st a
 generalize dP (evs F G .nil) (BT.ev F G (.me .pop (.var 1) .nil)) [some (.r h.length)]=K at *
 show bnd (K [.int 0] (h++[.l (st++[a])])) (mJ (fun h=>some ([],h)))=_
 rw[p1];rfl
theorem J3 (F:FK → List W → HH → Option (W×HH)) (w0 x2 x4:Option W) (h:HH) (st:List D) (a b:D):BT.ev F G soC [w0,some (.r h.length),x2,some (.p (.int 2)),x4] (h++[.l (st++[b,a])])=some (.p (.lst [a,b]),h++[.l st]):=by
 refine cgo (ws:=[.p (.int 2)]) (h1:=h++[.l (st++[b,a])]) (fs:=[some (.r h.length)]) (ds:=[.int 0,.int 1]) (by simp) rfl rfl rfl ?_ (by simp)
 have p1:=ua (G:=G) F (.int 0) h (st++[b]) a
 have p2:=ua (G:=G) F (.int 1) h st b
 rw[Ot] at p1
 generalize dP (evs F G .nil) (BT.ev F G (.me .pop (.var 1) .nil)) [some (.r h.length)]=K at *
 show bnd (K [.int 0] (h++[.l (st++([b]++[a]))])) (mJ (fun h=>bnd (K [.int 1] h) (mJ (fun h=>some ([],h)))))=_
 rw[p1,dm,i6,p2];rfl
theorem uc:soB=(.seq (.set 3 (.tx .dget (.cons (.glo "INNER_COUNTS") (.cons (.var 2) (.cons (.cst (.int 0)) .nil)))))
 (.seq (.ife (.cmp .gt (.var 3) (.bi .len false (.cons (.var 1) .nil))) .bad .nil)
 (.seq (.set 4 soC)
 (.ex (.me .append (.var 1) (.cons (.ite (.cmp .gt (.var 3) (.cst (.int 0))) (.bin .add (.tup (.cons (.var 2) .nil)) (.bi .tuple false (.cons (.var 4) .nil))) (.call "leaf_of" (.cons (.var 2) .nil))) .nil)))))):=rfl
theorem vH (P:P80 T G) (k:Nat) (w0 x3 x4:Option W) (h:HH) (st:List D) (t:Str) (d:D) (hk:dB t iC=none) (hl:∀ h,runN T G (k+3) "leaf_of" [.p (.str t)] h=some (.p d,h)) (hs:st.length < 1000) :
 evS (runN T G (k+3)) G soB [w0,some (.r h.length),some (.p (.str t)),x3,x4] (h++[.l st])=some (.nx [w0,some (.r h.length),some (.p (.str t)),some (.p (.int 0)),some (.p (.lst []))] (h++[.l (st++[d])])):=by
 have c:=JZ (G:=G) (runN T G (k+3)) w0 (some (.p (.str t))) x4 h.length (h++[.l st])
 have g:=dg iC t (.int 0) (h++[.l st])
 rw[hk] at g
 have e1:st.length < 100000:=by lia
 have e2:st.length ≤ 100000:=by lia
 have e3:¬ ((st.length:Int) < 0):=by lia
 rw[uc]
 generalize soC=EE at *
 simp[P.INNER_COUNTS,g,c,hl,e1,e2,e3,rd]
theorem GO (P:P80 T G) (k:Nat) (w0 x3 x4:Option W) (h:HH) (st:List D) (t:Str) (a:D) (hk:dB t iC=some (.int 1)) (hs:st.length < 1000) :
 evS (runN T G (k+3)) G soB [w0,some (.r h.length),some (.p (.str t)),x3,x4] (h++[.l (st++[a])])=some (.nx [w0,some (.r h.length),some (.p (.str t)),some (.p (.int 1)),some (.p (.lst [a]))] (h++[.l (st++[.tup [.str t,a]])])):=by
 have c:=J0 (G:=G) (runN T G (k+3)) w0 (some (.p (.str t))) x4 h st a
 have g:=dg iC t (.int 0) (h++[.l (st++[a])])
 rw[hk] at g
 have e1:st.length < 100000:=by lia
 have e2:st.length+1 ≤ 100000:=by lia
 have e3:¬ ((st.length:Int)+1 < 1):=by lia
 rw[uc]
 generalize soC=EE at *
 simp[P.INNER_COUNTS,g,c,e1,e2,e3,rd]
theorem GP (P:P80 T G) (k:Nat) (w0 x3 x4:Option W) (h:HH) (st:List D) (t:Str) (a b:D) (hk:dB t iC=some (.int 2)) (hs:st.length < 1000) :
 evS (runN T G (k+3)) G soB [w0,some (.r h.length),some (.p (.str t)),x3,x4] (h++[.l (st++[b,a])])=some (.nx [w0,some (.r h.length),some (.p (.str t)),some (.p (.int 2)),some (.p (.lst [a,b]))] (h++[.l (st++[.tup [.str t,a,b]])])):=by
 have c:=J3 (G:=G) (runN T G (k+3)) w0 (some (.p (.str t))) x4 h st a b
 have g:=dg iC t (.int 0) (h++[.l (st++[b,a])])
 rw[hk] at g
 have e1:st.length < 100000:=by lia
 have e2:st.length+2 ≤ 100000:=by lia
 have e3:¬ ((st.length:Int)+2 < 2):=by lia
 rw[uc]
 generalize soC=EE at *
 simp[P.INNER_COUNTS,g,c,e1,e2,e3,rd]
theorem fg1 (b:Sl → HH → Option Fl) (d:D) (r:List D) (w0 w1 x2 x3 x4:Option W) (h:HH):d8 b [(2,"word")] (d :: r) [w0,w1,x2,x3,x4] h=iG (b [w0,w1,some (.p d),x3,x4] h) (d8 b [(2,"word")] r):=rfl
theorem lR (P:P80 T G) (k:Nat) (w0:Option W) (h:HH):∀ (s:Sm),s.ok → ∀ (rest st:List D) (x2 x3 x4:Option W),st.length+s.size ≤ 900 →
 ∃ y2 y3 y4,d8 (evS (runN T G (k+3)) G soB) [(2,"word")] (s.wds.reverse.map .str++rest) [w0,some (.r h.length),x2,x3,x4] (h++[.l st])=d8 (evS (runN T G (k+3)) G soB) [(2,"word")] rest [w0,some (.r h.length),y2,y3,y4] (h++[.l (st++[s.enc])])
 | .num n,hs,rest,st,x2,x3,x4,hl=>by
  have e:=vH P k w0 x3 x4 h st (dI n) (Sm.num n).enc (qw hs) (fun h=>tZ P k hs h) (by lia)
  refine ⟨some (.p (.str (dI n))),some (.p (.int 0)),some (.p (.lst [])),?_⟩
  ·show d8 _ _ (.str (dI n) :: rest) _ _=_
   rw[fg1,e,eW]
 | .nam i,hs,rest,st,x2,x3,x4,hl=>by
  have e:=vH P k w0 x3 x4 h st (NR i.w) (Sm.nam i).enc (vG i) (fun h=>xw P k i h) (by lia)
  refine ⟨some (.p (.str (NR i.w))),some (.p (.int 0)),some (.p (.lst [])),?_⟩
  ·show d8 _ _ (.str (NR i.w) :: rest) _ _=_
   rw[fg1,e,eW]
 | .cell s,hs,rest,st,x2,x3,x4,hl=>by
  have hl2:st.length+(s.size+1) ≤ 900:=hl
  obtain ⟨y2,y3,y4,q⟩:=lR P k w0 h s hs (.str "cell" :: rest) st x2 x3 x4 (by lia)
  have e:=GO P k w0 y3 y4 h st "cell" s.enc rfl (by lia)
  refine ⟨some (.p (.str "cell")),some (.p (.int 1)),some (.p (.lst [s.enc])),?_⟩
  ·rw[show (Sm.cell s).wds.reverse.map D.str++rest=s.wds.reverse.map D.str++.str "cell" :: rest by simp[Sm.wds],q,fg1,e,eW];rfl
 | .two o a b,hs,rest,st,x2,x3,x4,hl=>by
  have hl2:st.length+(a.size+b.size+1) ≤ 900:=hl
  obtain ⟨y2,y3,y4,q⟩:=lR P k w0 h b hs.2 (a.wds.reverse.map D.str++.str (NR o.w) :: rest) st x2 x3 x4 (by lia)
  obtain ⟨z2,z3,z4,q2⟩:=lR P k w0 h a hs.1 (.str (NR o.w) :: rest) (st++[b.enc]) y2 y3 y4 (by have:=b.size_pos;simp;lia)
  have e:=GP P k w0 z3 z4 h st (NR o.w) a.enc b.enc (vz o) (by lia)
  refine ⟨some (.p (.str (NR o.w))),some (.p (.int 2)),some (.p (.lst [a.enc,b.enc])),?_⟩
  ·rw[show (Sm.two o a b).wds.reverse.map D.str++rest=b.wds.reverse.map D.str++(a.wds.reverse.map D.str++.str (NR o.w) :: rest) by simp[Sm.wds],q,q2,fg1,Ot,List.cons_append,PP,e,eW];rfl
theorem lg (P:P80 T G) (k:Nat) {s:Sm} (hs:s.ok) (hz:s.size ≤ 100) (h:HH):runN T G (k+4) "sum_of" [.p (.lst (s.wds.map .str))] h=some (.p s.enc,h):=by
 rw[run_eq P.sum_of rfl]
 obtain ⟨y2,y3,y4,q⟩:=lR P k (some (.p (.lst (s.wds.map .str)))) h s hs [] [] none none none (by simp;lia)
 rw[OJ,List.map_reverse,PP] at q
 have f:=oM h [.l [s.enc]] s.enc
 have sr:fK .rev [.lst (s.wds.map .str)]=some (s.wds.map .str).reverse:=rfl
 have q:d8 (evS (runN T G (k+3)) G soB) [(2,"word")] (s.wds.map D.str).reverse [some (.p (.lst (s.wds.map .str))),some (.r h.length),none,none,none] (h++[.l []])=some (.nx [some (.p (.lst (s.wds.map .str))),some (.r h.length),y2,y3,y4] (h++[.l [s.enc]])):=q
 generalize s.wds.map D.str=L at *
 generalize s.enc=EN at *
 have i0:∀ d:D,fq (.lst [d]) (.int (-1))=some d:=fun _=>rfl
 simp[-d8,-ef,jZ,jn,q,f,rd,i0]
end
theorem qx (a:List D) (x:D) (b:List D) {i:Int} (hi:i=(a.length:Int)):fq (.lst (a++x :: b)) (.int i)=some x:=by
 subst hi
 show atP _ ((a.length:Nat):Int)=_
 rw[jW]
 simp
theorem Df (a b c:List D) {i j:Int} (hi:i=(a.length:Int)) (hj:j=((a.length+b.length:Nat):Int)):pq (.lst (a++b++c)) (some i) (some j)=some (.lst b):=by
 have e1:clip (a++b++c).length 0 (some i)=a.length:=by
  show (if i < 0 then (i+((a++b++c).length:Int)).toNat else if i ≤ ((a++b++c).length:Int) then i.toNat else (a++b++c).length)=a.length
  rw[if_neg (by lia),if_pos (by simp only[Oa];lia),hi];rfl
 have e2:clip (a++b++c).length (a++b++c).length (some j)=a.length+b.length:=by
  show (if j < 0 then (j+((a++b++c).length:Int)).toNat else if j ≤ ((a++b++c).length:Int) then j.toNat else (a++b++c).length)=a.length+b.length
  rw[if_neg (by lia),if_pos (by simp only[Oa];lia),hj];rfl
 show some (D.lst (cut (a++b++c) (some i) (some j)))=_
 unfold cut
 rw[e1,e2]
 simp
theorem Dg {s:Sm} (hs:s.ok):(dB s.hd iC).getD (.int 0)=.int (s.inn.length:Int):=by
 cases s with
 | num n=>rw[show (Sm.num n).hd=dI n from rfl,qw hs];rfl
 | nam i=>rw[show (Sm.nam i).hd=NR i.w from rfl,vG i];rfl
 | cell s=>rfl
 | two o a b=>rw[show (Sm.two o a b).hd=NR o.w from rfl,vz o];rfl
noncomputable def seC:E:=(.and (.cmp .gt (.var 2) (.cst (.int 0))) (.cmp .lt (.var 1) (.bi .len false (.cons (.var 0) .nil))))
section
theorem Dh (P:P80 T G) (F:FK → List W → HH → Option (W×HH)) (h:HH) (post:List Str) (W':List D):∀ (m:Nat) (stk:List Sm) (pre:List Str) (i j:Int),szs stk ≤ m → i=(pre.length:Int) → j=(stk.length:Int) → W'.length ≤ 900 → (∀ s∈stk,s.ok) → W'=(pre++stk.flatMap Sm.wds++post).map .str →
 fG (BT.ev F G seC) (evS F G seB) (m+1) [some (.p (.lst W')),some (.p (.int i)),some (.p (.int j))] h=some (.nx [some (.p (.lst W')),some (.p (.int (i+szs stk))),some (.p (.int 0))] h):=by
 intro m
 induction m with
 | zero =>
  intro stk pre i j hs hi hj hl hok hW
  have:stk=[]:=by
   have:=j4 stk
   exact Px (by lia)
  subst this
  have hj:j=0:=hj
  subst hj
  simp[fG,seC,szs]
 | succ m ih =>
  intro stk pre i j hs hi hj hl hok hW
  cases stk with
  | nil =>
   have hj:j=0:=hj
   subst hj
   simp[fG,seC,szs]
  | cons s l =>
   have e:=nk s l
   have ok1:=hok s NW
   have hW2:W'=(pre++[s.hd]++(s.inn++l).flatMap Sm.wds++post).map .str:=by
    rw[hW,R6,tU s,Uz]
    simp
   have hW3:W'=pre.map .str++.str s.hd :: (((s.inn++l).flatMap Sm.wds++post).map .str):=by
    rw[hW2];simp
   have q:=ih (s.inn++l) (pre++[s.hd]) (i+1) (j+((s.inn.length:Int) - 1)) (by lia) (by simp;lia) (by simp only[Oa,hj,N7];lia) hl (fun t ht=>by
    rcases List.mem_append.mp ht with z | z
    ·exact tV ok1 t z
    ·exact hok t (NU _ z)) hW2
   have l1:(W'.length:Int)=(pre.length:Int)+1+((((s.inn++l).flatMap Sm.wds++post).length:Nat):Int):=by
    rw[hW3,Oa,N7,N5,N5];lia
   have i1:i < (W'.length:Int):=by lia
   have j1:(0:Int) < j:=by rw[hj,N7];lia
   have x0:fq (.lst W') (.int i)=some (.str s.hd):=by
    rw[hW3];exact qx _ _ _ (by simpa using hi)
   have g:=dg iC s.hd (.int 0) h
   rw[Dg ok1] at g
   have hl2:W'.length ≤ 100000:=by lia
   have hc:BT.ev F G seC [some (.p (.lst W')),some (.p (.int i)),some (.p (.int j))] h=some (.p (.bl true),h):=by
    simp[seC,i1,j1,hl2]
   have hb:evS F G seB [some (.p (.lst W')),some (.p (.int i)),some (.p (.int j))] h =
    some (.nx [some (.p (.lst W')),some (.p (.int (i+1))),some (.p (.int (j+((s.inn.length:Int) - 1))))] h):=by
    simp[-ef,seB,x0,P.INNER_COUNTS,g]
   rw[fG,hc,sZ,pG,hb,eW,q,e]
   rw[show i+1+(szs (s.inn++l):Int)=i+((szs (s.inn++l)+1:Nat):Int) by lia]
theorem qy (P:P80 T G) (k:Nat) {s:Sm} (hs:s.ok) (hz:s.size ≤ 100) (pre post:List Str) (hl:(pre++s.wds++post).length ≤ 900) {i:Int} (hi:i=(pre.length:Int)) (h:HH) :
 runN T G (k+1) "sum_end" [.p (.lst ((pre++s.wds++post).map .str)),.p (.int i)] h=some (.p (.int (i+s.size)),h):=by
 rw[run_eq P.sum_end rfl]
 have q:=Dh P (runN T G k) h post ((pre++s.wds++post).map .str) 99999 [s] pre i 1 (by simp[szs];lia) hi rfl (by rw[N5];exact hl) (fun t ht=>by
  have:t=s:=by simpa using ht
  subst this;exact hs) (by simp)
 have e:szs [s]=s.size:=by simp[szs]
 rw[e] at q
 generalize (pre++s.wds++post).map D.str=L at *
 have eq:jj=⟨["words","start"],["words","start","missing"],.seq (.set 2 (.cst (.int 1))) (.seq (.whl seC seB) (.ret (.var 1)))⟩:=rfl
 rw[eq]
 simp[turns,q,cS]
theorem ud (P:P80 T G) (k:Nat) {n:Int} (hn:Wth n) (h:HH):runN T G (k+2) "is_worth" [.p (.int n)] h=some (.p (.bl true),h):=by
 rw[run_eq P.is_worth rfl]
 have a:=kQ P k n h
 obtain ⟨h0,h1⟩:=hn
 have h2:n < 10007:=by lia
 simp[iz,a,P.WORTH_COUNT,h0,h2,cS]
theorem oS (P:P80 T G) (k:Nat) (x:Nm) (h:HH):runN T G (k+1) "is_name" [.p (.str x.w)] h=some (.p (.bl true),h):=by
 rw[run_eq P.is_name rfl]
 have g:G "LETTERS"=some (.p (.tup C5)):=P.LETTERS
 have m:=C6 x
 generalize C5=L at *
 simp[-eY,g9,g,m,cS]
theorem ue (P:P80 T G) (k:Nat) {p n:Nat} (hp:p ≤ n) (h:HH):runN T G (k+2) "is_place" [.p (.int p),.p (.int n)] h=some (.p (.bl true),h):=by
 rw[run_eq P.is_place rfl]
 have a:=kQ P k p h
 simp[iA,a,hp,cS]
theorem gc (P:P80 T G) (k:Nat) (x:Str) (ds:List D) (hl:ds.length ≤ 100) (h:HH):runN T G (k+1) "first_word" [.p (.tup (.str x :: ds))] h=some (.p (.str x),h):=by
 rw[run_eq P.first_word rfl]
 have i0:fq (.tup (.str x :: ds)) (.int 0)=some (.str x):=by
  show atP _ ((0:Nat):Int)=_
  rw[jW];rfl
 have l1:ds.length+1 ≤ 100000:=by lia
 have l2:(0:Int) < (ds.length:Int)+1:=by lia
 simp[-sV,fR,i0,l1,l2,cS]
theorem xy (P:P80 T G) (k:Nat) {s:Sm} (hs:s.ok) (h:HH):runN T G (k+3) "has_sum_form" [.p s.enc] h=some (.p (.bl true),h):=by
 rw[run_eq P.has_sum_form rfl]
 cases s with
 | num n =>
  have a:=gc P (k+1) "num" [.int n] (by simp) h
  have b:=ud P k hs h
  simp[dG,Sm.enc,a,b,cS]
 | nam i =>
  have a:=gc P (k+1) "name" [.str i.w] (by simp) h
  have b:=oS P (k+1) i h
  simp[dG,Sm.enc,a,b,cS]
 | cell s =>
  have a:=gc P (k+1) "cell" [s.enc] (by simp) h
  simp[dG,Sm.enc,a,P.INNER_COUNTS,iC,cS]
 | two o s t =>
  have a:=gc P (k+1) o.w [s.enc,t.enc] (by simp) h
  cases o<;>(simp[Op.w] at a;simp[dG,Sm.enc,a,Op.w,P.INNER_COUNTS,iC,cS])
noncomputable def isC:E:=(.cmp .gt (.bi .len false (.cons (.var 1) .nil)) (.cst (.int 0)))
theorem Di (P:P80 T G) (k:Nat) (h:HH) (t0:W):∀ (m:Nat) (stk:List Sm) (c:Int) (x:Option W),szs stk ≤ m → 0 ≤ c → c+szs stk ≤ 15 → (∀ s∈stk,s.ok) →
 ∃ x' c',fG (BT.ev (runN T G (k+3)) G isC) (evS (runN T G (k+3)) G Aj) (m+1) [some t0,some (.r h.length),some (.p (.int c)),x] (h++[.l (stk.reverse.map Sm.enc)]) =
  some (.nx [some t0,some (.r h.length),c',x'] (h++[.l []])):=by
 intro m
 induction m with
 | zero =>
  intro stk c x hs _ _ _
  have:stk=[]:=by
   have:=j4 stk
   exact Px (by lia)
  subst this
  exact ⟨x,some (.p (.int c)),by simp[fG,isC,rd]⟩
 | succ m ih =>
  intro stk c x hs hc0 hl hok
  cases stk with
  | nil=>exact ⟨x,some (.p (.int c)),by simp[fG,isC,rd]⟩
  | cons s l =>
   have e:=nk s l
   have e2:szs (s.inn.reverse++l)=szs (s.inn++l):=by rw[kN,kN,xq]
   have ok1:=hok s NW
   obtain ⟨x',c',q⟩:=ih (s.inn.reverse++l) (c+1) (some (.p s.enc)) (by lia) (by lia) (by lia) (fun t ht=>by
    rcases List.mem_append.mp ht with z | z
    ·exact tV ok1 t (List.mem_reverse.mp z)
    ·exact hok t (NU _ z))
   refine ⟨x',c',?_⟩
   have r:=nj P (k+2) s
   have r2:=xy P k ok1
   have hl2:=j4 (s.inn++l)
   rw[Oa] at hl2
   have l1:l.length+s.inn.length ≤ 100000:=by lia
   have l2:l.length+1 ≤ 100000:=by lia
   have c1:(0:Int) < (l.length:Int)+1:=by lia
   have c2:¬ (15 < c+1):=by lia
   have hc:BT.ev (runN T G (k+3)) G isC [some t0,some (.r h.length),some (.p (.int c)),x] (h++[.l ((s :: l).reverse.map Sm.enc)])=some (.p (.bl true),h++[.l ((s :: l).reverse.map Sm.enc)]):=by
    simp[isC,rd,c1,l2]
   have hb:evS (runN T G (k+3)) G Aj [some t0,some (.r h.length),some (.p (.int c)),x] (h++[.l ((s :: l).reverse.map Sm.enc)]) =
    some (.nx [some t0,some (.r h.length),some (.p (.int (c+1))),some (.p s.enc)] (h++[.l ((s.inn.reverse++l).reverse.map Sm.enc)])):=by
    simp[Aj,P.MOST_PARTS,r,r2,l1,c2]
   rw[fG,hc,sZ,pG,hb,eW,q]
theorem lq (P:P80 T G) (k:Nat) {s:Sm} (hs:m8 s) (h:HH):runN T G (k+4) "is_sum" [.p s.enc] h=some (.p (.bl true),h):=by
 rw[run_eq P.is_sum rfl]
 have hz:=hs.2
 obtain ⟨x',c',q⟩:=Di P k h (.p s.enc) 99999 [s] 0 none (by simp only[szs,OA,Qa,Q6,Se];lia) (by decide) (by simp only[szs,OA,Qa,Q6,Se];lia) (fun t ht=>by
  have:t=s:=by simpa using ht
  subst this;exact hs.1)
 simp only[TR,OA,Qa] at q
 have f:=oM h [.l []] (.bl true)
 have eq:jX=⟨["thing"],["thing","waiting","parts","part"],.seq (.set 1 (.lst true (.cons (.var 0) .nil))) (.seq (.set 2 (.cst (.int 0))) (.seq (.whl isC Aj) (.ret (.cst (.bl true)))))⟩:=rfl
 rw[eq]
 simp[turns,q,f]
theorem xA (P:P80 T G) (k:Nat) {n:Nat}{p:Prt} (hp:f9 n p) (h:HH):runN T G (k+5) "fits" [.p p.d,.p (.str p.f),.p (.int n)] h=some (.p (.bl true),h):=by
 rw[run_eq P.fits rfl]
 cases hp with
 | sm s hs =>
  have a:=lq P k hs h
  simp[kL,Prt.sm,a,cS]
 | nm x =>
  have a:=oS P (k+3) x h
  simp[kL,Prt.nm,a,cS]
 | pl q hq =>
  have a:=ue P (k+2) hq h
  simp[kL,Prt.pl,a,cS]
noncomputable def frE:E:=(.call "fits" (.cons (.var 0) (.cons (.var 1) (.cons (.var 2) .nil))))
theorem vI (F:FK → List W → HH → Option (W×HH)) (n:Int) (h:HH):∀ ps:List Prt,(∀ p∈ps,F (.f "fits") [.p p.d,.p (.str p.f),.p (.int n)] h=some (.p (.bl true),h)) →
 c9 (dP (evs F G .nil) (BT.ev F G frE) [some (.p (.int n))]) 2 (ps.map fun p=>.tup [p.d,.str p.f]) h=some ((ps.map fun _=>true).map .bl,h)
 | [],_=>rfl
 | p :: ps,hp=>by
  have q:c9 (dP (evs F G .nil) (BT.ev F G frE) [some (.p (.int n))]) 2 (ps.map fun p=>.tup [p.d,.str p.f]) h=some ((ps.map fun _=>true).map .bl,h):=vI F n h ps fun x hx=>hp x (NU _ hx)
  have f1:=hp p NW
  have st:c9 (dP (evs F G .nil) (BT.ev F G frE) [some (.p (.int n))]) 2 ((p :: ps).map fun p=>.tup [p.d,.str p.f]) h=bnd (bnd (F (.f "fits") [.p p.d,.p (.str p.f),.p (.int n)] h) jv) (mJ (c9 (dP (evs F G .nil) (BT.ev F G frE) [some (.p (.int n))]) 2 (ps.map fun p=>.tup [p.d,.str p.f]))):=rfl
  rw[st,f1,dm]
  show bnd (some (some (D.bl true),h)) _=_
  rw[dm,i6,q];rfl
theorem all_true {α:Type} (l:List α):((l.map fun _=>true).all id)=true:=by simp
theorem rT (P:P80 T G) (k:Nat) {n:Nat}{r:Rw} (hr:r.ok n) (h:HH):runN T G (k+6) "is_row" [.p r.enc,.p (.int n)] h=some (.p (.bl true),h):=by
 rw[run_eq P.is_row rfl,j6]
 have lp:=j7 r
 have a:=gc P (k+4) r.wd (r.prt.map Prt.d) (by rw[N5];lia) h
 have g:=dg1 C9 r.wd h
 rw[qp r] at g
 have c:=vI (G:=G) (runN T G (k+5)) n h r.prt fun p hp=>xA P k (iE hr p hp) h
 have s0:=JX (.str r.wd) (r.prt.map Prt.d)
 have z:=qu r.prt
 have ld:(r.prt.map Prt.d).length=(r.prt.map fun p=>D.str p.f).length:=by simp
 have ld2:(r.prt.map fun p=>D.str p.f).length ≤ 2:=by simpa using lp
 have t:=tY (r.prt.map fun _=>true) h
 rw[all_true] at t
 have lb:((r.prt.map fun _=>true).map D.bl).length ≤ 100000:=by simp;lia
 generalize r.prt.map Prt.d=PD at *
 generalize (r.prt.map fun p=>D.str p.f)=PF at *
 generalize (r.prt.map fun p=>D.tup [p.d,.str p.f])=PZ at *
 generalize ((r.prt.map fun _=>true).map D.bl)=PB at *
 have sr:fK .zipG [.tup PD,.tup PF]=some PZ:=by rw[fW,← z];rfl
 have c2:BT.ev (runN T G (k+5)) G (.comp false .zipG (.cons (.slc (.var 0) (.cons (.cst (.int 1)) .nil) .nil) (.cons (.var 2) .nil)) ["part","form"] [(1,"row_count")] .nil frE) [some (.p (.tup (.str r.wd :: PD))),some (.p (.int n)),some (.p (.tup PF))] h=some (.p (.lst PB),h) :=
  cgo (ws:=[.p (.tup PD),.p (.tup PF)]) (h1:=h) (fs:=[some (.p (.int n))]) (by simp[-yt,s0]) (by rw[show rds [.p (.tup PD),.p (.tup PF)] h=some [.tup PD,.tup PF] from rfl,OI,sr]) rfl rfl c lb
 have eq:jY=⟨["thing","row_count"],["thing","row_count","forms"],.seq (.set 2 (.tx .dget (.cons (.glo "ROW_FORMS") (.cons (.call "first_word" (.cons (.var 0) .nil)) .nil)))) (.seq (.ife (.or (.cmp .isN (.var 2) (.cst .non)) (.cmp .ne (.bi .len false (.cons (.var 0) .nil)) (.bin .add (.bi .len false (.cons (.var 2) .nil)) (.cst (.int 1))))) (.ret (.cst (.bl false))) .nil) (.ret (.tx .all (.cons (.comp false .zipG (.cons (.slc (.var 0) (.cons (.cst (.int 1)) .nil) .nil) (.cons (.var 2) .nil)) ["part","form"] [(1,"row_count")] .nil frE) .nil))))⟩:=rfl
 rw[eq]
 generalize (E.comp false .zipG (.cons (.slc (.var 0) (.cons (.cst (.int 1)) .nil) .nil) (.cons (.var 2) .nil)) ["part","form"] [(1,"row_count")] .nil frE)=EE at *
 have l1:PF.length+1 ≤ 100000:=by lia
 have l2:PF.length ≤ 100000:=by lia
 simp[P.ROW_FORMS,a,g,ld,l1,l2,c2,t,cS]
noncomputable def ipE:E:=(.call "is_row" (.cons (.var 0) (.cons (.bi .len false (.cons (.var 1) .nil)) .nil)))
theorem vJ (F:FK → List W → HH → Option (W×HH)) (ds:List D) (hd:ds.length ≤ 1000) (h:HH):∀ pg:Pg,(∀ r∈pg,F (.f "is_row") [.p r.enc,.p (.int ds.length)] h=some (.p (.bl true),h)) →
 c9 (dP (evs F G .nil) (BT.ev F G ipE) [some (.p (.tup ds))]) 1 (pg.map Rw.enc) h=some ((pg.map fun _=>true).map .bl,h)
 | [],_=>rfl
 | r :: pg,hp=>by
  have q:c9 (dP (evs F G .nil) (BT.ev F G ipE) [some (.p (.tup ds))]) 1 (pg.map Rw.enc) h=some ((pg.map fun _=>true).map .bl,h):=vJ F ds hd h pg fun x hx=>hp x (NU _ hx)
  have f1:=hp r NW
  have l1:ds.length ≤ 100000:=by lia
  have el:BT.ev F G ipE [some (.p r.enc),some (.p (.tup ds))] h=some (.p (.bl true),h):=by simp[ipE,l1,f1]
  have st:c9 (dP (evs F G .nil) (BT.ev F G ipE) [some (.p (.tup ds))]) 1 ((r :: pg).map Rw.enc) h=bnd (bnd (BT.ev F G ipE [some (.p r.enc),some (.p (.tup ds))] h) jv) (mJ (c9 (dP (evs F G .nil) (BT.ev F G ipE) [some (.p (.tup ds))]) 1 (pg.map Rw.enc))):=rfl
  rw[st,el,dm]
  show bnd (some (some (D.bl true),h)) _=_
  rw[dm,i6,q];rfl
theorem fO (P:P80 T G) (k:Nat) {pg:Pg} (hl:pg.length ≤ 20) (hok:∀ r∈pg,r.ok pg.length) (h:HH):runN T G (k+7) "is_program" [.p (dZ pg)] h=some (.p (.bl true),h):=by
 rw[run_eq P.is_program rfl]
 have c:=vJ (G:=G) (runN T G (k+6)) (pg.map Rw.enc) (by rw[N5];lia) h pg fun r hr=>by
  have:=rT P k (hok r hr) h
  rw[N5];exact this
 have t:=tY (pg.map fun _=>true) h
 rw[all_true] at t
 have lb:((pg.map fun _=>true).map D.bl).length ≤ 100000:=by simp;lia
 have l1:(pg.map Rw.enc).length ≤ 20:=by simpa using hl
 rw[show dZ pg=.tup (pg.map Rw.enc) from rfl]
 generalize ((pg.map fun _=>true).map D.bl)=PB at *
 generalize pg.map Rw.enc=PE at *
 have c2:BT.ev (runN T G (k+6)) G (.comp false .seq (.cons (.var 0) .nil) ["row"] [(0,"thing")] .nil ipE) [some (.p (.tup PE))] h=some (.p (.lst PB),h) :=
  cgo (ws:=[.p (.tup PE)]) (h1:=h) (fs:=[some (.p (.tup PE))]) (by simp) rfl rfl rfl c lb
 have eq:fS=⟨["thing"],["thing"],.seq (.ife (.or (.not (.bi .isTuple false (.cons (.var 0) .nil))) (.cmp .gt (.bi .len false (.cons (.var 0) .nil)) (.glo "MOST_ROWS"))) (.ret (.cst (.bl false))) .nil) (.ret (.tx .all (.cons (.comp false .seq (.cons (.var 0) .nil) ["row"] [(0,"thing")] .nil ipE) .nil)))⟩:=rfl
 rw[eq]
 generalize (E.comp false .seq (.cons (.var 0) .nil) ["row"] [(0,"thing")] .nil ipE)=EE at *
 have l2:¬ (20 < (PE.length:Int)):=by lia
 have l3:PE.length ≤ 100000:=by lia
 have l4:¬ (20 < PE.length):=by lia
 simp[P.MOST_ROWS,l2,l3,l4,c2,t,cS]
end
theorem vK {n:Int} (hn:Wth n):Fre 32 (dI n) ∧ Fre 10 (dI n):=by
 have f:=j9 hn
 rw[OL] at f
 constructor
 ·intro h;have:=f 32 h;exact absurd this (by decide +kernel)
 ·intro h;have:=f 10 h;exact absurd this (by decide +kernel)
theorem Am (i:Nm):Fre 32 (NR i.w) ∧ Fre 10 (NR i.w):=by
 unfold Fre;cases i<;>decide +kernel
theorem GQ (o:Op):Fre 32 (NR o.w) ∧ Fre 10 (NR o.w):=by
 unfold Fre;cases o<;>decide +kernel
theorem An:Fre 32 ("cell":Str) ∧ Fre 10 ("cell":Str):=by unfold Fre;decide +kernel
theorem GR (r:Rw):Fre 32 r.wd ∧ Fre 10 r.wd:=by
 unfold Fre
 have:∀ w∈(["set","put","ask","say","jump","unless","call","back","stop"]:List String),32∉(NR w).cps.toList ∧ 10∉(NR w).cps.toList:=by decide +kernel
 exact this _ (vA r)
theorem jk:∀ {s:Sm},s.ok → ∀ t∈s.wds,Fre 32 t ∧ Fre 10 t
 | .num n,h,t,ht=>by
  have:t=dI n:=by simpa [Sm.wds] using ht
  subst this
  exact vK h
 | .nam i,h,t,ht=>by
  have:t=NR i.w:=by simpa [Sm.wds] using ht
  subst this
  exact Am i
 | .cell s,h,t,ht=>by
  rcases List.mem_cons.mp ht with rfl | ht
  ·exact An
  ·exact jk (s:=s) h t ht
 | .two o a b,h,t,ht=>by
  rcases List.mem_cons.mp ht with rfl | ht
  ·exact GQ o
  ·rcases List.mem_append.mp ht with ht | ht
   ·exact jk (s:=a) h.1 t ht
   ·exact jk (s:=b) h.2 t ht
theorem Dj {n:Nat} (hn:n ≤ 100) {p:Prt} (h:f9 n p):∀ t∈p.ws,Fre 32 t ∧ Fre 10 t:=by
 cases h with
 | sm s h=>exact jk h.1
 | nm x=>intro t ht;rw[show t=NR x.w by simpa [Prt.nm] using ht];exact Am x
 | pl q h=>intro t ht;rw[show t=dI q by simpa [Prt.pl] using ht];exact vK (qt hn h)
theorem vL {n:Nat} (hn:n ≤ 100) {r:Rw} (hr:r.ok n):∀ t∈r.wds,Fre 32 t ∧ Fre 10 t:=by
 intro t ht
 rcases List.mem_cons.mp ht with rfl | ht
 ·exact GR r
 ·obtain ⟨l,hl,h2⟩:=List.mem_flatten.mp ht
  obtain ⟨p,hp,rfl⟩:=List.mem_map.mp hl
  exact Dj hn (iE hr p hp) t h2
theorem rV {c:Nat}{y:Str} (hy:Fre c y):∀ ts:List Str,(∀ t∈ts,Fre c t) → Fre c (NZ y ts)
 | [],_=>by intro h;cases h
 | [x],h=>h x NW
 | x :: x' :: r,h=>by
  have ih:=rV hy (x' :: r) fun t ht=>h t (NU _ ht)
  have h1:=h x NW
  intro m
  have m:c∈(x.cps++y.cps++(NZ y (x' :: r)).cps).toList:=m
  simp only[P5,List.mem_append] at m
  rcases m with (m | m) | m
  ·exact h1 m
  ·exact hy m
  ·exact ih m
theorem Dl {n:Nat} (hn:n ≤ 100) {r:Rw} (hr:r.ok n):Fre 10 r.txt :=
 rV (by unfold Fre;decide +kernel) _ fun t ht=>(vL hn hr t ht).2
theorem jm {s:Sm} (hs:s.ok):Txt.split s.txt " "=s.wds:=by
 have:=iy (c:=32) (kM s) fun t ht=>(jk hs t ht).1
 rw[← vD] at this
 exact this
theorem xB {n:Nat} (hn:n ≤ 100) {r:Rw} (hr:r.ok n):Txt.split r.txt " "=r.wds:=by
 have:=iy (c:=32) (ts:=r.wds) (by simp[Rw.wds]) fun t ht=>(vL hn hr t ht).1
 rw[← vD] at this
 exact this
theorem GS (pg:Pg):pgT pg=NZ ⟨#[10]⟩ (pg.map Rw.txt++[⟨#[]⟩]):=by
 have:=ni (pg.map Rw.txt)
 rw[← this,Qx]
 unfold pgT
 rw[D6]
 rfl
theorem rW {n:Nat} (hn:n ≤ 100) {pg:Pg} (hok:∀ r∈pg,r.ok n):Txt.split (pgT pg) "\n" = pg.map Rw.txt ++ [("":Str)]:=by
 rw[GS,JY,D6]
 refine iy (by simp) fun t ht=>?_
 rcases List.mem_append.mp ht with ht | ht
 ·obtain ⟨r,hr,rfl⟩:=List.mem_map.mp ht
  exact Dl hn (hok r hr)
 ·rw[show t=⟨#[]⟩ by simpa using ht]
  intro h;cases h
theorem kg {x:Str} (hx:x.length ≤ 100000) {y:Str} (hy:y.length=1) (h:HH):kTx .split [.p (.str x),.p (.str y)] h=some (.p (.lst ((Txt.split x y).map .str)),h):=by
 show ((if y.length=1 ∧ x.length ≤ 100000 then some (D.lst ((Txt.split x y).map .str)) else none).map fun d=>(W.p d,h))=_
 rw[if_pos ⟨hy,hx⟩];rfl
theorem vM {n:Nat} (hn:n ≤ 100) {pg:Pg} (hl:pg.length ≤ 100) (hok:∀ r∈pg,r.ok n):(pgT pg).length ≤ 100000:=by
 have:=join_le "" 218 (pg.map lnT) fun t ht=>by
  obtain ⟨r,hr,rfl⟩:=List.mem_map.mp ht
  exact qv hn (hok r hr)
 have e:("":Str).length=0:=rfl
 rw[e,N5] at this
 exact Om this (by lia)
section
variable {T:FK → Option Fn}{G:Str → Option W}
theorem Dm (P:P80 T G) {n:Nat} (hn:n ≤ 100) {p:Prt} (ok:f9 n p) (k:Nat) (pre post:List Str) (hl:(pre++p.ws++post).length ≤ 900) {b:Int} (hb:b=(pre.length:Int)) (w0 x5:Option W) (acc:List D) (ha:acc.length < 1000) (h:HH) :
 evS (runN T G (k+4)) G roB [w0,some (.p (.lst ((pre++p.ws++post).map .str))),some (.r h.length),some (.p (.int b)),some (.p (.str p.f)),x5] (h++[.l acc]) =
  some (.nx [w0,some (.p (.lst ((pre++p.ws++post).map .str))),some (.r h.length),some (.p (.int (b+p.ws.length))),some (.p (.str p.f)),some (.p (.int b))] (h++[.l (acc++[p.d])])):=by
 have ne:=Ak ok
 have lp:0 < p.ws.length:=List.length_pos_iff.mpr ne
 have l0:((pre++p.ws++post).map D.str).length=pre.length+p.ws.length+post.length:=by simp;lia
 have b1:¬ (b=(((pre++p.ws++post).map D.str).length:Int)):=by rw[l0];lia
 have l1:((pre++p.ws++post).map D.str).length ≤ 100000:=by rw[N5];lia
 have l2:acc.length < 100000:=by lia
 cases ok with
 | sm s hs =>
  have hz:=hs.2
  have a:=qy P (k+3) hs.1 (by lia) pre post hl hb (h++[.l acc])
  have c:=lg P k hs.1 (by lia) (h++[.l acc])
  have s0:pq (.lst ((pre++s.wds++post).map D.str)) (some b) (some (b+s.size))=some (.lst (s.wds.map .str)):=by
   rw[Po,Po]
   refine Df _ _ _ (by rw[N5];exact hb) ?_
   rw[N5,N5,gv];lia
  have e5:(Prt.sm s).ws=s.wds:=rfl
  rw[e5] at b1 l1 ⊢
  rw[gv]
  generalize (pre++s.wds++post).map D.str=L at *
  generalize s.wds.map D.str=L' at *
  simp[-yu,roB,Prt.sm,l1,l2,b1,a,c,s0]
 | nm x =>
  have a:=rS P (k+2) x (h++[.l acc])
  have i0:fq (.lst ((pre++[NR x.w]++post).map D.str)) (.int b)=some (.str x.w):=by
   rw[Ot,Po]
   exact qx _ _ _ (by rw[N5];exact hb)
  have e5:(Prt.nm x).ws=[NR x.w]:=rfl
  rw[e5] at b1 l1 ⊢
  generalize (pre++[NR x.w]++post).map D.str=L at *
  simp[-ef,roB,Prt.nm,l1,l2,b1,a,i0]
 | pl q hq =>
  have a:=oR P (k+2) (qt hn hq) (h++[.l acc])
  have i0:fq (.lst ((pre++[dI q]++post).map D.str)) (.int b)=some (.str (dI q)):=by
   rw[Ot,Po]
   exact qx _ _ _ (by rw[N5];exact hb)
  have e5:(Prt.pl q).ws=[dI q]:=rfl
  rw[e5] at b1 l1 ⊢
  generalize (pre++[dI q]++post).map D.str=L at *
  simp[-ef,roB,Prt.pl,l1,l2,b1,a,i0]
theorem vN (P:P80 T G) {n:Nat} (hn:n ≤ 100) (k:Nat) (w0:Option W) (h:HH) (L:List D):∀ (ps:List Prt) (pre:List Str) (acc:List D) (b:Int) (x4 x5:Option W),(∀ p∈ps,f9 n p) → L=(pre++(ps.map Prt.ws).flatten).map .str → L.length ≤ 900 → b=(pre.length:Int) → acc.length+ps.length ≤ 900 →
 ∃ y3 y4 y5,d8 (evS (runN T G (k+4)) G roB) [(4,"form")] (ps.map fun p=>.str p.f) [w0,some (.p (.lst L)),some (.r h.length),some (.p (.int b)),x4,x5] (h++[.l acc]) =
  some (.nx [w0,some (.p (.lst L)),some (.r h.length),y3,y4,y5] (h++[.l (acc++ps.map Prt.d)]))
 | [],pre,acc,b,x4,x5,_,_,_,_,_=>⟨_,_,_,by simp;exact ⟨rfl,rfl,rfl⟩⟩
 | p :: ps,pre,acc,b,x4,x5,hp,hL,hl,hb,ha=>by
  simp only[N7] at ha
  have eL:L=(pre++p.ws++(ps.map Prt.ws).flatten).map .str:=by rw[hL];simp
  have a:=Dm P hn (hp p NW) k pre (ps.map Prt.ws).flatten (by rw[eL,N5] at hl;exact hl) hb w0 x5 acc (by lia) h
  rw[← eL] at a
  obtain ⟨y3,y4,y5,q⟩:=vN P hn k w0 h L ps (pre++p.ws) (acc++[p.d]) (b+p.ws.length) (some (.p (.str p.f))) (some (.p (.int b))) (fun q hq=>hp q (NU _ hq)) eL hl (by rw[Oa];lia) (by simp;lia)
  refine ⟨y3,y4,y5,?_⟩
  have st:d8 (evS (runN T G (k+4)) G roB) [(4,"form")] ((p :: ps).map fun p=>.str p.f) [w0,some (.p (.lst L)),some (.r h.length),some (.p (.int b)),x4,x5] (h++[.l acc])=iG (evS (runN T G (k+4)) G roB [w0,some (.p (.lst L)),some (.r h.length),some (.p (.int b)),some (.p (.str p.f)),x5] (h++[.l acc])) (d8 (evS (runN T G (k+4)) G roB) [(4,"form")] (ps.map fun p=>.str p.f)):=rfl
  rw[st,a,eW,q]
  simp
theorem rX (P:P80 T G) {n:Nat} (hn:n ≤ 100) {r:Rw} (hr:r.ok n) (k:Nat) (h:HH):runN T G (k+5) "row_of" [.p (.str r.txt)] h=some (.p r.enc,h):=by
 rw[run_eq P.row_of rfl]
 have lw:=(vE hn hr).2
 have lt:=j8 hn hr
 have sp:=kg (x:=r.txt) (by lia) (y:=" ") rfl h
 rw[xB hn hr] at sp
 have lp:=j7 r
 obtain ⟨y3,y4,y5,q⟩:=vN P hn k (some (.p (.str r.txt))) h (r.wds.map .str) r.prt [r.wd] [.str r.wd] 1 none none (iE hr) rfl (by rw[N5];lia) rfl (by simp;lia)
 have i0:fq (.lst (r.wds.map .str)) (.int 0)=some (.str r.wd):=by
  show atP _ ((0:Nat):Int)=_
  rw[jW];rfl
 have g:=fun h=>dg C9 r.wd (.tup []) h
 rw[qp r] at g
 have f:=oM h [.l (.str r.wd :: r.prt.map Prt.d)] (.tup (.str r.wd :: r.prt.map Prt.d))
 rw[j6]
 have ll:(r.prt.map Prt.d).length ≤ 2:=by simpa using lp
 rw[show [D.str r.wd]++r.prt.map Prt.d=.str r.wd :: r.prt.map Prt.d from rfl] at q
 have sr:fK .seq [.tup (r.prt.map fun p=>.str p.f)]=some (r.prt.map fun p=>.str p.f):=rfl
 generalize r.wds.map D.str=L at *
 generalize r.prt.map Prt.d=PD at *
 generalize (r.prt.map fun p=>D.str p.f)=PF at *
 generalize r.txt=TX at *
 have l1:PD.length+1 ≤ 100000:=by lia
 simp[-d8,-ef,j0,sp,i0,P.ROW_FORMS,g,sr,jn,q,f,rd,l1]
theorem nQ (P:P80 T G) (k:Nat) {s:Sm} (hs:m8 s) (h:HH):runN T G (k+5) "read_sum" [.p (.str s.txt)] h=some (.p s.enc,h):=by
 rw[run_eq P.read_sum rfl]
 have hz:=hs.2
 have sp:=kg (x:=s.txt) (by have:=qo hs.1 (by lia);lia) (y:=" ") rfl h
 rw[jm hs.1] at sp
 have a:=lg P k hs.1 (by lia) h
 have b:=lq P k hs h
 have c:=dX P (k+2) hs.1 (by lia) h
 generalize s.wds.map D.str=L at *
 generalize s.txt=TX at *
 generalize s.enc=EN at *
 simp[iB,sp,a,b,c,cS]
theorem vO (F:FK → List W → HH → Option (W×HH)) (h:HH):∀ pg:Pg,(∀ r∈pg,F (.f "row_of") [.p (.str r.txt)] h=some (.p r.enc,h)) →
 c9 (dP (evs F G .nil) (BT.ev F G (.call "row_of" (.cons (.var 0) .nil))) []) 1 ((pg.map Rw.txt).map .str) h=some (pg.map Rw.enc,h)
 | [],_=>rfl
 | r :: pg,hp=>by
  have q:=vO F h pg fun x hx=>hp x (NU _ hx)
  have f1:=hp r NW
  have st:c9 (dP (evs F G .nil) (BT.ev F G (.call "row_of" (.cons (.var 0) .nil))) []) 1 (((r :: pg).map Rw.txt).map .str) h=bnd (bnd (F (.f "row_of") [.p (.str r.txt)] h) jv) (mJ (c9 (dP (evs F G .nil) (BT.ev F G (.call "row_of" (.cons (.var 0) .nil))) []) 1 ((pg.map Rw.txt).map .str))):=rfl
  rw[st,f1,dm]
  show bnd (some (some r.enc,h)) _=_
  rw[dm,i6,q];rfl
theorem Ao (l:List D) (x:D):pq (.lst (l++[x])) none (some (-1))=some (.lst l):=by
 have e1:clip (l++[x]).length 0 none=0:=rfl
 have e2:clip (l++[x]).length (l++[x]).length (some (-1))=l.length:=by
  show (if (-1:Int) < 0 then ((-1:Int)+((l++[x]).length:Int)).toNat else if (-1:Int) ≤ ((l++[x]).length:Int) then (-1:Int).toNat else (l++[x]).length)=l.length
  rw[if_pos (by decide),Oa,Rm];lia
 show some (D.lst (cut (l++[x]) none (some (-1))))=_
 unfold cut
 rw[e1,e2]
 simp
theorem kR (P:P80 T G) {pg:Pg} (hl:pg.length ≤ 20) (hok:∀ r∈pg,r.ok pg.length) (k:Nat) (h:HH):runN T G (k+8) "read" [.p (.str (pgT pg))] h=some (.p (dZ pg),h):=by
 rw[run_eq P.read rfl]
 have hn:pg.length ≤ 100:=by lia
 have sp:=kg (x:=pgT pg) (vM hn hn hok) (y:="\n") rfl h
 rw[rW hn hok,Po] at sp
 have s0:=Ao ((pg.map Rw.txt).map .str) (.str "")
 have c:=vO (G:=G) (runN T G (k+7)) h pg fun r hr=>rX P hn (hok r hr) (k+2) h
 have a:=fO P k hl hok h
 have b:=fU P hn hn hok (k+3) h
 have l1:(pg.map Rw.enc).length ≤ 100:=by simpa using hn
 rw[show dZ pg=.tup (pg.map Rw.enc) from rfl] at *
 rw[show [("":Str)].map D.str=[.str ""] from rfl] at sp
 generalize (pg.map Rw.txt).map D.str++[.str ""]=L at *
 generalize (pg.map Rw.txt).map D.str=L' at *
 generalize pg.map Rw.enc=PE at *
 generalize pgT pg=TX at *
 have ec:BT.ev (runN T G (k+7)) G (.comp false .seq (.cons (.slc (.tx .split (.cons (.var 0) (.cons (.cst (.str "\n")) .nil))) .nil (.cons (.neg (.cst (.int 1))) .nil)) .nil) ["line"] [] .nil (.call "row_of" (.cons (.var 0) .nil))) [some (.p (.str TX)),none] h=some (.p (.lst PE),h) :=
  cgo (ws:=[.p (.lst L')]) (h1:=h) (fs:=[]) (by simp[-yu,sp,s0]) rfl rfl rfl c (by lia)
 rw[qj]
 generalize (E.comp false .seq (.cons (.slc (.tx .split (.cons (.var 0) (.cons (.cst (.str "\n")) .nil))) .nil (.cons (.neg (.cst (.int 1))) .nil)) .nil) ["line"] [] .nil (.call "row_of" (.cons (.var 0) .nil)))=EE at *
 have l2:PE.length ≤ 100000:=by lia
 simp[ec,a,b,l2,cS]
end
theorem kT:∀ (s:Sm) (n:Nat),s.size ≤ n → dok n s.enc=true
 | .num i,n,h=>by
  obtain ⟨m,rfl⟩:∃ m,n=m+1:=⟨n - 1,by have:1 ≤ n:=h;lia⟩
  simp[Sm.enc]
 | .nam i,n,h=>by
  obtain ⟨m,rfl⟩:∃ m,n=m+1:=⟨n - 1,by have:1 ≤ n:=h;lia⟩
  simp[Sm.enc]
 | .cell s,n,h=>by
  have h:s.size+1 ≤ n:=h
  obtain ⟨m,rfl⟩:∃ m,n=m+1:=⟨n - 1,by lia⟩
  simp[Sm.enc,kT s m (by lia)]
 | .two o a b,n,h=>by
  have h:a.size+b.size+1 ≤ n:=h
  obtain ⟨m,rfl⟩:∃ m,n=m+1:=⟨n - 1,by lia⟩
  simp[Sm.enc,kT a m (by lia),kT b m (by lia)]
theorem Dn {n m:Nat} (hm:15 ≤ m) {p:Prt} (h:f9 n p):dok m p.d=true:=by
 cases h with
 | sm s h=>exact kT s m (Om h.2 hm)
 | nm x=>simp[Prt.nm]
 | pl q h=>simp[Prt.pl]
theorem GT {n m:Nat} (hm:15 ≤ m) {r:Rw} (h:r.ok n):dok (m+1) r.enc=true:=by
 rw[j6,pA,Tv,Bk,Bool.true_and,Uc,OL]
 exact fun p hp=>Dn hm (iE h p hp)
theorem uf {n:Nat}{pg:Pg} (h:∀ r∈pg,r.ok n):dok 100 (dZ pg)=true:=by
 show dok (99+1) (.tup (pg.map Rw.enc))=true
 rw[pA,Uc,OL]
 exact fun r hr=>GT (m:=98) (by decide) (h r hr)
theorem rY {x:D} (h:dok 100 x=true):eS .eq x x=some true:=by rw[gf,if_pos (mq h),fj]
section
variable {T:FK → Option Fn}{G:Str → Option W}
end
noncomputable def qz:S:=(.ife (.cmp .mem (.idx (.var 9) (.cst (.int 0))) (.tup (.cons (.cst (.str "set")) (.cons (.cst (.str "put")) (.cons (.cst (.str "say")) (.cons (.cst (.str "ask")) (.cons (.cst (.str "back")) (.cons (.cst (.str "stop")) .nil)))))))) (.seq (.set 8 (.bin .add (.var 8) (.tup (.cons (.var 9) .nil))))
 (.ife (.or (.cmp .ne (.call "written" (.cons (.tup (.cons (.var 9) .nil)) .nil)) (.bin .add (.var 10) (.cst (.str "\n")))) (.cmp .ne (.call "read" (.cons (.bin .add (.var 10) (.cst (.str "\n"))) .nil)) (.tup (.cons (.var 9) .nil)))) (.ret (.cst (.bl false))) .nil)) .nil)
noncomputable def Do:S:=(.seq (.ife (.or (.not (.call "is_program" (.cons (.var 8) .nil))) (.cmp .ne (.call "read" (.cons (.call "written" (.cons (.var 8) .nil)) .nil)) (.var 8))) (.ret (.cst (.bl false))) .nil)
 (.ret (.or (.not (.call "is_program" (.cons (.bin .add (.var 8) (.var 5)) .nil))) (.cmp .eq (.call "read" (.cons (.bin .add (.call "written" (.cons (.var 8) .nil)) (.var 6)) .nil)) (.bin .add (.var 8) (.var 5))))))
noncomputable def J4:S:=(.seq (.set 8 (.tup .nil))
 (.seq (.for [(9,"_law_row_here"),(10,"_law_line")] .zipG (.cons (.var 5) (.cons (.var 7) .nil)) qz)
 Do))
noncomputable def J5:S:=(.seq (.set 5 (.call "_law_program" (.cons (.var 0) (.cons (.cst (.int 20)) .nil))))
 (.seq (.set 6 (.call "written" (.cons (.var 5) .nil)))
 (.seq (.set 7 (.tx .split (.cons (.var 6) (.cons (.cst (.str "\n")) .nil))))
 (.seq (.ife (.or (.cmp .ne (.idx (.var 7) (.neg (.cst (.int 1)))) (.cst (.str ""))) (.cmp .ne (.bi .len false (.cons (.var 7) .nil)) (.bin .add (.bi .len false (.cons (.var 5) .nil)) (.cst (.int 1))))) (.ret (.cst (.bl false))) .nil)
 J4))))
noncomputable def iV:Fn:=⟨["_law_script"],["_law_script","_law_one","_law_two","_law_mine","_law_yours","_law_program_here","_law_text","_law_lines","_law_bare","_law_row_here","_law_line"],
 (.seq (.set 1 (.call "_law_sum" (.cons (.var 0) (.cons (.cst (.int 1)) (.cons (.cst (.int 3)) .nil)))))
 (.seq (.set 2 (.call "_law_sum" (.cons (.var 0) (.cons (.cst (.int 700)) (.cons (.cst (.int 3)) .nil)))))
 (.seq (.set 3 (.call "written_sum" (.cons (.var 1) .nil)))
 (.seq (.set 4 (.call "written_sum" (.cons (.var 2) .nil)))
 (.seq (.ife (.or (.cmp .ne (.cmp .eq (.var 3) (.var 4)) (.cmp .eq (.var 1) (.var 2))) (.cmp .eq (.tx .pre (.cons (.var 4) (.cons (.bin .add (.bi .len false (.cons (.var 3) .nil)) (.cst (.int 1))) .nil))) (.bin .add (.var 3) (.cst (.str " "))))) (.ret (.cst (.bl false))) .nil)
 (.seq (.ife (.or (.cmp .ne (.call "written_sum" (.cons (.tup (.cons (.cst (.str "less")) (.cons (.var 1) (.cons (.var 2) .nil)))) .nil)) (.bin .add (.bin .add (.bin .add (.cst (.str "less ")) (.var 3)) (.cst (.str " "))) (.var 4))) (.cmp .ne (.call "read_sum" (.cons (.var 3) .nil)) (.var 1))) (.ret (.cst (.bl false))) .nil)
 J5))))))⟩
theorem Aq {i j:Nm} (h:NR i.w=NR j.w):i=j:=by
 cases i<;>cases j<;>first | rfl | exact absurd h (by decide +kernel)
theorem Ar {i j:Op} (h:NR i.w=NR j.w):i=j:=by
 cases i<;>cases j<;>first | rfl | exact absurd h (by decide +kernel)
theorem Dp {n m:Int} (hn:Wth n) (hm:Wth m) (h:dI n=dI m):n=m:=by
 have a:Qm (dI n)=some n:=QX hn.1 (by have:=hn.2;lia)
 have b:Qm (dI m)=some m:=QX hm.1 (by have:=hm.2;lia)
 rw[h,b] at a
 exact (N4 a).symm
theorem As {n:Int} (hn:Wth n) (i:Nm):dI n≠NR i.w:=fun h=>by
 have a:=j9 hn
 rw[h,vF i] at a
 exact absurd a (by decide)
theorem rZ {n:Int} (hn:Wth n):dI n≠("cell":Str):=fun h=>by
 have a:=qw hn
 rw[h] at a;cases a
theorem Au {n:Int} (hn:Wth n) (o:Op):dI n≠NR o.w:=fun h=>by
 have a:=qw hn
 rw[h,vz] at a;cases a
theorem vP (i:Nm):NR i.w≠("cell":Str):=fun h=>by
 have a:=vG i
 rw[h] at a;cases a
theorem D7 (i:Nm) (o:Op):NR i.w≠NR o.w:=fun h=>by
 have a:=vG i
 rw[h,vz] at a;cases a
theorem vQ (o:Op):("cell":Str)≠NR o.w:=by cases o<;>decide +kernel
theorem iW:∀ (s t:Sm) (a b:List Str),s.ok → t.ok → s.wds++a=t.wds++b → s=t ∧ a=b
 | .num n,t,a,b,hs,ht,h=>by
  cases t with
  | num m =>
   obtain ⟨h1,h2⟩:=On (show dI n :: a=dI m :: b from h)
   rw[Dp hs ht h1];exact ⟨rfl,h2⟩
  | nam i=>exact absurd (On (show dI n :: a=NR i.w :: b from h)).1 (As hs i)
  | cell t=>exact absurd (On (show dI n :: a=("cell":Str) :: (t.wds++b) from h)).1 (rZ hs)
  | two o t u=>exact absurd (On (show dI n :: a=NR o.w :: ((t.wds++u.wds)++b) from h)).1 (Au hs o)
 | .nam i,t,a,b,hs,ht,h=>by
  cases t with
  | num m=>exact absurd (On (show NR i.w :: a=dI m :: b from h)).1.symm (As ht i)
  | nam j =>
   obtain ⟨h1,h2⟩:=On (show NR i.w :: a=NR j.w :: b from h)
   rw[Aq h1];exact ⟨rfl,h2⟩
  | cell t=>exact absurd (On (show NR i.w :: a=("cell":Str) :: (t.wds++b) from h)).1 (vP i)
  | two o t u=>exact absurd (On (show NR i.w :: a=NR o.w :: ((t.wds++u.wds)++b) from h)).1 (D7 i o)
 | .cell s,t,a,b,hs,ht,h=>by
  cases t with
  | num m=>exact absurd (On (show ("cell":Str) :: (s.wds++a)=dI m :: b from h)).1.symm (rZ ht)
  | nam j=>exact absurd (On (show ("cell":Str) :: (s.wds++a)=NR j.w :: b from h)).1.symm (vP j)
  | cell t =>
   obtain ⟨h1,h2⟩:=On (show ("cell":Str) :: (s.wds++a)=("cell":Str) :: (t.wds++b) from h)
   obtain ⟨e1,e2⟩:=iW s t a b hs ht h2
   rw[e1];exact ⟨rfl,e2⟩
  | two o t u=>exact absurd (On (show ("cell":Str) :: (s.wds++a)=NR o.w :: ((t.wds++u.wds)++b) from h)).1 (vQ o)
 | .two o s s',t,a,b,hs,ht,h=>by
  cases t with
  | num m=>exact absurd (On (show NR o.w :: ((s.wds++s'.wds)++a)=dI m :: b from h)).1.symm (Au ht o)
  | nam j=>exact absurd (On (show NR o.w :: ((s.wds++s'.wds)++a)=NR j.w :: b from h)).1.symm (D7 j o)
  | cell t=>exact absurd (On (show NR o.w :: ((s.wds++s'.wds)++a)=("cell":Str) :: (t.wds++b) from h)).1.symm (vQ o)
  | two o' t t' =>
   obtain ⟨h1,h2⟩:=On (show NR o.w :: ((s.wds++s'.wds)++a)=NR o'.w :: ((t.wds++t'.wds)++b) from h)
   rw[Ot,Ot] at h2
   obtain ⟨e1,e2⟩:=iW s t _ _ hs.1 ht.1 h2
   obtain ⟨e3,e4⟩:=iW s' t' a b hs.2 ht.2 e2
   rw[e1,e3,Ar h1];exact ⟨rfl,e4⟩
theorem Dq {s t:Sm} (hs:s.ok) (ht:t.ok) (h:s.txt=t.txt):s=t:=by
 have e:s.wds++[]=t.wds++[]:=by rw[OJ,OJ,← jm hs,← jm ht,h]
 exact (iW s t [] [] hs ht e).1
theorem Dr {s t:Sm} (hs:s.ok) (ht:t.ok):(⟨t.txt.cps.extract 0 (s.txt.length+1)⟩:Str)≠s.txt++" ":=by
 intro h
 have e:t.txt=s.txt++" "++(⟨t.txt.cps.extract (s.txt.length+1) t.txt.cps.size⟩:Str):=by
  rw[← h]
  apply gu
  show t.txt.cps.toList=(t.txt.cps.extract 0 (s.txt.length+1)++t.txt.cps.extract (s.txt.length+1) t.txt.cps.size).toList
  simp only[P5,Ru,QO,QS,Uk]
  rw[Ql (l:=t.txt.cps.toList.drop (s.txt.length+1)) (by rw[Q9,Pr];exact N1 _),Rk]
 generalize (⟨t.txt.cps.extract (s.txt.length+1) t.txt.cps.size⟩:Str)=R at e
 have j:NZ ⟨#[32]⟩ (Txt.split R ⟨#[32]⟩)=R:=Ry R ⟨#[32]⟩
 have e2:t.txt=NZ ⟨#[32]⟩ (s.wds++Txt.split R ⟨#[32]⟩):=by
  rw[j5 _ _ _ (kM s) (nh _ _),j,e,← vD];rfl
 have e3:=jm ht
 rw[vD,e2,iy (by simp[kM s]) fun x hx=>by
  rcases List.mem_append.mp hx with hx | hx
  ·exact (jk hs x hx).1
  ·exact T7 _ 32 x hx] at e3
 have e4:=(iW s t (Txt.split R ⟨#[32]⟩) [] hs ht (by rw[e3,OJ])).2
 exact nh _ _ e4
theorem eU {x y:Str}{xs ys:List D} (h:eqv (.tup (.str x :: xs)) (.tup (.str y :: ys))=true):x=y ∧ jt xs ys=true:=by
 have h:(x==y&&jt xs ys)=true:=h
 rw[NX,beq_iff_eq] at h;exact h
theorem nv {x y:D}{xs ys:List D} (h:jt (x :: xs) (y :: ys)=true):eqv x y=true ∧ jt xs ys=true:=by
 have h:(eqv x y&&jt xs ys)=true:=h
 rw[NX] at h;exact h
theorem oU (o:Op):("num":Str)≠NR o.w ∧ ("name":Str)≠NR o.w ∧ ("cell":Str)≠NR o.w:=by cases o<;>decide +kernel
theorem qA:∀ s t:Sm,eqv s.enc t.enc=true → s=t
 | .num n,t,h=>by
  cases t with
  | num m =>
   have a:=(nv (eU h).2).1
   have a:(n==m)=true:=a
   rw[beq_iff_eq.mp a]
  | nam i=>exact absurd (eU (x:="num") (y:="name") h).1 (by decide +kernel)
  | cell t=>exact absurd (eU (x:="num") (y:="cell") h).1 (by decide +kernel)
  | two o t u=>exact absurd (eU (x:="num") (y:=o.w) h).1 (oU o).1
 | .nam i,t,h=>by
  cases t with
  | num m=>exact absurd (eU (x:="name") (y:="num") h).1 (by decide +kernel)
  | nam j =>
   have a:=(nv (eU h).2).1
   have a:(NR i.w==NR j.w)=true:=a
   rw[Aq (beq_iff_eq.mp a)]
  | cell t=>exact absurd (eU (x:="name") (y:="cell") h).1 (by decide +kernel)
  | two o t u=>exact absurd (eU (x:="name") (y:=o.w) h).1 (oU o).2.1
 | .cell s,t,h=>by
  cases t with
  | num m=>exact absurd (eU (x:="cell") (y:="num") h).1 (by decide +kernel)
  | nam j=>exact absurd (eU (x:="cell") (y:="name") h).1 (by decide +kernel)
  | cell t=>rw[qA s t (nv (eU h).2).1]
  | two o t u=>exact absurd (eU (x:="cell") (y:=o.w) h).1 (oU o).2.2
 | .two o s s',t,h=>by
  cases t with
  | num m=>exact absurd (eU (x:=o.w) (y:="num") h).1.symm (oU o).1
  | nam j=>exact absurd (eU (x:=o.w) (y:="name") h).1.symm (oU o).2.1
  | cell t=>exact absurd (eU (x:=o.w) (y:="cell") h).1.symm (oU o).2.2
  | two o' t t' =>
   obtain ⟨h1,h2⟩:=eU (x:=o.w) (y:=o'.w) h
   obtain ⟨h3,h4⟩:=nv h2
   rw[Ar h1,qA s t h3,qA s' t' (nv h4).1]
theorem GU {s t:Sm} (hs:s.ok) (ht:t.ok):eqv s.enc t.enc=(s.txt==t.txt):=by
 by_cases c:s=t
 ·subst c;rw[fj];simp
 ·have a:eqv s.enc t.enc=false:=by
   cases q:eqv s.enc t.enc with
   | false=>rfl
   | true=>exact absurd (qA s t q) c
  have b:(s.txt==t.txt)=false:=by
   rw[beq_eq_false_iff_ne]
   exact fun q=>c (Dq hs ht q)
  rw[a,b]
noncomputable def Rw.bare:Rw → Bool
 | .jump _=>false
 | .unless _ _=>false
 | .call _=>false
 | _=>true
theorem vR {r:Rw}{n:Nat} (h:r.ok n) (hb:r.bare=true) (m:Nat):r.ok m:=by
 cases r<;>first | exact h | cases hb
theorem Ds {r:Rw}{n m:Nat} (h:r.ok n) (hm:n ≤ m):r.ok m:=by
 cases r with
 | jump p=>exact Om h hm
 | «unless» s p=>exact ⟨h.1,Om h.2 hm⟩
 | call p=>exact Om h hm
 | _=>exact h
theorem Av (r:Rw):eS .mem (.str r.wd) (.tup [.str "set",.str "put",.str "say",.str "ask",.str "back",.str "stop"])=some r.bare:=by
 cases r<;>rfl
theorem gw:∀ ts:List Str,(NZ "" ts).cps.toList=(ts.map fun t=>t.cps.toList).flatten
 | []=>rfl
 | [x]=>by
  show x.cps.toList=[x.cps.toList].flatten
  simp
 | x :: y :: r=>by
  have ih:=gw (y :: r)
  show (x.cps++#[]++(NZ "" (y :: r)).cps).toList=_
  rw[P5,ih]
  simp
theorem Dt (a b:Pg):pgT a++pgT b=pgT (a++b):=by
 apply gu
 show ((NZ "" (a.map lnT)).cps++(NZ "" (b.map lnT)).cps).toList=(NZ "" ((a++b).map lnT)).cps.toList
 rw[P5,gw,gw,gw]
 simp
theorem Aw (s t:Sm):"less "++s.txt++" "++t.txt=(Sm.two .less s t).txt:=by
 have e:(Sm.two .less s t).txt=NZ " " [("less":Str),s.txt,t.txt]:=(Ai " " [("less":Str)] s.wds t.wds (kM s) (kM t)).symm
 rw[e]
 apply gu
 show ((("less ":Str).cps++s.txt.cps)++(" ":Str).cps++t.txt.cps).toList=(("less":Str).cps++(" ":Str).cps++(s.txt.cps++(" ":Str).cps++t.txt.cps)).toList
 have:("less ":Str).cps=("less":Str).cps++(" ":Str).cps:=by decide +kernel
 rw[this]
 simp
theorem Ax {n:Nat} (hn:n ≤ 100) {pg:Pg} (hok:∀ r∈pg,r.ok n):(pgT pg).length ≤ pg.length*218:=by
 have:=join_le "" 218 (pg.map lnT) fun t ht=>by
  obtain ⟨r,hr,rfl⟩:=List.mem_map.mp ht
  exact qv hn (hok r hr)
 have e:("":Str).length=0:=rfl
 rw[e,N5] at this
 exact this
structure MN (T:FK → Option Fn):Prop where
 lw:Lw T
 program:T "_law_program"=some eg
 law:T "law"=some iV
theorem zip_rows:∀ (pg:Pg) (x:D),gC (pg.map Rw.enc) ((pg.map Rw.txt).map .str++[x])=pg.map fun r=>.tup [r.enc,.str r.txt]
 | [],x=>rfl
 | r :: pg,x=>by
  have ih:=zip_rows pg x
  rw[Qx] at ih
  simp[ih]
section
variable {T:FK → Option Fn}{G:Str → Option W}
theorem Du (P:P80 T G) (k:Nat) {n:Nat} (hn:n ≤ 100) (w0 w1 w2 w3 w4 w5 w6 w7:Option W) {r:Rw} (hr:r.ok n) (acc:Pg) (ha:acc.length ≤ 100) (h:HH) :
 evS (runN T G (k+12)) G qz [w0,w1,w2,w3,w4,w5,w6,w7,some (.p (dZ acc)),some (.p r.enc),some (.p (.str r.txt))] h =
  some (.nx [w0,w1,w2,w3,w4,w5,w6,w7,some (.p (dZ (acc++[r].filter Rw.bare))),some (.p r.enc),some (.p (.str r.txt))] h):=by
 have i0:fq r.enc (.int 0)=some (.str r.wd):=by
  rw[j6]
  show atP _ ((0:Nat):Int)=_
  rw[jW];rfl
 have m:=Av r
 cases hb:r.bare with
 | false =>
  rw[hb] at m
  rw[List.filter_cons_of_neg (by simp[hb]),List.filter_nil,OJ]
  simp[-eY,qz,i0,m]
 | true =>
  rw[hb] at m
  rw[List.filter_cons_of_pos hb,List.filter_nil]
  have ok1:∀ q∈[r],q.ok [r].length:=fun q hq=>by
   have:q=r:=by simpa using hq
   subst this;exact vR hr hb _
  have a:=fU P (n:=n) hn (pg:=[r]) (by simp) (fun q hq=>by
   have:q=r:=by simpa using hq
   subst this;exact hr) (k+8) h
  have b:=kR P (pg:=[r]) (by simp) ok1 (k+4) h
  have c:=rY (uf ok1)
  have l1:=j8 hn hr
  have e1:dZ [r]=.tup [r.enc]:=rfl
  have ea:dZ (acc++[r])=.tup (acc.map Rw.enc++[r.enc]):=by simp[dZ]
  have l2:(acc.map Rw.enc).length+1 ≤ 100000:=by rw[N5];lia
  have l3:r.txt.length+1 ≤ 100000:=by lia
  have ne:("\n":Str).length=1:=rfl
  have bb:fZ .add (.str r.txt) (.str "\n")=some (.str (pgT [r])):=by
   show (if r.txt.length+("\n" : Str).length ≤ 100000 then some (D.str (r.txt ++ "\n")) else none)=_
   rw[ne,if_pos l3];rfl
  rw[ea,show dZ acc=.tup (acc.map Rw.enc) from rfl]
  rw[e1] at a b c
  generalize acc.map Rw.enc=AC at *
  generalize r.enc=RE at *
  generalize pgT [r]=PT at *
  generalize r.txt=TX at *
  have c2:eS .ne (.tup [RE]) (.tup [RE])=some false:=by
   rw[gf] at c
   rw[fC]
   split at c
   ·rename_i q
    rw[if_pos q,N4 c];rfl
   ·cases c
  have c3:eS .ne (.str PT) (.str PT)=some false:=by rw[fC,fj];simp
  simp[-eY,-fC,-dF,qz,i0,m,l2,bb,a,b,c2,c3]
theorem r9 (P:P80 T G) (k:Nat) {n:Nat} (hn:n ≤ 100) (w0 w1 w2 w3 w4 w5 w6 w7:Option W) (h:HH):∀ (rs acc:Pg) (x9 x10:Option W),(∀ r∈rs,r.ok n) → acc.length+rs.length ≤ 100 →
 ∃ y9 y10,d8 (evS (runN T G (k+12)) G qz) [(9,"_law_row_here"),(10,"_law_line")] (rs.map fun r=>.tup [r.enc,.str r.txt]) [w0,w1,w2,w3,w4,w5,w6,w7,some (.p (dZ acc)),x9,x10] h =
  some (.nx [w0,w1,w2,w3,w4,w5,w6,w7,some (.p (dZ (acc++rs.filter Rw.bare))),y9,y10] h)
 | [],acc,x9,x10,_,_=>⟨x9,x10,by simp⟩
 | r :: rs,acc,x9,x10,hr,hl=>by
  simp only[N7] at hl
  have a:=Du P k hn w0 w1 w2 w3 w4 w5 w6 w7 (hr r NW) acc (by lia) h
  have lf:([r].filter Rw.bare).length ≤ 1:=T9 _ _
  obtain ⟨y9,y10,q⟩:=r9 P k hn w0 w1 w2 w3 w4 w5 w6 w7 h rs (acc++[r].filter Rw.bare) (some (.p r.enc)) (some (.p (.str r.txt))) (fun q hq=>hr q (NU _ hq)) (by rw[Oa];lia)
  refine ⟨y9,y10,?_⟩
  have st:d8 (evS (runN T G (k+12)) G qz) [(9,"_law_row_here"),(10,"_law_line")] ((r :: rs).map fun r=>.tup [r.enc,.str r.txt]) [w0,w1,w2,w3,w4,w5,w6,w7,some (.p (dZ acc)),x9,x10] h=iG (evS (runN T G (k+12)) G qz [w0,w1,w2,w3,w4,w5,w6,w7,some (.p (dZ acc)),some (.p r.enc),some (.p (.str r.txt))] h) (d8 (evS (runN T G (k+12)) G qz) [(9,"_law_row_here"),(10,"_law_line")] (rs.map fun r=>.tup [r.enc,.str r.txt])):=rfl
  rw[st,a,eW,q,Ot,← List.filter_append,List.singleton_append]
theorem sd {x:D} (h:dok 100 x=true):eS .ne x x=some false:=by rw[fC,if_pos (mq h),fj];rfl
theorem Ay (l:List D) (x:D):fq (.lst (l++[x])) (.int (-1))=some x:=by
 show atP (l++[x]) (-1)=_
 unfold atP
 have e1:(1:Int) ≤ (l.length:Int)+1:=by lia
 have e2:(-1+((l.length:Int)+1)).toNat=l.length:=by lia
 simp[e1,e2]
theorem J6 (P:P80 T G) (k:Nat) (w0 w1 w2 w3 w4 w7 w9 w10:Option W) {pg bs:Pg} (hp:pg.length ≤ 9) (hb:bs.length ≤ 9) (h1:∀ r∈pg,r.ok pg.length) (h2:∀ r∈bs,∀ m,r.ok m) (h:HH) :
 evS (runN T G (k+12)) G Do [w0,w1,w2,w3,w4,some (.p (dZ pg)),some (.p (.str (pgT pg))),w7,some (.p (dZ bs)),w9,w10] h=some (.rt (.p (.bl true)) h):=by
 have okb:∀ r∈bs,r.ok bs.length:=fun r hr=>h2 r hr _
 have oka:∀ r∈bs++pg,r.ok (bs++pg).length:=fun r hr=>by
  rcases List.mem_append.mp hr with hr | hr
  ·exact h2 r hr _
  ·exact Ds (h1 r hr) (by rw[Oa];lia)
 have la:(bs++pg).length ≤ 20:=by rw[Oa];lia
 have a1:=fO P (k+5) (pg:=bs) (by lia) okb h
 have a2:=fU P (n:=bs.length) (by lia) (pg:=bs) (by lia) okb (k+8) h
 have a3:=kR P (pg:=bs) (by lia) okb (k+4) h
 have a4:=fO P (k+5) la oka h
 have a5:=kR P la oka (k+4) h
 have c1:=sd (uf okb)
 have c2:=rY (uf oka)
 have l1:=Ax (n:=bs.length) (by lia) okb
 have l2:=Ax (n:=pg.length) (by lia) h1
 have b1:fZ .add (.str (pgT bs)) (.str (pgT pg))=some (.str (pgT (bs++pg))):=by
  rw[dF,if_pos (show (pgT bs).length+(pgT pg).length ≤ lim from (by lia:(pgT bs).length+(pgT pg).length ≤ 100000)),Dt]
 have b2:fZ .add (dZ bs) (dZ pg)=some (dZ (bs++pg)):=by
  show fZ .add (.tup (bs.map Rw.enc)) (.tup (pg.map Rw.enc))=_
  rw[gR,if_pos (show (bs.map Rw.enc).length+(pg.map Rw.enc).length ≤ lim from (by rw[N5,N5];lia:(bs.map Rw.enc).length+(pg.map Rw.enc).length ≤ 100000))]
  show _=some (D.tup ((bs++pg).map Rw.enc))
  rw[Po]
 generalize dZ (bs++pg)=E3 at *
 generalize dZ bs=E1 at *
 generalize dZ pg=E2 at *
 generalize pgT (bs++pg)=T3 at *
 generalize pgT bs=T1 at *
 generalize pgT pg=T2 at *
 simp[-gf,-fC,-dF,-gR,Do,a1,a2,a3,a4,a5,c1,c2,b1,b2]
theorem xC (P:P80 T G) (L:MN T) (ns:List Int) (hl:ns.length ≤ 1000) (k:Nat):∃ h',runN T G (k+13) "law" [.p (.lst (c7 ns))] []=some (.p (.bl true),h'):=by
 obtain ⟨s,so,sz,rs⟩:=lP (G:=G) L.lw ns hl 3 1
 have sz:s.size ≤ 15:=by have:s.size+1 ≤ 16:=sz;lia
 obtain ⟨t,to,tz,rt⟩:=lP (G:=G) L.lw ns hl 3 700
 have tz:t.size ≤ 15:=by have:t.size+1 ≤ 16:=tz;lia
 obtain ⟨pg,dp,rp⟩:=rP (G:=G) L.lw L.program ns hl 20
 have hok:∀ r∈pg,r.ok pg.length:=dp.ok
 have hp:=dp.hi
 have hn:pg.length ≤ 100:=by lia
 have r1:runN T G (k+12) "_law_sum" [.p (.lst (c7 ns)),.p (.int 1),.p (.int 3)] []=some (.p s.enc,[]):=rs (k+6) []
 have r2:runN T G (k+12) "_law_sum" [.p (.lst (c7 ns)),.p (.int 700),.p (.int 3)] []=some (.p t.enc,[]):=rt (k+6) []
 have r3:=rp (k+5) []
 have r4:=dX P (k+10) so (by lia) []
 have r5:=dX P (k+10) to (by lia) []
 have sto:(Sm.two .less s t).ok:=⟨so,to⟩
 have r6:=dX P (k+10) sto (by show s.size+t.size+1 ≤ 100;lia) []
 have r6:runN T G (k+12) "written_sum" [.p (.tup [.str "less",s.enc,t.enc])] []=some (.p (.str (Sm.two .less s t).txt),[]):=r6
 have r7:=nQ P (k+7) ⟨so,sz⟩ []
 have r8:=fU P hn hn hok (k+8) []
 have ls:=qo so (by lia)
 have lt:=qo to (by lia)
 have sp:=kg (x:=pgT pg) (vM hn hn hok) (y:="\n") rfl []
 rw[rW hn hok,Po,show [("":Str)].map D.str=[.str ""] from rfl] at sp
 obtain ⟨y9,y10,lp⟩:=r9 P k hn (some (.p (.lst (c7 ns)))) (some (.p s.enc)) (some (.p t.enc)) (some (.p (.str s.txt))) (some (.p (.str t.txt))) (some (.p (dZ pg))) (some (.p (.str (pgT pg)))) (some (.p (.lst ((pg.map Rw.txt).map .str++[.str ""])))) [] pg [] none none hok (by simp;lia)
 rw[PP] at lp
 have hb:(pg.filter Rw.bare).length ≤ 9:=Om (T9 _ _) hp
 have zz:=J6 P k (some (.p (.lst (c7 ns)))) (some (.p s.enc)) (some (.p t.enc)) (some (.p (.str s.txt))) (some (.p (.str t.txt))) (some (.p (.lst ((pg.map Rw.txt).map .str++[.str ""])))) y9 y10 hp hb hok (fun r hr m=>by
  obtain ⟨h1,h2⟩:=List.mem_filter.mp hr
  exact vR (hok r h1) h2 m) []
 have sr:fK .zipG [dZ pg,.lst ((pg.map Rw.txt).map .str++[.str ""])]=some (pg.map fun r=>.tup [r.enc,.str r.txt]):=by
  rw[fW]
  show some (gC (pg.map Rw.enc) _)=_
  rw[zip_rows]
 have c1:eS .eq s.enc t.enc=some (s.txt==t.txt):=by rw[gf,if_pos (mq (kT t 100 (by lia))),GU so to]
 have c2:eS .eq (.str s.txt) (.str t.txt)=some (s.txt==t.txt):=by rw[gf,if_pos (qU _ _)];rfl
 have p1:kTx .pre [.p (.str t.txt),.p (.int ((s.txt.length:Int)+1))] []=some (.p (.str ⟨t.txt.cps.extract 0 (s.txt.length+1)⟩),[]):=by
  show ((if 0 ≤ ((s.txt.length:Int)+1) ∧ t.txt.length ≤ 100000 then some (D.str ⟨t.txt.cps.extract 0 ((s.txt.length:Int)+1).toNat⟩) else none).map fun d=>(W.p d,[]))=_
  rw[if_pos ⟨by lia,by lia⟩,show ((s.txt.length:Int)+1).toNat=s.txt.length+1 by lia];rfl
 have p2:eS .eq (.str ⟨t.txt.cps.extract 0 (s.txt.length+1)⟩) (.str (s.txt++" "))=some false:=by
  rw[gf,if_pos (qU _ _)]
  show some ((⟨t.txt.cps.extract 0 (s.txt.length+1)⟩:Str)==s.txt++" ")=_
  rw[beq_eq_false_iff_ne.mpr (Dr so to)]
 have e1:(" ":Str).length=1:=rfl
 have e5:("less ":Str).length=5:=rfl
 have b1:fZ .add (.str s.txt) (.str " ")=some (.str (s.txt++" ")):=by
  rw[dF,if_pos (show s.txt.length+(" ":Str).length ≤ lim from (by rw[e1];lia:s.txt.length+(" ":Str).length ≤ 100000))]
 have b2:fZ .add (.str "less ") (.str s.txt)=some (.str ("less "++s.txt)):=by
  rw[dF,if_pos (show ("less ":Str).length+s.txt.length ≤ lim from (by rw[e5];lia:("less ":Str).length+s.txt.length ≤ 100000))]
 have b3:fZ .add (.str ("less "++s.txt)) (.str " ")=some (.str ("less "++s.txt++" ")):=by
  rw[dF,if_pos (show ("less "++s.txt:Str).length+(" ":Str).length ≤ lim from (by rw[O9,e1,e5];lia:("less "++s.txt:Str).length+(" ":Str).length ≤ 100000))]
 have b4:fZ .add (.str ("less "++s.txt++" ")) (.str t.txt)=some (.str (Sm.two .less s t).txt):=by
  rw[dF,if_pos (show ("less "++s.txt++" ":Str).length+t.txt.length ≤ lim from (by rw[O9,O9,e1,e5];lia:("less "++s.txt++" ":Str).length+t.txt.length ≤ 100000)),Aw]
 have c3:=sd (kT s 100 (by lia))
 have il:=Ay ((pg.map Rw.txt).map .str) (.str "")
 have cs:∀ x:Str,eS .ne (.str x) (.str x)=some false:=fun x=>by rw[fC,fj];simp
 have cb:∀ b:Bool,eS .ne (.bl b) (.bl b)=some false:=fun b=>by rw[fC,if_pos (Bm _ _),fj];rfl
 have ci:∀ i:Int,eS .ne (.int i) (.int i)=some false:=fun b=>by rw[fC,if_pos (yq _ _),fj];rfl
 have n1:biD .len [.lst ((pg.map Rw.txt).map .str++[.str ""])]=some (.int ((pg.length:Int)+1)):=by
  rw[oj]
  simp
 have n2:biD .len [dZ pg]=some (.int (pg.length:Int)):=by
  show biD .len [.tup (pg.map Rw.enc)]=_
  rw[oi]
  simp
 have n3:biD .len [.str s.txt]=some (.int (s.txt.length:Int)):=by
  rw[kB,if_pos (show s.txt.length ≤ lim from (by lia:s.txt.length ≤ 100000))]
 have f0:fin [] (.p (.bl true)) []=some (.p (.bl true),[]):=by
  have:=oM [] [] (.bl true)
  simpa using this
 refine ⟨[],?_⟩
 rw[run_eq L.law rfl,iV,J5,J4]
 have ep:dZ []=.tup []:=rfl
 rw[ep] at lp
 generalize (pg.map Rw.txt).map D.str++[.str ""]=LN at *
 generalize (pg.map fun r=>D.tup [r.enc,.str r.txt])=PZ at *
 generalize pgT pg=PT at *
 generalize dZ (pg.filter Rw.bare)=PB at *
 generalize dZ pg=PE at *
 generalize (Sm.two .less s t).txt=TL at *
 generalize (⟨t.txt.cps.extract 0 (s.txt.length+1)⟩:Str)=TX at *
 generalize ("less "++s.txt++" ":Str)=LS2 at *
 generalize ("less "++s.txt:Str)=LS at *
 generalize (s.txt++" ":Str)=SS at *
 generalize (s.txt==t.txt)=BB at *
 generalize s.txt.length=SL at *
 generalize s.txt=SX at *
 generalize t.txt=TT at *
 generalize s.enc=EN at *
 generalize t.enc=ET at *
 generalize c7 ns=IL at *
 generalize Do=ZZ at *
 generalize qz=BO at *
 simp[-d8,-gf,-fC,-dF,-ef,-oj,-oi,-kB,-fW,r1,r2,r3,r4,r5,r6,r7,r8,c1,c2,c3,cs,cb,ci,p1,p2,b1,b2,b3,b4,n1,n2,n3,sp,il,sr,jn,lp,zz,f0]
end
end BT
end
section
namespace BF
open PySem PySem.Spec PyProof.Rows L2 BS
noncomputable def ny (P:Oc) (w:Oo) (K:NO) (mg:Str → Option NS) (x:Str) (z:BT.W):Prop:=∃ u v,mg x=some u ∧ RelV v u ∧ ∀ m H,RW P w K m H v z
theorem Az {K:NO} (X:K.In h) (G:h.Ns Ob mg) (a:Oz K Ob x=some (some (.int n t))):ny P w K mg x (.p (.int n)) :=
 ⟨_,.int n,PL X G a,⟨t,rfl⟩,fun _ _=>.p (.int n)⟩
inductive eX:List Str → List NS → Prop where
 | nil:eX [] []
 | cons {x:Str}{xs:List Str}{t:Tok}{vs:List NS} (h:PyData.strOk x=true) (r:eX xs vs):eX (x :: xs) (.str x t :: vs)
theorem eX.vals:∀ {xs:List Str}{vs:List NS},eX xs vs → cX (xs.map V.str) vs
 | _,_,.nil=>.nil
 | _,_,.cons _ r=>.cons ⟨_,rfl⟩ r.vals
theorem eX.rds {K:NO}:∀ {xs:List Str}{vs:List NS},eX xs vs → RDs K m H (xs.map V.str) (xs.map BT.D.str)
 | _,_,.nil=>.nil
 | _,_,.cons h r=>.cons (.str _ h) r.rds
theorem eX.len:∀ {xs:List Str}{vs:List NS},eX xs vs → vs.length=xs.length
 | _,_,.nil=>rfl
 | _,_,.cons _ r=>by simp[r.len]
theorem AA {K:NO} (X:K.In h) (G:h.Ns Ob mg) (a:Oz K Ob x=some (some (.ref f)))
 (l:K.lookup f=some ⟨.type "tuple",none,.seq its n,sl⟩) (hl:xs.length ≤ 1000) (r:eX xs its.toList):ny P w K mg x (.p (.tup (xs.map BT.D.str))):=by
 refine ⟨_,.ref f,PL X G a,rfl,fun m H=>.p (.tup (.inr ⟨_,its,n,⟨l,rfl,rfl,?_,r.vals⟩,rfl⟩) r.rds)⟩
 have:=r.len
 have e:its.size=xs.length:=by rw[← this];simp
 rw[e]
 exact QN (oh hl)
inductive gx (w:Oo):List (Str×Int) → List Qv → Prop where
 | nil:gx w [] []
 | cons {x:Str}{n:Int}{kvs:List (Str×Int)}{t u:Tok}{es:List Qv} (r:gx w kvs es):gx w ((x,n) :: kvs) (⟨PyData.keyHash w.params x,.str x t,.int n u⟩ :: es)
theorem gx.ex:∀ {kvs:List (Str×Int)}{es:List Qv},gx w kvs es → ∃ vs:List (Key×NS),KV ((kvs.map fun q=>(q.1,V.int q.2)).map fun q=>((Sum.inr q.1:Key),q.2)) vs ∧ Pairs (c8 P w) es vs ∧ vs.map (·.1)=kvs.map (fun q=>(Sum.inr q.1:Key)) ∧ (∀ e∈es,∃ k,(c8 P w).is k e.key=true ∧ e.hash=(c8 P w).hash k)
 | _,_,.nil=>⟨[],.nil,.nil,rfl,fun e he=>nomatch he⟩
 | _,_,@gx.cons _ x n kvs t u es r=>by
  obtain ⟨vs,h1,h2,h3,h4⟩:=r.ex (P:=P)
  have is:(c8 P w).is (Sum.inr x) (.str x t)=true:=by show QD x (.str x t)=true;simp[QD]
  refine ⟨(Sum.inr x,.int n u) :: vs,.cons ⟨rfl,u,rfl⟩ h1,.cons is rfl h2,by simp[h3],fun e he=>?_⟩
  rcases List.mem_cons.mp he with rfl | he
  ·exact ⟨Sum.inr x,is,rfl⟩
  ·exact h4 e he
theorem xD {P:Oc}{w:Oo}{K:NO}{h:Heap}{mg:Str → Option NS} (X:K.In h) (G:h.Ns Ob mg) {x:Str}{f:N2}{es:Array Qv}{n:Nat}{kvs:List (Str×Int)} (a:Oz K Ob x=some (some (.ref f)))
 (l:K.lookup f=some { cls:=.type "dict",data:=.dict es n }) (hf:(f==P1)=false) (r:gx w kvs es.toList) (nd:(kvs.map (·.1)).Nodup):ny P w K mg x (.k (.t (kvs.map fun q=>(q.1,BT.D.int q.2)))):=by
 obtain ⟨vs,h1,h2,h3,h4⟩:=r.ex (P:=P)
 refine ⟨_,.ref f,PL X G a,rfl,fun m H=>.k (es:=kvs.map fun q=>(q.1,V.int q.2)) ⟨hf,vs,h1,fun hh Kh=>⟨_,es,n,Kh _ _ l,⟨rfl,rfl,rfl⟩,rfl,fun e he=>h4 e (by simpa using he),h2,?_⟩⟩ ?_⟩
 ·rw[h3]
  have e:(kvs.map fun q=>(Sum.inr q.1:Key))=(kvs.map (·.1)).map Sum.inr:=by simp
  rw[e]
  exact List.pairwise_map.mpr (nd.imp fun h z=>h (Sum.inr.inj z))
 ·clear r nd h1 h2 h3 h4 l
  induction kvs with
  | nil=>exact .nil
  | cons q kvs ih=>exact .cons (fun _ _=>.int _) ih
theorem AB {P:Oc}{w:Oo}{K:NO}{h:Heap}{mg:Str → Option NS} (X:K.In h) (G:h.Ns Ob mg) {x s:Str}{t:Tok} (a:Oz K Ob x=some (some (.str s t))) (k:PyData.strOk s=true):ny P w K mg x (.p (.str s)) :=
 ⟨_,.str s,PL X G a,⟨t,rfl⟩,fun _ _=>.p (.str s k)⟩
inductive gy (w:Oo):List (Str×N2) → List Qv → Prop where
 | nil:gy w [] []
 | cons {x:Str}{a:N2}{kvs:List (Str×N2)}{t:Tok}{es:List Qv} (r:gy w kvs es):gy w ((x,a) :: kvs) (⟨PyData.keyHash w.params x,.str x t,.ref a⟩ :: es)
theorem gy.ex {P:Oc}{w:Oo}:∀ {kvs:List (Str×N2)}{es:List Qv},gy w kvs es → ∃ vs:List (Key×NS),KV ((kvs.map fun q=>(q.1,V.ref q.2)).map fun q=>((Sum.inr q.1:Key),q.2)) vs ∧ Pairs (c8 P w) es vs ∧ vs.map (·.1)=kvs.map (fun q=>(Sum.inr q.1:Key)) ∧ (∀ e∈es,∃ k,(c8 P w).is k e.key=true ∧ e.hash=(c8 P w).hash k)
 | _,_,.nil=>⟨[],.nil,.nil,rfl,fun e he=>nomatch he⟩
 | _,_,@gy.cons _ x a kvs t es r=>by
  obtain ⟨vs,h1,h2,h3,h4⟩:=r.ex (P:=P)
  have is:(c8 P w).is (Sum.inr x) (.str x t)=true:=by show QD x (.str x t)=true;simp[QD]
  refine ⟨(Sum.inr x,.ref a) :: vs,.cons ⟨rfl,rfl⟩ h1,.cons is rfl h2,by simp[h3],fun e he=>?_⟩
  rcases List.mem_cons.mp he with rfl | he
  ·exact ⟨Sum.inr x,is,rfl⟩
  ·exact h4 e he
theorem Dv {K:NO}{f:N2}{its:Array NS}{n:Nat}{sl:Array (Option NS)}{xs:List Str}
 (l:K.lookup f=some ⟨.type "tuple",none,.seq its n,sl⟩) (hl:xs.length ≤ 1000) (r:eX xs its.toList) (m:List N2) (H:Hp):RD K m H (.ref f) (.tup (xs.map BT.D.str)):=by
 refine .tup (.inr ⟨_,its,n,⟨l,rfl,rfl,?_,r.vals⟩,rfl⟩) r.rds
 have:=r.len
 have e:its.size=xs.length:=by rw[← this];simp
 rw[e]
 exact QN (oh hl)
theorem ug {P:Oc}{w:Oo}{K:NO}{h:Heap}{mg:Str → Option NS} (X:K.In h) (G:h.Ns Ob mg) {x:Str}{f:N2}{es:Array Qv}{n:Nat}{kvs:List (Str×N2×List Str)} (a:Oz K Ob x=some (some (.ref f)))
 (l:K.lookup f=some { cls:=.type "dict",data:=.dict es n }) (hf:(f==P1)=false) (r:gy w (kvs.map fun q=>(q.1,q.2.1)) es.toList) (nd:(kvs.map (·.1)).Nodup) (rd:∀ q∈kvs,∀ m H,RD K m H (.ref q.2.1) (.tup (q.2.2.map BT.D.str))):ny P w K mg x (.k (.t (kvs.map fun q=>(q.1,BT.D.tup (q.2.2.map BT.D.str))))):=by
 obtain ⟨vs,h1,h2,h3,h4⟩:=r.ex (P:=P)
 have h0:KV ((kvs.map fun q=>(q.1,V.ref q.2.1)).map fun q=>((Sum.inr q.1:Key),q.2)) vs:=by
  simp only[Qx,Function.comp_def] at h1 ⊢
  exact h1
 rw[Qx] at h3
 refine ⟨_,.ref f,PL X G a,rfl,fun m H=>.k (es:=kvs.map fun (q:Str×N2×List Str)=>(q.1,V.ref q.2.1)) ⟨hf,vs,h0,fun hh Kh=>⟨_,es,n,Kh _ _ l,⟨rfl,rfl,rfl⟩,rfl,fun e he=>h4 e (by simpa using he),h2,?_⟩⟩ ?_⟩
 ·rw[h3]
  have e:(kvs.map ((fun q=>(Sum.inr q.1:Key)) ∘ fun q=>(q.1,q.2.1)))=(kvs.map (·.1)).map Sum.inr:=by simp
  rw[e]
  exact List.pairwise_map.mpr (nd.imp fun h z=>h (Sum.inr.inj z))
 ·clear r nd h0 h1 h2 h3 h4 l
  induction kvs with
  | nil=>exact .nil
  | cons q kvs ih=>exact .cons (fun m H=>rd q NW m H) (ih fun q hq=>rd q (NU _ hq))
noncomputable def look {κ α:Type} [DecidableEq κ] (l:List (κ×α)) (x:κ):Option α:=match l with
 | []=>none
 | (y,a) :: r=>if y=x then some a else look r x
theorem iX {κ α:Type} [DecidableEq κ] {Q:κ → α → Prop}:∀ {l:List (κ×α)} (_:∀ p∈l,Q p.1 p.2) {x:κ}{a:α},look l x=some a → Q x a
 | [],_,_,_,e=>by exact BT.jr e
 | (y,b) :: r,h,x,a,e=>by
  rw[look] at e
  split at e
  ·rename_i z
   cases e
   subst z
   exact h (y,b) NW
  ·exact iX (fun p hp=>h p (NU _ hp)) e
theorem jR {K:NO}:∀ ns:List Int,RDs K m H (ns.map V.int) (BT.c7 ns)
 | []=>.nil
 | n :: r=>.cons (.int n) (jR r)
theorem AD {K:NO} (tb:TB K H) (hS:LL K H a (ns.map V.int)) (e:∃ h',g [.p (.lst (BT.c7 ns))] []=some (.p (.bl true),h')):spF P w K g [.ref a] H (fun v _=>v=.bl true) fun _ _ _=>False:=by
 obtain ⟨h',e⟩:=e
 refine ⟨[],_,[],_,h',⟨Tc,rfl,fun i a xs z=>by simp at z,tb⟩,.cons (.p (.lst (hS.elim (fun q=>.inl ⟨q,by simp⟩) .inr) (jR ns))) .nil,e,fun v H' m' _ _ r=>kE r⟩
end BF
end
section
namespace BG
open PySem PySem.Spec PySem.Calls PyProof.Rows L2 BS BF
theorem Dw {K:NO} (H:∀ p∈K,h.get? p.1=some p.2):K.In h:=by
 intro a o e
 obtain ⟨p,hp,he⟩:∃ p∈K,p.1=a ∧ p.2=o:=by
  clear H
  induction K with
  | nil=>exact BT.jr e
  | cons q r ih =>
   rw[Pw] at e
   split at e
   ·rename_i c
    cases e
    exact ⟨q,NW,(eq_of_beq c).symm,rfl⟩
   ·obtain ⟨p,hp,he⟩:=ih e
    exact ⟨p,NU _ hp,he⟩
 rw[← he.1,← he.2]
 exact H p hp
inductive J7 (K:NO) (x qual:Str) (st:Sw) (f:N2):Prop where
 | mk (fd:Pu) (F:Fun K x qual st f fd) (kV doc pm:NS) (an:Option N2) (cdv ct:NS) (e:fd=Pn x qual (fz st) (dM st) (cZ st) .none kV doc pm an cdv ct):J7 K x qual st f
theorem GV {K:NO}{st:Sw} (e:AR K f=some (um x qual st)):J7 K x qual st f:=by
 unfold AR at e
 split at e
 ·rename_i oc od fd sl l
  have e':=N4 e
  unfold um at e'
  obtain ⟨nm,ql,pa,bo,sc,gl,cl,de,kw,dc,pm,an,co,ct,bu⟩:=fd
  simp only[FS.mk.injEq] at e'
  obtain ⟨rfl,rfl,rfl,rfl,rfl,rfl,rfl,rfl,rfl,hc⟩:=e'
  have F:=ES (K:=K) (x:=nm) (qual:=ql) (st:=st) (f:=f) (kV:=kw) (doc:=dc) (pm:=pm) (an:=an) (cdv:=co) (ct:=ct) l hc (by simp only[OZ,l])
  exact ⟨_,F,kw,dc,pm,an,co,ct,rfl⟩
 ·exact BT.jr e
theorem nth {α:Type}{l:List α}{a:α} (i:Nat) (h:l[i]?=some a):a∈l:=Oe h
noncomputable def AE (ns:List Str):Bool:=ns.all fun n=>!(n.cps[0]?==some 60)
theorem J8 (y:Str):(BT.f6 y).cps[0]?=some 60:=by
 show (((#[60]:Array Nat)++y.cps)++#[62])[0]?=some 60
 rw[← T4]
 simp
theorem AF (h:AE ns=true) (y:Str):ns.contains (BT.f6 y)=false:=by
 cases e:ns.contains (BT.f6 y) with
 | false=>rfl
 | true =>
  have:=List.all_eq_true.mp h _ (List.contains_iff_mem.mp e)
  rw[J8] at this
  exact BT.dN this
theorem GW {K:NO} (h:AE fn.ns=true):m7 K q fd fn:=fun y hy=>by rw[AF h y] at hy;exact BT.dN hy
section
variable {K:NO}
theorem nA (e:refOf o=some f):o=some (some (.ref f)):=by
 unfold refOf at e
 split at e
 ·cases e;rfl
 ·exact BT.jr e
theorem GX (X:K.In h) (G:h.Ns Ob mg) {st:Sw} (e:fk K (.fn x f st)=fm w (.fn x f st))
 (sc:fB fn.ns fn.ps (cZ st)) (hb:∀ (kV doc pm:NS) (an:Option N2) (cdv ct:NS) (us:List NS),us.length=fn.ps.length → UF (Pn x x (fz st) (dM st) (cZ st) .none kV doc pm an cdv ct) ⟨us,[]⟩=pure (fn.ps.zip us))
 (ck:CSs (cZ st) fn.ns fn.body (dM st)) (tg:∀ fd,Oz K Ob x=some (some (.ref f)) → (∃ oc od sl,K.lookup f=some ⟨oc,od,.func fd,sl⟩) → m7 K x fd fn):Def K mg x fn:=by
 simp only[fk,fm,Ov.fn.injEq] at e
 obtain ⟨fd,F,kV,doc,pm,an,cdv,ct,rfl⟩:=GV e.2
 refine ⟨f,_,st,PL X G (nA e.1),F,sc,F.binds hb,ck,tg _ (nA e.1) ?_⟩
 obtain ⟨oc,od,kV,doc,pm,an,cdv,ct,osl,e1,lk,_⟩:=F.ex
 exact ⟨oc,od,osl,lk⟩
theorem none_of (X:K.In h) (G:h.Ns Ob mg) (e:fk K (.no x)=fm w (.no x)):mg x=none:=by
 simp only[fk,fm,Ov.b.injEq,decide_eq_true_eq] at e
 exact PySem.W.mg_none_of X G e
theorem AG (h:intOf v=some x):∃ t,v=.int x t:=by
 cases v<;>simp[intOf] at h
 exact ⟨_,by rw[h]⟩
theorem qB (h:strOf v=some x):∃ t,v=.str x t:=by
 cases v<;>simp[strOf] at h
 exact ⟨_,by rw[h]⟩
theorem kh (X:K.In h) (G:h.Ns Ob mg) (e:fk K (.int x n)=fm w (.int x n)):ny P w K mg x (.p (.int n)):=by
 simp only[fk,fm,Ov.int.injEq] at e
 split at e
 ·rename_i v hv
  obtain ⟨t,rfl⟩:=AG e
  exact Az X G hv
 ·exact BT.jr e
theorem qC:∀ {xs:List Str}{vs:List NS},xs.all PyData.strOk=true → vs.map strOf=xs.map some → eX xs vs
 | [],[],_,_=>.nil
 | [],_ :: _,_,h=>by simp at h
 | _ :: _,[],_,h=>by simp at h
 | x :: xs,v :: vs,k,h=>by
  simp only[OA,QB] at h
  simp only[Tv,NX] at k
  obtain ⟨t,rfl⟩:=qB h.1
  exact .cons k.1 (qC k.2 h.2)
theorem vS:∀ {kvs:List (Str×Int)}{es:List Qv},es.map (fun e=>(e.hash,strOf e.key,intOf e.val))=kvs.map (fun q=>(PyData.keyHash w.params q.1,some q.1,some q.2)) → gx w kvs es
 | [],[],_=>.nil
 | [],_ :: _,h=>by simp at h
 | _ :: _,[],h=>by simp at h
 | (x,n) :: kvs,⟨ha,k,v⟩ :: es,h=>by
  simp only[OA,QB,QA] at h
  obtain ⟨⟨rfl,h2,h3⟩,hr⟩:=h
  obtain ⟨t,rfl⟩:=qB h2
  obtain ⟨u,rfl⟩:=AG h3
  exact .cons (vS hr)
theorem AH (X:K.In h) (G:h.Ns Ob mg) (e:fk K (.tup x f xs)=fm w (.tup x f xs)) (hl:xs.length ≤ 1000) (hs:xs.all PyData.strOk=true):ny P w K mg x (.p (.tup (xs.map BT.D.str))):=by
 simp only[fk,fm,Ov.seq.injEq] at e
 obtain ⟨e1,e2,e3⟩:=e
 obtain ⟨o,l,e4⟩:=Option.map_eq_some_iff.mp e2
 rw[l] at e3
 obtain ⟨cl,di,da,sl⟩:=o
 simp only[shp,QA] at e4
 obtain ⟨rfl,rfl,e5⟩:=e4
 have:sl=#[]:=Pq e5
 subst this
 simp only[OI,uq] at e3
 cases da<;>simp only[Pz,reduceCtorEq] at e3
 exact AA X G (nA e1) l hl (qC hs e3)
theorem AI (X:K.In h) (G:h.Ns Ob mg) {x:Str}{f:N2}{kvs:List (Str×Int)} (e:fk K (.dct x f kvs)=fm w (.dct x f kvs)) (hf:(f==P1)=false) (nd:(kvs.map (·.1)).Nodup):ny P w K mg x (.k (.t (kvs.map fun q=>(q.1,BT.D.int q.2)))):=by
 simp only[fk,fm,Ov.dct.injEq] at e
 obtain ⟨e1,e2,e3⟩:=e
 obtain ⟨o,l,e4⟩:=Option.map_eq_some_iff.mp e2
 rw[l] at e3
 obtain ⟨cl,di,da,sl⟩:=o
 simp only[shp,QA] at e4
 obtain ⟨rfl,rfl,e5⟩:=e4
 have:sl=#[]:=Pq e5
 subst this
 simp only[OI,Dz] at e3
 cases da<;>simp only[Pz,reduceCtorEq] at e3
 exact xD X G (nA e1) l hf (vS e3) nd
theorem AJ (X:K.In h) (G:h.Ns Ob mg) {x s:Str} (e:fk K (.str x s)=fm w (.str x s)) (k:PyData.strOk s=true):ny P w K mg x (.p (.str s)):=by
 simp only[fk,fm,Ov.seq.injEq,true_and] at e
 split at e
 ·rename_i v hv
  simp only[Pz,QB,and_true] at e
  obtain ⟨t,rfl⟩:=qB e
  exact AB X G hv k
 ·exact BT.jr e
theorem iF {f:N2}{xs:List Str} (e:fk K (.stp f xs)=fm w (.stp f xs)) (hl:xs.length ≤ 1000) (hs:xs.all PyData.strOk=true) (m:List N2) (H:Hp):RD K m H (.ref f) (.tup (xs.map BT.D.str)):=by
 simp only[fk,fm,Ov.seq.injEq,true_and] at e
 obtain ⟨e2,e3⟩:=e
 obtain ⟨o,l,e4⟩:=Option.map_eq_some_iff.mp e2
 rw[l] at e3
 obtain ⟨cl,di,da,sl⟩:=o
 simp only[shp,QA] at e4
 obtain ⟨rfl,rfl,e5⟩:=e4
 have:sl=#[]:=Pq e5
 subst this
 simp only[OI,uq] at e3
 cases da<;>simp only[Pz,reduceCtorEq] at e3
 exact Dv l hl (qC hs e3) m H
theorem GY {v:NS}{a:N2} (h:ur v=some (a:Int)):v=.ref a:=by
 cases v<;>simp[ur] at h
 rw[Int.ofNat_inj.mp h]
theorem vU:∀ {kvs:List (Str×N2)}{es:List Qv},es.map (fun e=>(e.hash,strOf e.key,ur e.val))=kvs.map (fun q=>(PyData.keyHash w.params q.1,some q.1,some (q.2:Int))) → gy w kvs es
 | [],[],_=>.nil
 | [],_ :: _,h=>by simp at h
 | _ :: _,[],h=>by simp at h
 | (x,a) :: kvs,⟨ha,k,v⟩ :: es,h=>by
  simp only[OA,QB,QA] at h
  obtain ⟨⟨rfl,h2,h3⟩,hr⟩:=h
  obtain ⟨t,rfl⟩:=qB h2
  rw[GY h3]
  exact .cons (vU hr)
theorem AK (X:K.In h) (G:h.Ns Ob mg) {x:Str}{f:N2} (kvs:List (Str×N2×List Str)) (e:fk K (.dtp x f (kvs.map fun q=>(q.1,q.2.1)))=fm w (.dtp x f (kvs.map fun q=>(q.1,q.2.1)))) (hf:(f==P1)=false) (nd:(kvs.map (·.1)).Nodup) (rd:∀ q∈kvs,∀ m H,RD K m H (.ref q.2.1) (.tup (q.2.2.map BT.D.str))):ny P w K mg x (.k (.t (kvs.map fun q=>(q.1,BT.D.tup (q.2.2.map BT.D.str))))):=by
 simp only[fk,fm,Ov.dct.injEq] at e
 obtain ⟨e1,e2,e3⟩:=e
 obtain ⟨o,l,e4⟩:=Option.map_eq_some_iff.mp e2
 rw[l] at e3
 obtain ⟨cl,di,da,sl⟩:=o
 simp only[shp,QA] at e4
 obtain ⟨rfl,rfl,e5⟩:=e4
 have:sl=#[]:=Pq e5
 subst this
 simp only[OI,DA] at e3
 cases da<;>simp only[Pz,reduceCtorEq] at e3
 exact ug X G (nA e1) l hf (vU e3) nd rd
end
theorem xE {α:Type}{us:List α}{n:Nat} (h:us.length=n+1):∃ a r,us=a :: r ∧ r.length=n:=by
 cases us with
 | nil=>simp at h
 | cons a r=>exact ⟨a,r,rfl,by simpa using h⟩
theorem len0 {α:Type}{us:List α} (h:us.length=0):us=[]:=Px h
theorem GZ {α:Type}{us:List α} (h:us.length=1):∃ a0,us=[a0]:=by
 obtain ⟨a0,r,rfl,g⟩:=xE h
 exact ⟨a0,by rw[len0 g]⟩
theorem G0 {α:Type}{us:List α} (h:us.length=2):∃ a0 a1,us=[a0,a1]:=by
 obtain ⟨a0,r,rfl,g⟩:=xE h
 obtain ⟨a1,rfl⟩:=GZ g
 exact ⟨a0,a1,rfl⟩
theorem Dy {α:Type}{us:List α} (h:us.length=3):∃ a0 a1 a2,us=[a0,a1,a2]:=by
 obtain ⟨a0,r,rfl,g⟩:=xE h
 obtain ⟨a1,a2,rfl⟩:=G0 g
 exact ⟨a0,a1,a2,rfl⟩
theorem G1 {α:Type}{us:List α} (h:us.length=4):∃ a0 a1 a2 a3,us=[a0,a1,a2,a3]:=by
 obtain ⟨a0,r,rfl,g⟩:=xE h
 obtain ⟨a1,a2,a3,rfl⟩:=Dy g
 exact ⟨a0,a1,a2,a3,rfl⟩
theorem J9 {α:Type}{us:List α} (h:us.length=5):∃ a0 a1 a2 a3 a4,us=[a0,a1,a2,a3,a4]:=by
 obtain ⟨a0,r,rfl,g⟩:=xE h
 obtain ⟨a1,a2,a3,a4,rfl⟩:=G1 g
 exact ⟨a0,a1,a2,a3,a4,rfl⟩
theorem MO {α:Type}{us:List α} (h:us.length=6):∃ a0 a1 a2 a3 a4 a5,us=[a0,a1,a2,a3,a4,a5]:=by
 obtain ⟨a0,r,rfl,g⟩:=xE h
 obtain ⟨a1,a2,a3,a4,a5,rfl⟩:=J9 g
 exact ⟨a0,a1,a2,a3,a4,a5,rfl⟩
noncomputable abbrev BdT (x qual:Str) (st:Sw) (fn:BT.Fn):Prop:=∀ (kV doc pm:NS) (an:Option N2) (cdv ct:NS) (us:List NS),us.length=fn.ps.length → UF (Pn x qual (fz st) (dM st) (cZ st) .none kV doc pm an cdv ct) ⟨us,[]⟩=pure (fn.ps.zip us)
structure CkB (x qual:Str) (s:Sw) (f:BT.Fn):Prop where
 ck:CSs (cZ s) f.ns f.body (dM s):=by repeat' (first | rfl | constructor | decide +kernel)
 sc:fB f.ns f.ps (cZ s):=by constructor<;>first | rfl | decide +kernel
 bd:BdT x qual s f:=by intro _ _ _ _ _ _ us hl;first | (obtain ⟨a0,a1,rfl⟩:=G0 hl;rfl) | (obtain ⟨a0,rfl⟩:=GZ hl;rfl) | (obtain ⟨a0,a1,a2,rfl⟩:=Dy hl;rfl) | (obtain ⟨a0,a1,a2,a3,rfl⟩:=G1 hl;rfl) | (obtain rfl:=len0 hl;rfl) | (obtain ⟨a0,a1,a2,a3,a4,rfl⟩:=J9 hl;rfl) | (obtain ⟨a0,a1,a2,a3,a4,a5,rfl⟩:=MO hl;rfl)
theorem hn {K:NO}{w:Oo}{qs:List Qy} (hq:∀ q∈qs,fk K q=fm w q) (i:Nat) {a:Qy} (h:qs[i]?=some a):fk K a=fm w a:=hq _ (nth i h)
noncomputable def AL (K:NO) (mg:Str → Option NS) (p:BT.FK×BT.Fn):Prop:=(∀ x,p.1=.f x → Def K mg x p.2) ∧ (∀ c m,p.1=.m c m → GE K mg c m p.2) ∧ ∀ L,p.1=.l L → BT.tE L=some p.2 ∧ ∃ ns bt,p.2=⟨ns,ns,.ret bt⟩ ∧ ∀ y,ns.contains (BT.f6 y)=false
theorem dd {K:NO} (d:Def K mg x fn):AL K mg (.f x,fn):=⟨fun y e=>by cases e;exact d,fun c m e=>(by cases e),fun L e=>by cases e⟩
theorem cW {α:Type}{Q:α → Prop}{a:α}{l:List α} (h:Q a) (t:∀ p∈l,Q p):∀ p∈a :: l,Q p:=List.forall_mem_cons.mpr ⟨h,t⟩
theorem vV {α:Type}{Q:α → Prop}:∀ p∈([]:List α),Q p:=fun _ h=>absurd h Ph
section
variable {K:NO}
theorem dd0 (X:K.In h) (G:h.Ns Ob mg) {st:Sw} (e:fk K (.fn x f st)=fm w (.fn x f st)) (c:CkB x x st fn) (tg:AE fn.ns=true:=by decide +kernel):AL K mg (.f x,fn) :=
 dd (GX X G e c.sc c.bd c.ck fun _ _ _=>GW tg)
end
structure G2 (K:NO) (tl:List (Str×N2×N2)):Prop where
 all:∀ z∈BT.gk,(∃ c P,(z,c,P)∈tl ∧ Pe K z=some (c,P)) ∨ Pe K z=none
 hd:∀ q∈tl,RT K q.2.1 q.2.2=true
theorem dJ {K:NO} (e:fk K (.no x)=fm w (.no x)):Pe K x=none:=by
 simp only[fk,fm,Ov.b.injEq,decide_eq_true_eq] at e
 unfold Pe
 rw[e]
theorem uh {K:NO} (e:K.lookup b=some o):b∈K.map (·.1):=List.mem_map.mpr ⟨(b,o),PySem.W.mem_of_lookupK e,rfl⟩
theorem xF {K:NO}
 (KX:K.In s₁.heap) (hns:s₁.heap.Ns Ob mg) (hb:s₁.heap.Ns Qi mb) (hbb:∀ x:Str,x≠"__name__" → mb x=Q4 x) (hlim:s₁.heap.NoLimit) (hg:s₁.gens=#[])
 (ha:s₁.heap.get? a=some { cls:=.type "list",data:=.seq vs.toArray }) (hi:IntsAre vs ns) (hl:ns.length ≤ sizeLine) (hr:eV k UE)
 (hT:G2 K tl) (hTs:∀ p∈tl,s₁.heap.get? p.2.2=some (Rh #[])) (hTk:∀ p∈tl,K.lookup p.2.2=none)
 (F:∀ base:Heap,gP P w K mg base CX0 k fa fd [x] sp) (hbind:∀ (s:NT) (u:NS),K.In s.heap → BindsTo s fd ⟨[u],[]⟩ [(x,u)])
 (hsp:∀ H:Hp,TB K H → LL K H a (ns.map V.int) → sp [.ref a] H (fun v _=>v=.bl true) fun _ _ _=>False) :
 codeAny (Oi P w) UE (.call (.ref fa) ⟨[.ref a],[]⟩) (fun r s'=>r=.ok (.ret (.bool true)) ∧ OldK s₁.heap s'.heap ∧ s'.os=s₁.os ∧ T6 s'.gens) s₁:=by
 have rv:=n8 hi
 have lenV:=hi.length
 have tne:∀ p∈tl,p.2.2≠a:=fun p hp z=>by
  have:=hTs p hp
  rw[z,ha] at this;cases this
 let so:HO:=.frz { cls:=.type "list",data:=.seq vs.toArray } (.lst (ns.map V.int))
 let H:Hp:=fun b=>if ∃ p∈tl,p.2.2=b then some (.tbl #[]) else if b=a ∧ K.lookup a=none then some so else none
 have Ht:∀ p∈tl,H p.2.2=some (.tbl #[]):=fun p hp=>if_pos ⟨p,hp,rfl⟩
 have Hcase:∀ b u,H b=some u → (∃ p∈tl,p.2.2=b ∧ u=.tbl #[]) ∨ (b=a ∧ K.lookup a=none ∧ u=so):=fun b u e=>by
  by_cases c1:∃ p∈tl,p.2.2=b
  ·have e':some (HO.tbl #[])=some u:=(if_pos c1).symm.trans e
   obtain ⟨p,hp,h2⟩:=c1
   exact .inl ⟨p,hp,h2,(N4 e').symm⟩
  ·have e':(if b=a ∧ K.lookup a=none then some so else none)=some u:=(if_neg c1).symm.trans e
   by_cases c2:b=a ∧ K.lookup a=none
   ·rw[if_pos c2] at e'
    exact .inr ⟨c2.1,c2.2,(N4 e').symm⟩
   ·rw[if_neg c2] at e';exact BT.jr e'
 have noA:∀ {b:N2}{o:Obj}{es:Array Qv}{ep:Nat},s₁.heap.get? b=some o → o.data=.dict es ep → H b=none:=fun {b o es ep} e d=>by
  cases q:H b with
  | none=>rfl
  | some u =>
   rcases Hcase b u q with ⟨p,hp,h2,_⟩ | ⟨h2,_⟩
   ·have z:=hTs p hp
    rw[h2,e] at z;cases z;cases d
   ·rw[h2,ha] at e;cases e
    have d':Data.seq vs.toArray _=Data.dict es ep:=d
    cases d'
 have nsK:∀ {b:N2}{m:Str → Option NS},s₁.heap.Ns b m → (qF s₁.heap H).Ns b m:=fun {b m} ⟨o,es,ep,e,d,r⟩=>⟨o,es,ep,qG e (noA e d),d,r⟩
 have hKb:K.In (qF s₁.heap H):=fun b o e=>qG (KX b o e) (by
  cases q:H b with
  | none=>rfl
  | some u =>
   rcases Hcase b u q with ⟨p,hp,h2,_⟩ | ⟨h2,h3,_⟩
   ·rw[← h2,hTk p hp] at e;exact BT.jr e
   ·rw[h2,h3] at e;exact BT.jr e)
 have hM:Mod K mg (qF s₁.heap H):=⟨hKb,nsK hns,⟨mb,nsK hb,hbb⟩,let ⟨mc,h1,h2⟩:=hlim;⟨mc,nsK h1,h2⟩⟩
 have hok:HOk P w H s₁.heap:=fun b u e=>by
  rcases Hcase b u e with ⟨p,hp,h2,rfl⟩ | ⟨h2,_,rfl⟩
  ·subst h2;exact hTs p hp
  ·subst h2;exact ⟨ha,by rw[N5];exact hl,vs,_,rv,ha⟩
 have e0:o4 P w K mg (qF s₁.heap H) UE [] s₁ H:=⟨rfl,hM,fun b o e=>AS e,Nat.le_of_eq (vY _ _),trivial,fun b hb=>absurd (show b∈([]:List N2) from hb) (by simp),hok,.of_eq hg⟩
 have tb:TB K H:=fun z hz c Pt e=>by
  rcases hT.all z hz with ⟨c3,P3,m3,e3⟩ | e3
  ·rw[e] at e3;cases e3
   exact ⟨#[],Ht _ m3,trivial,fun pos v q=>by cases q⟩
  ·rw[e] at e3;cases e3
 have hS:LL K H a (ns.map V.int):=by
  cases hk:K.lookup a with
  | some o =>
   have e:=KX a o hk
   rw[ha] at e
   cases e
   exact .inr ⟨vs,_,hk,by rw[lenV];exact hl,rv⟩
  | none =>
   refine .inl (.inr ⟨{ cls:=.type "list",data:=.seq vs.toArray },?_⟩)
   have e1:H a=(if a=a ∧ K.lookup a=none then some so else none):=if_neg fun ⟨p,hp,z⟩=>tne p hp z
   rw[e1,if_pos ⟨rfl,hk⟩]
 refine SY ((F _).run UE [] s₁ H ⟨[.ref a],[]⟩ [.ref a] [.ref a] _ _ hr e0 (hbind s₁ (.ref a) KX) (.cons rfl .nil) (hsp H tb hS)) fun r s' h=>?_
 cases r with
 | error e=>exact O6 h
 | ok fl =>
  cases fl with
  | next=>exact O6 h
  | brk=>exact O6 h
  | cont=>exact O6 h
  | ret u =>
   obtain ⟨v,H',os,bare,un,hok',r',q⟩:=h
   have q':v=.bl true:=q
   subst q'
   obtain rfl:u=QW true:=r'
   have kp:∀ b o,s₁.heap.get? b=some o → (s'.heap.get? b=some o) ∨ ∃ p∈tl,p.2.2=b ∧ ∃ more,s'.heap.get? b=some (Rh (#[]++more)):=fun b o e=>by
    cases q:H b with
    | none=>exact .inl (un.keep b o e q (by intro z;exact absurd (show b∈([]:List N2) from z) (by simp)) (by simp))
    | some u =>
     rcases Hcase b u q with ⟨p,hp,h2,rfl⟩ | ⟨h2,h3,rfl⟩
     ·obtain ⟨more,z⟩:=un.tbls b _ q
      exact .inr ⟨p,hp,h2,more,hok' b _ z⟩
     ·have z2:=un.frzs b _ _ q
      obtain ⟨e1,_⟩:=hok b _ q
      obtain ⟨e2,_⟩:=hok' b _ z2
      rw[e] at e1;cases e1
      exact .inl e2
   refine ⟨rfl,⟨fun b o e=>?_,fun b o e=>?_⟩,os,bare⟩
   ·rcases kp b o e with z | ⟨p,hp,rfl,more,z⟩
    ·exact .inl z
    ·have e2:=hTs p hp
     rw[e] at e2
     cases e2
     have tA:=(TQ KX (hT.hd p hp)).tab e
     exact .inr (.inl ⟨tA.isCodeTable,rfl,#[],more,rfl,z⟩)
   ·rcases kp b o e with z | ⟨p,hp,rfl,more,z⟩
    ·exact ⟨o,z⟩
    ·exact ⟨_,z⟩
theorem AM {l:PySem.W.OpenLaw}{n k:Nat}{q:Oc}{loose:List Str}{XP:(Str → Option NS) → Heap → Prop}{d:DefRec}{as:List N2}{qs:List Qy}{ts:List N2}{tl:List (Str×N2×N2)}{T:BT.FK → Option BT.Fn}{G:Str → Option BT.W}{fn:BT.Fn}{x:Str}
 (hn:l.most=some n) (hn2:n ≤ sizeLine) (hdf:d.params.defaults=[]) (hr:eV (2*k) UE) (hps:fn.ps=[x]) (hT:T (.f d.name)=some fn) (hts:ts=tl.map (·.2.2)) (hto:tl.all (fun p=>!as.contains p.2.2)=true)
 (FT:∀ (w:Oo) (K:NO),(∀ q∈qs,fk K q=fm w q) → G2 K tl)
 (F:∀ (P:Oc) (w:Oo) (mg:Str → Option NS) (K:NO) (h:Heap),K.In h → h.Ns Ob mg → (∀ q∈qs,fk K q=fm w q) → Txt P w K mg T G)
 (hrun:∀ ns:List Int,ns.length ≤ n → ∃ h',BT.runN T G k (.f d.name) [.p (.lst (BT.c7 ns))] []=some (.p (.bl true),h')) :
 PySem.W.WalkO q loose XP (sees as qs ts).says l.row.toRowW d [] (fun f vs=>UG f vs):=by
 refine Att.qN hn hdf fun w s₀ s₁ mg mb fa o pm cd doc a vs ns Gr Y ho hd hcd hmg hobj hints hlen hg=>?_
 obtain ⟨K,k0,k1,k2,k3⟩:=Y
 have KX:=Dw k1
 have X:=F l.prog w mg K s₁.heap KX Gr.T.g k2
 obtain ⟨f,fd,st,h1,h2,h3,h4,h5,h6⟩:=(X.defs _ fn hT).ex
 rw[hmg] at h1
 cases h1
 refine xF (sp:=spF l.prog w K (BT.runN T G k (.f d.name))) (x:=x) (k:=2*k) (fd:=fd) (tl:=tl) KX Gr.T.g Gr.T.b Gr.T.builtins Gr.T.nolimit hg hobj hints (Om hlen hn2) hr (FT w K k2) (fun p hp=>k3 _ (by rw[hts];exact List.mem_map_of_mem hp)) (fun p hp=>?_) (fun base=>?_) (fun s u hK=>?_) (fun H tb hS=>AD tb hS (hrun ns hlen))
 ·cases e:K.lookup p.2.2 with
  | none=>rfl
  | some o =>
   have m:=uh e
   rw[k0] at m
   have:=List.all_eq_true.mp hto p hp
   rw[List.contains_iff_mem.mpr m] at this;exact BT.dN this
 ·have:=GF (base:=base) X k (.f d.name) fn hT _ fd d.name d.name st h2 h3 h5 h6
  rw[hps] at this
  exact this
 ·have:=h4 s [u] hK (by rw[hps];rfl)
  rw[hps] at this
  exact this
end BG
end
section
namespace BL
open PySem PySem.Spec PyProof.Rows L2 BS BF BG
theorem MP:CkB "is_whole" "is_whole" (top 10) BT.fJ:={}
theorem MQ:CkB "is_worth" "is_worth" (top 11) BT.iz:={}
theorem MR:CkB "is_name" "is_name" (top 12) BT.g9:={}
theorem MS:CkB "is_place" "is_place" (top 13) BT.iA:={}
theorem MT:CkB "first_word" "first_word" (top 14) BT.fR:={}
theorem MU:CkB "inner_sums" "inner_sums" (top 15) BT.d7:={}
theorem MV:CkB "has_sum_form" "has_sum_form" (top 16) BT.dG:={}
theorem MW:CkB "is_sum" "is_sum" (top 17) BT.jX:={}
theorem MY:CkB "fits" "fits" (top 18) BT.kL:={}
theorem MZ:CkB "is_row" "is_row" (top 19) BT.jY:={}
theorem M0:CkB "is_program" "is_program" (top 20) BT.fS:={}
theorem M1:CkB "written_word" "written_word" (top 24) BT.dH:={}
theorem M3:CkB "written_sum" "written_sum" (top 25) BT.fD:={}
theorem M4:CkB "written_row" "written_row" (top 26) BT.fE:={}
theorem M5:CkB "written" "written" (top 27) BT.ji:={}
theorem M6:CkB "is_figures" "is_figures" (top 28) BT.fT:={}
theorem M7:CkB "number_or_word" "number_or_word" (top 29) BT.dW:={}
theorem M8:CkB "leaf_of" "leaf_of" (top 30) BT.gK:={}
theorem M9:CkB "sum_of" "sum_of" (top 31) BT.jZ:={}
theorem Na:CkB "sum_end" "sum_end" (top 32) BT.jj:={}
theorem Nb:CkB "row_of" "row_of" (top 33) BT.j0:={}
theorem Nc:CkB "read_sum" "read_sum" (top 34) BT.iB:={}
theorem Nd:CkB "read" "read" (top 35) BT.qj:={}
theorem Nf:CkB "_law_cell" "_law_cell" (top 37) BT.fH:={}
theorem Ng:CkB "_law_drawn" "_law_drawn" (top 38) BT.fQ:={}
theorem Nh:CkB "_law_sum" "_law_sum" (top 39) BT.eZ:={}
theorem Ni:CkB "_law_row" "_law_row" (top 40) BT.ig:={}
theorem Nj:CkB "_law_program" "_law_program" (top 41) BT.eg:={}
theorem Nk:CkB "_law_asked" "_law_asked" (top 42) BT.iw:={}
theorem Nl:CkB "law" "law" (top 43) BT.iV:={}
noncomputable def tab:List (BT.FK×BT.Fn):=[(.f "is_whole",BT.fJ),(.f "is_worth",BT.iz),(.f "is_name",BT.g9),(.f "is_place",BT.iA),(.f "first_word",BT.fR),(.f "inner_sums",BT.d7),(.f "has_sum_form",BT.dG),(.f "is_sum",BT.jX),(.f "fits",BT.kL),(.f "is_row",BT.jY),(.f "is_program",BT.fS),(.f "written_word",BT.dH),(.f "written_sum",BT.fD),(.f "written_row",BT.fE),(.f "written",BT.ji),(.f "is_figures",BT.fT),(.f "number_or_word",BT.dW),(.f "leaf_of",BT.gK),(.f "sum_of",BT.jZ),(.f "sum_end",BT.jj),(.f "row_of",BT.j0),(.f "read_sum",BT.iB),(.f "read",BT.qj),(.f "_law_cell",BT.fH),(.f "_law_drawn",BT.fQ),(.f "_law_sum",BT.eZ),(.f "_law_row",BT.ig),(.f "_law_program",BT.eg),(.f "_law_asked",BT.iw),(.f "law",BT.iV)]
noncomputable def glo:List (Str×BT.W):=[("WORTH_COUNT",.p (.int 10007)),("MOST_PARTS",.p (.int 15)),("MOST_ROWS",.p (.int 20)),("MOST_FIGURES",.p (.int 5)),("LETTERS",.p (.tup ((["a","b","c","d","e","f"]:List Str).map BT.D.str))),("FIGURES",.p (.str "0123456789")),("ROW_FORMS",.k (.t (([("set",43,["name","sum"]),("put",44,["sum","sum"]),("ask",45,["name"]),("say",46,["sum"]),("jump",47,["place"]),("unless",48,["sum","place"]),("call",49,["place"]),("back",50,[]),("stop",51,[])]:List (Str×N2×List Str)).map fun q=>(q.1,BT.D.tup (q.2.2.map BT.D.str))))),("INNER_COUNTS",.k (.t (([("num",0),("name",0),("cell",1),("add",2),("sub",2),("mul",2),("less",2)]:List (Str×Int)).map fun q=>(q.1,BT.D.int q.2))))]
noncomputable abbrev T:BT.FK → Option BT.Fn:=look tab
noncomputable abbrev G:Str → Option BT.W:=look glo
theorem prg:BT.P80 T G:=⟨rfl,rfl,rfl,rfl,rfl,rfl,rfl,rfl,rfl,rfl,rfl,rfl,rfl,rfl,rfl,rfl,rfl,rfl,rfl,rfl,rfl,rfl,rfl,rfl,rfl,rfl,rfl,rfl,rfl,rfl,rfl⟩
theorem run (ns:List Int) (h:ns.length ≤ 1000):∃ h',BT.runN T G 40 "law" [.p (.lst (BT.c7 ns))] []=some (.p (.bl true),h'):=BT.xC prg ⟨⟨rfl,rfl,rfl,rfl,rfl⟩,rfl,rfl⟩ ns h 27
theorem Ka (w:Oo) (K:NO) (hq:∀ q∈qys,fk K q=fm w q):G2 K tl:=by
 refine ⟨fun z hz=>?_,fun p hp=>?_⟩
 ·simp only[BT.gk,Qe,Ph,or_false] at hz
  rcases hz with rfl | rfl | rfl | rfl | rfl | rfl | rfl | rfl | rfl | rfl | rfl | rfl | rfl | rfl | rfl
  ·exact .inr (dJ (w:=w) (hn hq 68 rfl))
  ·exact .inr (dJ (w:=w) (hn hq 69 rfl))
  ·exact .inr (dJ (w:=w) (hn hq 70 rfl))
  ·exact .inr (dJ (w:=w) (hn hq 71 rfl))
  ·exact .inr (dJ (w:=w) (hn hq 72 rfl))
  ·exact .inr (dJ (w:=w) (hn hq 73 rfl))
  ·exact .inr (dJ (w:=w) (hn hq 74 rfl))
  ·exact .inr (dJ (w:=w) (hn hq 75 rfl))
  ·exact .inr (dJ (w:=w) (hn hq 76 rfl))
  ·exact .inr (dJ (w:=w) (hn hq 77 rfl))
  ·exact .inr (dJ (w:=w) (hn hq 78 rfl))
  ·exact .inr (dJ (w:=w) (hn hq 79 rfl))
  ·exact .inr (dJ (w:=w) (hn hq 80 rfl))
  ·exact .inr (dJ (w:=w) (hn hq 81 rfl))
  ·exact .inr (dJ (w:=w) (hn hq 82 rfl))
 ·simp[tl] at hp
theorem txt (P:Oc) (w:Oo) (mg:Str → Option NS) (K:NO) (h:Heap) (X:K.In h) (Gh:h.Ns Ob mg) (hq:∀ q∈qys,fk K q=fm w q):Txt P w K mg T G:=by
 have tbf:=Ka w K hq
 have all:∀ p∈tab,AL K mg p:=cW (dd0 X Gh (hn hq 0 rfl) MP) <| cW (dd0 X Gh (hn hq 1 rfl) MQ) <| cW (dd0 X Gh (hn hq 2 rfl) MR) <| cW (dd0 X Gh (hn hq 3 rfl) MS) <| cW (dd0 X Gh (hn hq 4 rfl) MT) <| cW (dd0 X Gh (hn hq 5 rfl) MU) <| cW (dd0 X Gh (hn hq 6 rfl) MV) <| cW (dd0 X Gh (hn hq 7 rfl) MW) <| cW (dd0 X Gh (hn hq 8 rfl) MY) <| cW (dd0 X Gh (hn hq 9 rfl) MZ) <| cW (dd0 X Gh (hn hq 10 rfl) M0) <| cW (dd0 X Gh (hn hq 11 rfl) M1) <| cW (dd0 X Gh (hn hq 12 rfl) M3) <| cW (dd0 X Gh (hn hq 13 rfl) M4) <| cW (dd0 X Gh (hn hq 14 rfl) M5) <| cW (dd0 X Gh (hn hq 15 rfl) M6) <| cW (dd0 X Gh (hn hq 16 rfl) M7) <| cW (dd0 X Gh (hn hq 17 rfl) M8) <| cW (dd0 X Gh (hn hq 18 rfl) M9) <| cW (dd0 X Gh (hn hq 19 rfl) Na) <| cW (dd0 X Gh (hn hq 20 rfl) Nb) <| cW (dd0 X Gh (hn hq 21 rfl) Nc) <| cW (dd0 X Gh (hn hq 22 rfl) Nd) <| cW (dd0 X Gh (hn hq 23 rfl) Nf) <| cW (dd0 X Gh (hn hq 24 rfl) Ng) <| cW (dd0 X Gh (hn hq 25 rfl) Nh) <| cW (dd0 X Gh (hn hq 26 rfl) Ni) <| cW (dd0 X Gh (hn hq 27 rfl) Nj) <| cW (dd0 X Gh (hn hq 28 rfl) Nk) <| cW (dd0 X Gh (hn hq 29 rfl) Nl) <| vV
 refine ⟨fun x fn e=>?_,fun c m fn e=>?_,fun L fn e=>?_,fun x z e=>?_,?_⟩
 ·exact iX (Q:=fun k fn=>∀ x,k=.f x → Def K mg x fn) (l:=tab) (fun p hp=>(all p hp).1) e x rfl
 ·exact iX (Q:=fun k fn=>∀ c m,k=.m c m → GE K mg c m fn) (l:=tab) (fun p hp=>(all p hp).2.1) e c m rfl
 ·exact iX (Q:=fun k fn=>∀ L,k=.l L → BT.tE L=some fn ∧ ∃ ns bt,fn=⟨ns,ns,.ret bt⟩ ∧ ∀ y,ns.contains (BT.f6 y)=false) (l:=tab) (fun p hp=>(all p hp).2.2) e L rfl
 ·exact iX (Q:=fun x z=>ny P w K mg x z) (l:=glo) (cW (kh X Gh (hn hq 30 rfl)) <| cW (kh X Gh (hn hq 31 rfl)) <| cW (kh X Gh (hn hq 32 rfl)) <| cW (kh X Gh (hn hq 33 rfl)) <| cW (AH X Gh (hn hq 34 rfl) (by decide) (by decide +kernel)) <| cW (AJ X Gh (hn hq 36 rfl) (by decide +kernel)) <| cW (AK X Gh [("set",43,["name","sum"]),("put",44,["sum","sum"]),("ask",45,["name"]),("say",46,["sum"]),("jump",47,["place"]),("unless",48,["sum","place"]),("call",49,["place"]),("back",50,[]),("stop",51,[])] (hn hq 37 rfl) (by decide) (by decide +kernel) (cW (iF (hn hq 38 rfl) (by decide) (by decide +kernel)) <| cW (iF (hn hq 39 rfl) (by decide) (by decide +kernel)) <| cW (iF (hn hq 40 rfl) (by decide) (by decide +kernel)) <| cW (iF (hn hq 41 rfl) (by decide) (by decide +kernel)) <| cW (iF (hn hq 42 rfl) (by decide) (by decide +kernel)) <| cW (iF (hn hq 43 rfl) (by decide) (by decide +kernel)) <| cW (iF (hn hq 44 rfl) (by decide) (by decide +kernel)) <| cW (iF (hn hq 45 rfl) (by decide) (by decide +kernel)) <| cW (iF (hn hq 46 rfl) (by decide) (by decide +kernel)) <| vV)) <| cW (AI X Gh (hn hq 35 rfl) (by decide) (by decide +kernel)) <| vV) e
 ·exact cW (none_of X Gh (hn hq 47 rfl)) <| cW (none_of X Gh (hn hq 48 rfl)) <| cW (none_of X Gh (hn hq 49 rfl)) <| cW (none_of X Gh (hn hq 50 rfl)) <| cW (none_of X Gh (hn hq 51 rfl)) <| cW (none_of X Gh (hn hq 52 rfl)) <| cW (none_of X Gh (hn hq 53 rfl)) <| cW (none_of X Gh (hn hq 54 rfl)) <| cW (none_of X Gh (hn hq 55 rfl)) <| cW (none_of X Gh (hn hq 56 rfl)) <| cW (none_of X Gh (hn hq 57 rfl)) <| cW (none_of X Gh (hn hq 58 rfl)) <| cW (none_of X Gh (hn hq 59 rfl)) <| cW (none_of X Gh (hn hq 60 rfl)) <| cW (none_of X Gh (hn hq 61 rfl)) <| cW (none_of X Gh (hn hq 62 rfl)) <| cW (none_of X Gh (hn hq 63 rfl)) <| cW (none_of X Gh (hn hq 64 rfl)) <| cW (none_of X Gh (hn hq 65 rfl)) <| cW (none_of X Gh (hn hq 66 rfl)) <| cW (none_of X Gh (hn hq 67 rfl)) <| vV
noncomputable abbrev lw:DefRec:=⟨"law",fz (top 43),dM (top 43),cZ (top 43),Lf (top 43)⟩
theorem df:PySem.W.defOf qg "law"=some (lw,[]):=by kernel_rfl
theorem th:pg.theDef "law"=some (lw.params,lw.body,lw.scope):=by kernel_rfl
theorem walk:PySem.W.WalkO qg loo (PySem.W.XL qg []) (sees adr qys tas).says PySem.Challenge.rw_backtape_k82_whole_sums_written.row.toRowW lw [] (fun f vs=>UG f vs) :=
 AM (l:=PySem.Challenge.rw_backtape_k82_whole_sums_written) (n:=63) (k:=40) (x:="_law_script") (d:=lw) (T:=T) (G:=G) (ts:=tas) (fn:=BT.iV) rfl (by decide) rfl ⟨rfl,by decide,by decide⟩ rfl rfl (tl:=tl) rfl (by decide +kernel) Ka txt fun ns hl=>run ns (by lia)
end BL
open PySem PySem.W PyProof.Rows
set_option maxRecDepth 100000 in
set_option maxHeartbeats 0 in
theorem PySem.Challenge.cw_backtape_k82_whole_sums_written_holds : PySem.Challenge.rw_backtape_k82_whole_sums_written.Holds := by
 w_on;refine PySem.W.holds_law (by decide +kernel) fun said=>?_
 refine PySem.W.holds_open (q:=BL.qg) (loose:=BL.loo) (XP:=XL BL.qg []) (YP:=(BG.sees BL.adr BL.qys BL.tas).says) (d:=BL.lw) (kwd:=[]) BL.left (BG.sees BL.adr BL.qys BL.tas).of (BG.sees BL.adr BL.qys BL.tas).keeps (fun s e=>xl_of s (Bool.and_eq_true_iff.mp e).1) XL.keeps BL.df BL.th (by kernel_rfl) (fun s e=>recFacts_of (Bool.and_eq_true_iff.mp e).2) rfl (by first | assumption | decide +kernel) (by decide +kernel) ⟨rfl,rfl,rfl,rfl,rfl,by decide +kernel⟩ ?hw BL.walk
 (case hw=>w_witness2)
#print axioms PySem.Challenge.cw_backtape_k82_whole_sums_written_holds
end
end

import PyProof.Rows.All
import Wide.All
import OpenK.AllK
import Wide.FinOn
import PyProof.EqAt
import PyProof.EqKinds
import PyProof.TupleCall
import Open.Tree
import Wide.Once
import KE.KLam
import KE.KNestM
import PyProof.Rows.SetFrom
import PySem.Syntax
import PySem.Builtin.Str.Common
import PyProof.SliceList
import PyProof.NeData
import PyProof.ZipIter
import KE.KRevIter
import KE.KItemsList
import PyProof.ListRange
import PyProof.EnumFor
import PyProof.EnumMake
import PyProof.EnumStmt
import PyProof.CompFree
import PyProof.PlainList
import Lean
import PySem.Challenge.RW_backtape_k23_whole_asked_so
set_option autoImplicit false
set_option Elab.async false
set_option linter.all false
set_option maxRecDepth 100000
set_option maxHeartbeats 8000000
set_option genSizeOf false
noncomputable section
open PySem.W renaming Frag->Nl,nsIn->Oe,tabIn->Oi,findIn->Ol,emptyDict->OA,keepIn->OD,fnOf->OS,instObj->O0,mg_of->Pd,tabObj->Pq,kia_one->Pz,callWith_K->PB,methodCall_KW->PN,plainGet->PX,envX->Qf,kitOne->Qj,hasDictIn->Ql,codeHdIn->Qx,kla_obj->QE,lookIn->QK,codeIn->QL,plainGet_of->QT,callWith_K0->QU,plainOver->Rg,methodObj->Rh,isFn->Rm,ksm_same->Rp,takerIn->Rz,makesIn->RB,absHeap->Sa,SharedT->Sb,recOk->Se,cellsFrom_some->Sn,xlAt->Sw,codeHd_of_K->SM,openSeen->Ti,handedIn->Tj
open PySem renaming Expr->Nn,Value->Np,Shared->Nr,Program->NG,mainGlobals->NL,Scope->NO,model->NR,starEach->NZ,World->N2,sliceBounds->N4,wpAny_newObj_type->Oc,compareOp->Oh,Stmt->Oq,Around->Oz,wpAny_truthy_bool->OH,wpAny_holding->OL,mem_of_lookup->OP,binaryOp->OR,FuncData->OY,wpAny_Call_Name_kw->O2,wpAny_setState_of->O7,wpAny_callSpecial?_slot->Pa,rawInt->Pc,Arguments->Pe,builtinsNs->Pf,backTo->Po,wpAny_passesOwn->Pv,NameKind->Pw,wpAny_setField->PK,wpAny_call_entry->PL,wpAny_loadPart'->PV,keywordEach->P1,fits_of_scanBound->P4,call_meets->P5,Expr->P7,Operator->Qa,wpAny_typeOf->Qc,scanBound->Qd,wpAny_isInstance->Qi,swapsWith->Qo,pickOrder->Qp,codeAmong->Qq,bootBuiltins->QB,wpAny_call->QJ,attributeBase->QO,wpAny_updateSeq->Q7,wpAny_ite_split->Q8,wpAny_execs_nil->Q9,letOwnedTupleGo->Rc,importedModules->Re,sliceRange->Rj,backToKw->Rk,assignEach->Rl,wpAny_setEntries_of->Rx,sizeLine_eq->Ry,Keyword->RE,storeSet->RK,pyNext->RL,getMethod->RM,behindInMarks->RN,DictEntry->RT,wpAny_rule->RZ,sysModules->R0,spliced->R6,getItem->R8,Stmt->Sk,IsPart->Su,noFill_tuple_add->Sv,bindArgs->SA,assign->SJ,Result->SK,Within->SL,Fin->SN,wpAny_binaryOp_repeat_ref->SY,setAddHashedIn->SZ,wpAny_getItem_list_slice->Tg,wpAny_standAt->Tu,seq_tuple_add->Tw,evalPart_none->Tz,compEnvC->TF,callerA->TH,call->TM,Builtin->TR
open PySem.Heap renaming get?_push_of_some->Nq,lt_size->Nx,get?_push_size->Nz,get?_update_self->Od,SameBut->Ou,size_push->OO,get?_update_other->O8,ExtBut->RV
open Bool renaming and_eq_true->Nt,false_ne_true->Ob,or_eq_true->Pn,not_eq_true'->PU,or_false->Ro,not_true->SE
open Nat renaming le_refl->Nu,lt_or_ge->NK,lt_of_lt_of_le->NU,ne_of_lt->NV,zero_le->N5,le_trans->Oj,le_succ->Ox,le_of_lt->OI,lt_succ_self->OW,lt_irrefl->OZ,ne_of_gt->O6,mul_comm->PJ,not_lt_zero->QW,div_add_mod->QX,mod_lt->QY,div_le_div_right->Q0,mul_div_cancel->Rr,lt_of_le_of_lt->Rt,lt_succ_of_lt->RC,zero_add->RG,lt_trans->Tc
open List renaming size_toArray->Nv,getElem?_append_left->Ny,getElem?_eq_getElem->NB,mem_cons_of_mem->NC,range->ND,getElem?_eq_none->NF,mem_cons_self->NI,mem_of_getElem?->NJ,length_map->NP,replicate->NQ,length_cons->NS,length_append->NT,map_cons->NW,getElem?_append_right->NY,getElem?_map->N1,filterMap_cons->N3,mem_append_right->N6,getElem?_set_ne->N9,append_nil->Oa,not_mem_nil->Oo,append_assoc->Ot,length_nil->Ow,getElem?_set_self->OC,all_eq_true->OM,mem_cons->ON,replicate_succ->OQ,lookup_cons->OV,singleton_append->OX,getElem?_of_mem->O4,length_range->O5,nil_append->Ph,map_nil->Pi,length_singleton->Pj,flatten_cons->Pp,map_congr_left->Px,lookup->Py,map_map->PD,getElem?_take_of_lt->PF,getElem?_replicate->PM,length_replicate->PY,mem_append_left->P6,map_append->Qg,getElem?_range->Qh,getD_eq_getElem?_getD->Qk,nodup_nil->Qn,length->QC,head_eq_of_cons_eq->QD,getElem_mem->QF,reverse_singleton->QG,range_succ_eq_map->QH,of_mem_zip->QM,drop_zero->Q2,any_cons->Rn,length_take->RI,eq_nil_of_length_eq_zero->RJ,dropLast_concat_getLast->RP,length_eraseIdx_of_lt->Sh,getElem?_eq_none_iff->Sq,drop_eq_getElem_cons->Ss,foldl->Sy,sum_cons->SB,all_cons->SC,find?_cons_of_neg->SO,set_set->SW,length_dropLast->Td,range'->To,mem_map_of_mem->Tq,drop_succ_cons->Tt
open Option.some renaming inj->NH,injEq->Qe
open PySem.Str renaming ofString->NN,ofString_eq_toList->SV
open Array renaming getElem?_eq_getElem->N7,getElem?_eq_none->OB,length_toList->OF,eq_empty_of_size_eq_zero->Rv,getElem?_append_left->RY,getElem?_extract->SG,toList->SQ,getElem?_toList->SR,getElem?_push->Tf
open PyProof.Rows renaming callWith_type1->N8,slot_tuple_getitem->OT,firstMet->O3,IntsAre->Qw,callWith_builtin1->QV,AllBare->Sj,envOfC->SI,subscriptTail->Tv
open False renaming elim->Of
open PySem.Heap.SameBut renaming update->Og,refl->QN
open PySem.NameKind renaming free->Om,cell->QZ
open PySem.Value renaming ref->On,none->P9,type->Qs,int->Qt,isStrOf->Rf,isInt->S9,isInt_shape->TJ,bool->TL
open Ne renaming symm->Os
open PySem.Builtin.List renaming listTooLong->OE,listExtendWith->PR,listLengthHint->Q6,listSameRef->Ru
open PySem.Obj renaming mapFields->OG,mapSeq->Pr
open Option renaming bind_some->OJ,getD_some->TN,getD_none->TQ
open PySem.F renaming plain_extend_loop->OU,args_tuple_add_2->Qm,plainAttrs_list->Qu,entry_tuple_add->Qv,slot_tuple_add->Qz,entry_extend_loop->RO,plain_list_iadd->Sf,slot_set_iter->Sx
open PySem.Around renaming under_plainId->O1,under->SH,frames_deeper->SS
open PySem.Calls renaming spliced_cons->O9,spliced_nil->PP,Name_function_global->RX,callWith_builtin->SD
open PySem.Builtin.Slice renaming slicePlaces->Pb,sliceAdjust->P0,sliceApplied->Q5
open PySem.Builtin.Tuple renaming tupleExact->Pk,tupleTooMany->Q3,tupleItemsOf->Q4
open Int renaming toNat_natCast->Pu,natCast_zero->QI
open List.cons renaming injEq->PZ
open PySem.pickOrder renaming go->P8
open ForInStep renaming yield->QA
open True renaming intro->QS
open PySem.PassesOwn renaming never->Rq
open PySem.Heap.IsSliceOf renaming new->RQ
open Classical renaming axiomOfChoice->RU
open Prod.mk renaming injEq->Sg
open List.Pairwise renaming map->Si
open Char renaming toNat->Sz
open PySem.Code renaming isFrame->SX
open PySem.AutoSeq1 renaming idx_int->Te
open PyProof.Rows.IntsAre renaming length->Tn
section
namespace L2
open PySem PySem.Spec PyProof.Rows
def cG (s:Sk):Pe:=match s with
 | .FunctionDef _ a _ _ _ _ _ _ _ _=>a
 | _=>{ posonlyargs:=[],args:=[],vararg:=none,kwonlyargs:=[],kw_defaults:=[],kwarg:=none,defaults:=[] }
def aI (s:Sk):List Sk:=match s with
 | .FunctionDef _ _ b _ _ _ _ _ _ _=>b
 | _=>[]
def aq (s:Sk):NO:=match s with
 | .FunctionDef _ _ _ _ _ _ sc _ _ _=>sc
 | _=>{ kind:=.function,names:=[],isGenerator:=false,isCoroutine:=false }
end L2
end
section
namespace BR
open PySem PySem.W PyProof.Rows
noncomputable def oK:List Obj->BT->Nat->Option (BT×Nat)
 | [],T,n=>some (T,n)
 | o :: r,T,n=>match ((T.ins n o).get n).isSome with
  | true=>oK r (T.ins n o) (n+1)
  | false=>none
theorem mw (life:Life):∀ {l:List Obj}{T T':BT}{n n':Nat},oK l T n=some (T',n')->(Sa T' n' life).objs.toList=(Sa T n life).objs.toList++l
 | [],T,T',n,n',h=>by cases h;simp
 | o :: r,T,T',n,n',h=>by
  unfold oK at h
  cases g:((T.ins n o).get n).isSome with
  | false=>rw[g] at h;cases h
  | true =>
   rw[g] at h
   rw[mw life h,absHeap_ins g]
   show ((Sa T n life).objs.push o).toList++r=_
   simp
noncomputable def toT (s:Nr):Option Sb:=match oK s.heap.objs.toList .nil 0 with
 | some (T,n)=>some ⟨T,n,s.heap.life,s.gens,s.drawn,s.toks,s.os⟩
 | none=>none
theorem zT {s:Nr}{t:Sb} (h:toT s=some t):t.abs=s:=by
 unfold toT at h
 cases e:oK s.heap.objs.toList .nil 0 with
 | none=>rw[e] at h;cases h
 | some r =>
  obtain ⟨T,n⟩:=r
  rw[e] at h
  cases h
  have:=mw s.heap.life e
  obtain ⟨⟨objs,life⟩,g,d,k,o⟩:=s
  show Shared.mk (Sa T n life) g d k o=Shared.mk ⟨objs,life⟩ g d k o
  have e2:(Sa T n life).objs.toList=objs.toList:=by
   rw[this];simp[Sa,BT.list]
  have e3:(Sa T n life).objs=objs:=Array.toList_inj.mp e2
  have e4:Sa T n life=⟨objs,life⟩:=by
   show Heap.mk _ _=Heap.mk _ _
   exact congrArg (Heap.mk · life) e3
  rw[e4]
noncomputable def jU (tb:String->Option TR) (p:NG) (w:N2) (n₀:Nat) (ann:Option Np):Nat->Sb->Thread->Option Sb
 | 0,_,_=>none
 | n+1,s,t=>match through t with
  | true=>some s
  | false=>match stepOk n₀ ann t with
   | false=>none
   | true=>match stepT (denote tb) p w s t with
    | some (s',t')=>jU tb p w n₀ ann n s' t'
    | none=>none
section
variable {tb:String->Option TR}{p:NG}{w:N2}{n₀:Nat}{ann:Option Np}
theorem mz:∀ {n:Nat}{s s':Sb}{t:Thread},jU tb p w n₀ ann n s t=some s'->topRun tb p w n₀ ann n s.abs t=some s'.abs
 | 0,_,_,_,h=>by cases h
 | n+1,s,s',t,h=>by
  unfold jU at h
  unfold topRun
  cases he:through t with
  | true=>rw[he] at h;cases h;rfl
  | false =>
   rw[he] at h
   cases hk:stepOk n₀ ann t with
   | false=>rw[hk] at h;cases h
   | true =>
    rw[hk] at h
    cases hs:stepT (denote tb) p w s t with
    | none=>rw[hs] at h;cases h
    | some r=>obtain ⟨s₂,t₂⟩:=r;rw[hs] at h;dsimp only;rw[stepT_spec hs];exact mz h
end
noncomputable def kj (tb:String->Option TR) (p:NG) (w:N2) (N:Nat) (s₀:Nr):Option Sb :=
 match s₀.heap.isNs NL&&s₀.gens.size==0 with
 | true=>(toT s₀).bind fun t₀=>(jU tb p w s₀.heap.objs.size (s₀.heap.nsMap NL "__annotations__") N t₀ (topStub p)).bind fun t₁ =>
  match staticsOk (Re p.main.body) s₀.heap t₁.abs.heap&&namesBound p t₁.abs.heap&&gensDone t₁.abs&&laidKept s₀.heap t₁.abs.heap with
   | true=>some t₁
   | false=>none
 | false=>none
theorem qt {tb:String->Option TR}{p:NG}{w:N2}{N:Nat}{s₀:Nr}{t:Sb} (h:kj tb p w N s₀=some t):topFrom tb p w N s₀=some t.abs:=by
 unfold kj at h
 unfold topFrom
 cases e:(s₀.heap.isNs NL&&s₀.gens.size==0) with
 | false=>rw[e] at h;cases h
 | true =>
  rw[e] at h
  obtain ⟨t₀,h0,h⟩:=Option.bind_eq_some_iff.mp h
  obtain ⟨t₁,h1,h⟩:=Option.bind_eq_some_iff.mp h
  have h2:=mz h1
  rw[zT h0] at h2
  dsimp only
  rw[h2]
  show (match _ with | true=>some t₁.abs | false=>none)=_
  cases e2:(staticsOk (Re p.main.body) s₀.heap t₁.abs.heap&&namesBound p t₁.abs.heap&&gensDone t₁.abs&&laidKept s₀.heap t₁.abs.heap) with
  | false=>rw[e2] at h;cases h
  | true=>rw[e2] at h;cases h;rfl
noncomputable def mC (tb:String->Option TR) (p:NG) (w:N2) (N:Nat):Option Sb:=(fencedOpening tb p w N).bind (kj tb p w N)
theorem zU {tb:String->Option TR}{p:NG}{w:N2}{N:Nat}{α:Type}{f:Nr->α}{x:α} (h:(mC tb p w N).map (fun t=>f t.abs)=some x):(openEnds tb p w N).map f=some x:=by
 obtain ⟨t,ht,e⟩:=Option.map_eq_some_iff.mp h
 obtain ⟨s₀,h0,h1⟩:=Option.bind_eq_some_iff.mp ht
 unfold openEnds
 rw[h0]
 show (topFrom tb p w N s₀).map f=some x
 rw[qt h1]
 exact congrArg some e
end BR
end
section
namespace BG
open PySem PySem.Spec PySem.Calls PyProof.Rows L2
structure FS where
 name:Str
 qual:Str
 params:Pe
 body:FuncBody
 scope:NO
 globals:Addr
 closure:List (Str×Addr)
 defaults:Np
 builtins:Addr
 code:Bool
noncomputable def zV (K:Nl) (f:Addr):Option FS:=match K.lookup f with
 | some ⟨_,_,.func fd,_⟩=>some ⟨fd.name,fd.qualname,fd.params,fd.body,fd.scope,fd.globals,fd.closure,fd.defaults,fd.builtins,QL K fd.code fd.qualname⟩
 | _=>none
noncomputable def rP (x qual:Str) (st:Sk):FS:=⟨x,qual,cG st,.stmts (aI st),aq st,NL,[],.none,Pf,true⟩
noncomputable def strOf:Np->Option Str
 | .str x _=>some x
 | _=>none
noncomputable def intOf:Np->Option Int
 | .int i _=>some i
 | _=>none
noncomputable def refOf:Option (Option Np)->Option Addr
 | some (some (.ref a))=>some a
 | _=>none
inductive Qy where
 | fn (x:Str) (f:Addr) (st:Sk) | int (x:Str) (n:Int) | tup (x:Str) (f:Addr) (xs:List Str) | dct (x:Str) (f:Addr) (kvs:List (Str×Int)) | no (x:Str) | cls (c:Str) (C:Addr) | me (C:Addr) (m x qual:Str) (f:Addr) (st:Sk) | mk (C:Addr)
 | tab (x:Str) (c P:Addr) | bm (b:Addr) | fv (x:Str) (f:Addr)
inductive Ov where
 | fn (a:Option Addr) (o:Option FS) | int (n:Option Int) | seq (a:Option Addr) (c:Option (Np×Option Addr×Nat)) (xs:Option (List (Option Str))) | dct (a:Option Addr) (c:Option (Np×Option Addr×Nat)) (xs:Option (List (Int×Option Str×Option Int))) | b (x:Bool)
noncomputable def shp (o:Obj):Np×Option Addr×Nat:=(o.cls,o.dict,o.slots.size)
noncomputable def CF (o:Obj):Option (List (Option Str)):=match o.data with
 | .seq its _=>some (its.toList.map strOf)
 | _=>none
noncomputable def CG (o:Obj):Option (List (Int×Option Str×Option Int)):=match o.data with
 | .dict es _=>some (es.toList.map fun e=>(e.hash,strOf e.key,intOf e.val))
 | _=>none
noncomputable def attrs:List Str:=["program","asked","gap","most","kept","farthest","front","now","origins","branches","tape","named"]
noncomputable def GB (K:Nl) (c:Str) (C:Addr):Bool:=decide (Oe K NL c=some (some (.ref C)))&&PX K C Str.empty&&Ql K C&&Rg K C&&decide (Ol K (.ref C) "__setattr__"=some (some (.builtin "object.__setattr__"))) &&
 attrs.all fun f=>decide (Ol K (.ref C) f=some none)
noncomputable def meB (K:Nl) (C:Addr) (m:Str) (f:Addr):Bool:=decide (Ol K (.ref C) m=some (some (.ref f)))&&Rm K (.ref f)
noncomputable def mkB (K:Nl) (C:Addr):Bool:=RB K C&&OD K (.ref C)
noncomputable def bmB (K:Nl) (b:Addr):Bool:=decide (Oe K NL "__builtins__"=some (some (.ref b)))&&decide (b≠Pf)&&(match K.lookup b with
 | some ⟨.type "module",some d,.plain,_⟩=>d==Pf
 | _=>false)
noncomputable def bY (K:Nl):Qy->Ov
 | .fn x f _=>.fn (refOf (Oe K NL x)) (zV K f)
 | .int x _=>.int (match Oe K NL x with | some (some v)=>intOf v | _=>none)
 | .tup x f _=>.seq (refOf (Oe K NL x)) ((K.lookup f).map shp) ((K.lookup f).bind CF)
 | .dct x f _=>.dct (refOf (Oe K NL x)) ((K.lookup f).map shp) ((K.lookup f).bind CG)
 | .no x=>.b (decide (Oe K NL x=some none))
 | .cls c C=>.b (GB K c C)
 | .me C m _ _ f _=>.fn (if meB K C m f then some f else none) (zV K f)
 | .mk C=>.b (mkB K C)
 | .tab x c P=>.b (decide (Oi K x=some (c,P))&&Qx K c P)
 | .bm b=>.b (bmB K b)
 | .fv x f=>.b (decide (Oe K NL x=some (some (.ref f)))&&OD K (.ref f))
noncomputable def bZ (w:N2):Qy->Ov
 | .fn x f st=>.fn (some f) (some (rP x x st))
 | .int _ n=>.int (some n)
 | .tup _ f xs=>.seq (some f) (some (.type "tuple",none,0)) (some (xs.map some))
 | .dct _ f kvs=>.dct (some f) (some (.type "dict",none,0)) (some (kvs.map fun q=>(PyData.keyHash w.params q.1,some q.1,some q.2)))
 | .no _=>.b true
 | .cls _ _=>.b true
 | .me _ _ x qual f st=>.fn (some f) (some (rP x qual st))
 | .mk _=>.b true
 | .tab _ _ _=>.b true
 | .bm _=>.b true
 | .fv _ _=>.b true
noncomputable def KOf (as:List Addr) (h:Heap):Nl:=as.map fun a=>(a,(h.get? a).getD default)
noncomputable def sees (as:List Addr) (qs:List Qy) (ts:List Addr):PySem.W.Hook where
 α:=Bool×List Ov×List (Option Obj)
 obs:=fun s=>(as.all fun a=>(s.heap.get? a).isSome,qs.map (bY (KOf as s.heap)),ts.map s.heap.get?)
 val:=fun w=>(true,qs.map (bZ w),ts.map fun _=>some (Pq #[]))
 says:=fun w h=>∃ K:Nl,K.map (·.1)=as/\(∀ p∈K,h.get? p.1=some p.2)/\(∀ q∈qs,bY K q=bZ w q)/\∀ P∈ts,h.get? P=some (Pq #[])
 of:=fun w s e=>by
  have e1:=congrArg Prod.fst e
  have e2:=congrArg (fun p=>p.2.1) e
  have e3:=congrArg (fun p=>p.2.2) e
  refine ⟨KOf as s.heap,by simp[KOf,Function.comp_def],fun p hp=>?_,fun q hq=>List.map_inj_left.mp e2 q hq,fun P hP=>List.map_inj_left.mp e3 P hP⟩
  obtain ⟨a,ha,rfl⟩:=List.mem_map.mp hp
  have h1:=List.all_eq_true.mp e1 a ha
  obtain ⟨o,ho⟩:=Option.isSome_iff_exists.mp h1
  show s.heap.get? a=some ((s.heap.get? a).getD default)
  rw[ho];rfl
 keeps:=fun w h h' ⟨K,m,n,k,t⟩ hk=>⟨K,m,fun p hp=>hk _ _ (n p hp),k,fun P hP=>hk _ _ (t P hP)⟩
end BG
end
section
namespace BL
open PySem PySem.Spec PyProof.Rows L2 BG
noncomputable abbrev pg:NG:=PySem.Challenge.pw_backtape_k23_whole_asked_so
noncomputable def qg:NG:=PySem.W.view pg [0,2,3,4,6,7,8,9,10,11,12,13,15,16,17,18,19,20,21,22,23,24,25,26,27,28,29,30,31,32,33,34,35,37,38,39,40,41,42,43,44,46,47,49,50,51,52,53,54,55]
noncomputable abbrev loo:List Str:=["INNER_COUNTS"]
noncomputable def top (i:Nat):Sk:=pg.main.body.getD i (.Pass ⟨0,0,0,0⟩)
noncomputable def GC:Sk->List Sk
 | .ClassDef _ _ _ b _ _ _ _ _ _ _=>b
 | _=>[]
noncomputable def bA (i j:Nat):Sk:=(GC (top i)).getD j (.Pass ⟨0,0,0,0⟩)
noncomputable def KM:Sk->Pos
 | .FunctionDef _ _ _ _ _ _ _ _ _ p=>p
 | _=>⟨0,0,0,0⟩
noncomputable abbrev adr:List Addr:=[3,4,59,60,66,67,73,74,80,81,87,88,94,95,101,102,108,109,115,116,122,123,129,130,136,137,143,144,150,151,157,158,164,165,171,172,178,179,185,186,192,193,197,198,204,205,211,212,216,217,223,224,230,231,237,238,251,252,258,259,265,266,319,320,326,327,333,334,340,341,347,348,354,355,361,362,375,376,382,383,389,390,392,393,403,404,410,411,417,418,424,425,429,430,434,435,439,440]
noncomputable def qys:List Qy:=[.fn "is_whole" 67 (top 10),
 .fn "is_name" 74 (top 11),
 .fn "is_cell" 81 (top 12),
 .fn "inner_sums" 88 (top 13),
 .fn "begun" 95 (top 22),
 .fn "check_thing" 102 (top 23),
 .fn "worth_in" 109 (top 24),
 .fn "laid_out" 116 (top 25),
 .fn "of_two" 123 (top 26),
 .fn "worth_of" 130 (top 27),
 .fn "reckoned" 137 (top 28),
 .fn "cell_by" 144 (top 29),
 .fn "is_over" 151 (top 30),
 .fn "place_behind" 158 (top 31),
 .fn "with_worth" 165 (top 32),
 .fn "with_name" 172 (top 33),
 .fn "brought" 179 (top 34),
 .fn "stepped" 186 (top 35),
 .fn "sum_at" 193 (top 37),
 .fn "moments_so" 198 (top 38),
 .fn "last_so" 205 (top 39),
 .fn "next_so" 212 (top 40),
 .fn "visits" 217 (top 41),
 .fn "last_visit" 224 (top 42),
 .fn "said_at" 231 (top 43),
 .fn "when_said" 238 (top 44),
 .fn "_law_cell" 404 (top 49),
 .fn "_law_drawn" 411 (top 50),
 .fn "_law_sum" 418 (top 51),
 .fn "_law_row" 425 (top 52),
 .fn "_law_program" 430 (top 53),
 .fn "_law_asked" 435 (top 54),
 .fn "law" 440 (top 55),
 .int "CELL_COUNT" 4,
 .int "WORTH_COUNT" 10007,
 .int "ROW" 0,
 .int "NAMES" 1,
 .int "CELLS" 2,
 .int "CALLS" 3,
 .int "ASKED" 4,
 .int "SAID" 5,
 .int "MOST_CALLS" 6,
 .int "MOST_MARKS" 8,
 .tup "LETTERS" 59 ["a","b","c","d","e","f"],
 .dct "INNER_COUNTS" 60 [("num",0),("name",0),("cell",1),("add",2),("sub",2),("mul",2),("less",2)],
 .no "len",
 .no "abs",
 .no "int",
 .no "list",
 .no "tuple",
 .no "isinstance",
 .no "str",
 .no "bool",
 .no "range",
 .no "reversed",
 .no "enumerate",
 .no "zip",
 .no "min",
 .no "max",
 .no "sorted",
 .no "sum",
 .no "all",
 .no "any",
 .no "set",
 .no "worths_of",
 .no "last_change",
 .no "next_change",
 .tab "moments_so" 197 195,
 .tab "last_so" 204 200,
 .tab "next_so" 211 207,
 .tab "visits" 216 214,
 .tab "last_visit" 223 219,
 .tab "when_said" 237 233,
 .no "next_within",
 .no "last_within",
 .no "first_other",
 .no "writer_of",
 .no "judged",
 .no "remade",
 .bm 4,
 .cls "Tape" 393,
 .mk 393,
 .me 393 "__init__" "__init__" "Tape.__init__" 252 (bA 47 0),
 .me 393 "at" "at" "Tape.at" 259 (bA 47 1),
 .me 393 "end" "end" "Tape.end" 266 (bA 47 2),
 .me 393 "behind" "behind" "Tape.behind" 320 (bA 47 10),
 .me 393 "is_last" "is_last" "Tape.is_last" 327 (bA 47 11),
 .me 393 "keep" "keep" "Tape.keep" 334 (bA 47 12),
 .me 393 "reach" "reach" "Tape.reach" 341 (bA 47 13),
 .me 393 "has" "has" "Tape.has" 348 (bA 47 14),
 .me 393 "check" "check" "Tape.check" 355 (bA 47 15),
 .me 393 "readings" "readings" "Tape.readings" 362 (bA 47 16),
 .me 393 "first_from" "first_from" "Tape.first_from" 376 (bA 47 18),
 .me 393 "last_to" "last_to" "Tape.last_to" 383 (bA 47 19),
 .me 393 "last_between" "last_between" "Tape.last_between" 390 (bA 47 20)]
noncomputable abbrev tl:List (Str×Addr×Addr):=[("moments_so",197,195),("last_so",204,200),("next_so",211,207),("visits",216,214),("last_visit",223,219),("when_said",237,233)]
noncomputable abbrev tas:List Addr:=[195,200,207,214,219,233]
noncomputable def Lf (w:N2):Prop:=(BR.mC treeTable pg w 5716).map (fun t=>(Ti qg loo (Re pg.main.body) (fun s=>Sw qg [] s&&Se [] s) true t.abs,(sees adr qys tas).obs t.abs))=some (PySem.W.openGood qg loo,(sees adr qys tas).val w)
theorem lf0 (w:N2):Lf (w.withFollow "special-get-raises" false):=by unfold Lf;kernel_rfl
theorem lf1 (w:N2):Lf (w.withFollow "special-get-raises" true):=by unfold Lf;kernel_rfl
theorem left:PySem.W.LeftO pg qg loo (fun s=>Sw qg [] s&&Se [] s) (sees adr qys tas).obs (sees adr qys tas).val 5716:=fun w=>BR.zU (f:=fun s=>(Ti qg loo (Re pg.main.body) (fun s=>Sw qg [] s&&Se [] s) true s,(sees adr qys tas).obs s)) (PySem.W.byRow2 (P:=Lf) "special-get-raises" lf0 lf1 w)
end BL
end
section
namespace L2
open PySem PySem.Spec PyProof.Rows
noncomputable abbrev Key:=Sum Int Str
noncomputable def rQ:Key->Np->Bool
 | .inl k,v=>S9 k v
 | .inr x,v=>Rf x v
noncomputable def KN (w:N2):Key->Int
 | .inl k=>hashInt k
 | .inr x=>hashStr w x
theorem aU:∀ {k:Key}{v:Np},rQ k v=true->(∃ i t,k=Sum.inl i/\v=Qt i t)\/(∃ x t,k=Sum.inr x/\v=Value.str x t)
 | .inl i,v,h=>by
  obtain ⟨t,e⟩:=TJ (k:=i) (v:=v) h
  exact .inl ⟨i,t,rfl,e⟩
 | .inr x,v,h=>by
  obtain ⟨t,e⟩:=Value.isStrOf_shape (x:=x) (v:=v) h
  exact .inr ⟨x,t,rfl,e⟩
theorem ux (x:Str) (t:Tok):rQ (.inr x) (.str x t)=true:=by simp[rQ,Rf]
theorem Dj (a b:Int):decide ((Sum.inl a:Key)=Sum.inl b)=(a==b):=by
 by_cases e:a=b
 ·subst e;simp
 ·have h:¬ (Sum.inl a:Key)=Sum.inl b:=fun q=>e (Sum.inl.inj q)
  rw[decide_eq_false h]
  exact (beq_eq_false_iff_ne.mpr e).symm
theorem Dk (a b:Str):decide ((Sum.inr a:Key)=Sum.inr b)=decide (a=b):=by
 by_cases e:a=b
 ·subst e;simp
 ·have h:¬ (Sum.inr a:Key)=Sum.inr b:=fun q=>e (Sum.inr.inj q)
  rw[decide_eq_false h,decide_eq_false e]
theorem Dl (a:Int) (b:Str):decide ((Sum.inl a:Key)=Sum.inr b)=false:=decide_eq_false (fun q=>nomatch q)
theorem Dm (a:Str) (b:Int):decide ((Sum.inr a:Key)=Sum.inl b)=false:=decide_eq_false (fun q=>nomatch q)
noncomputable def cH (prog:NG) (w:N2):PySem.KeyKind prog w Key where
 is:=rQ
 hash:=KN w
 inj:=fun v a b ha hb=>by
  rcases aU ha with ⟨i,t,rfl,rfl⟩ | ⟨x,t,rfl,rfl⟩
  ·rcases aU hb with ⟨j,u,rfl,e⟩ | ⟨y,u,rfl,e⟩
   ·injection e with e1 _;rw[e1]
   ·exact nomatch e
  ·rcases aU hb with ⟨j,u,rfl,e⟩ | ⟨y,u,rfl,e⟩
   ·exact nomatch e
   ·injection e with e1 _;rw[e1]
 byValue:=fun k v h=>by
  rcases aU h with ⟨i,t,rfl,rfl⟩ | ⟨x,t,rfl,rfl⟩<;>rfl
 pyHash:=fun hv h=>by
  rcases aU hv with ⟨i,t,rfl,rfl⟩ | ⟨x,t,rfl,rfl⟩
  ·exact wpAny_pyHash_int h
  ·exact wpAny_pyHash_str h
 eqBool:=fun hu hv h=>by
  rcases aU hu with ⟨i,t,rfl,rfl⟩ | ⟨x,t,rfl,rfl⟩
  ·rcases aU hv with ⟨j,u,rfl,rfl⟩ | ⟨y,u,rfl,rfl⟩
   ·rw[Dj] at h;exact wpAny_eqBool_int h
   ·rw[Dl] at h;exact SeqAt.EqAt.int_str i t y u _ _ _ _ h
  ·rcases aU hv with ⟨j,u,rfl,rfl⟩ | ⟨y,u,rfl,rfl⟩
   ·rw[Dm] at h;exact SeqAt.EqAt.str_int x t j u _ _ _ _ h
   ·rw[Dk] at h;exact wpAny_eqBool_str h
 «strs»:=fun k x t v h=>by
  rcases aU h with ⟨i,u,rfl,e⟩ | ⟨y,u,rfl,e⟩
  ·exact nomatch e
  ·injection e with e1 _
   subst e1
   cases v<;>rfl
theorem f9 (prog:NG) (w:N2) (x:Str) (t:Tok):(cH prog w).is (.inr x) (.str x t)=true:=ux x t
end L2
namespace L2
open PySem PySem.Spec PyProof.Rows
inductive V where
 | non | bl (b:Bool) | int (i:Int) | str (x:Str) | byt (b:Array UInt8) | flt (b:UInt64) | ref (a:Addr) | ty (n:String)
 deriving DecidableEq
noncomputable def RelV:V->Np->Prop
 | .non,u=>u=P9
 | .bl b,u=>u=TL b
 | .int i,u=>∃ t,u=Qt i t
 | .str x,u=>∃ t,u=Value.str x t
 | .byt b,u=>∃ t,u=Value.bytes b t
 | .flt b,u=>∃ t,u=Value.float b t
 | .ref a,u=>u=On a
 | .ty n,u=>u=Qs n
noncomputable abbrev au:List V->List Np->Prop:=Paired RelV
theorem au.length {xs:List V}{us:List Np} (r:au xs us):xs.length=us.length:=Paired.length r
theorem au.get:∀ {xs:List V}{us:List Np}{i:Nat}{x:V},au xs us->xs[i]?=some x->∃ u,us[i]?=some u/\RelV x u
 | _,_,_,_,.nil,e=>by simp at e
 | _,_,0,_,.cons r _,e=>by simp at e;subst e;exact ⟨_,rfl,r⟩
 | _,_,i+1,x,.cons _ t,e=>by
  obtain ⟨u,h1,h2⟩:=au.get (i:=i) (x:=x) t (by simpa using e)
  exact ⟨u,by simpa using h1,h2⟩
theorem au.set {x:V}{u:Np} (r:RelV x u):∀ {xs:List V}{us:List Np} (i:Nat),au xs us->au (xs.set i x) (us.set i u)
 | _,_,_,.nil=>.nil
 | _,_,0,.cons _ t=>.cons r t
 | _,_,i+1,.cons q t=>.cons q (au.set r i t)
theorem au.append:∀ {xs ys:List V}{us ws:List Np},au xs us->au ys ws->au (xs++ys) (us++ws)
 | _,_,_,_,.nil,s=>s
 | _,_,_,_,.cons r t,s=>.cons r (au.append t s)
theorem au.take:∀ {xs:List V}{us:List Np} (n:Nat),au xs us->au (xs.take n) (us.take n)
 | _,_,0,_=>.nil
 | _,_,_+1,.nil=>.nil
 | _,_,n+1,.cons r t=>.cons r (au.take n t)
theorem au.drop:∀ {xs:List V}{us:List Np} (n:Nat),au xs us->au (xs.drop n) (us.drop n)
 | _,_,0,r=>r
 | _,_,_+1,.nil=>.nil
 | _,_,n+1,.cons _ t=>au.drop n t
noncomputable def lJ:Option V->Option Np->Prop
 | some v,some u=>RelV v u
 | none,none=>True
 | _,_=>False
noncomputable def KV {κ:Type}:List (κ×V)->List (κ×Np)->Prop:=Paired fun (p:κ×V) (q:κ×Np)=>p.1=q.1/\RelV p.2 q.2
noncomputable def kV:Key->V
 | .inl i=>.int i
 | .inr x=>.str x
inductive HO where
 | lst (xs:List V)
 | tup (xs:List V)
 | dK (kvs:List (Key×V)) | dT (kvs:List (List Key×V))
 | set (S:Int->Bool) (n:Nat)
 | ins (C dx:Addr) (fs:List (Str×V))
 | own (x:Addr)
 | xd (fs:List (Str×V))
 | met (f x:Addr)
 | rng (lo hi:Int)
 | frz (o:Obj) (u:HO)
 | tbl (ps:Array Np)
 | ext (φ:Heap->Prop)
noncomputable abbrev Hp:=Addr->Option HO
noncomputable def upd (H:Hp) (a:Addr) (o:HO):Hp:=fun b=>if b=a then some o else H b
theorem aB {H:Hp}{a:Addr}{o:HO}:upd H a o a=some o:=by unfold upd;rw[if_pos rfl]
theorem ao {H:Hp}{a b:Addr}{o:HO} (h:b≠a):upd H a o b=H b:=by unfold upd;rw[if_neg h]
theorem az {H:Hp}{a b:Addr}{o:HO} (h:H a=some o) (h':H b=none):a≠b:=by
 intro e;subst e;rw[h] at h';cases h'
section
variable (P:NG) (w:N2)
noncomputable def dW (H:Hp) (h:Heap) (a:Addr):HO->Prop
 | .lst xs=>xs.length<=sizeLine/\∃ (its:List Np) (n:Nat),au xs its/\h.get? a=some { cls:=.type "list",data:=.seq its.toArray n }
 | .tup xs=>xs.length<=sizeLine/\∃ its:List Np,au xs its/\IsTup h a its.toArray
 | .dK kvs=>kvs.length<=sizeLine/\(a==R0)=false/\∃ vs,KV kvs vs/\h.DictOf (cH P w) a vs
 | .dT kvs=>kvs.length<=sizeLine/\(a==R0)=false/\∃ xs:List (List Key×Addr×Np),
  Paired (fun (p:List Key×V) (q:List Key×Addr×Np)=>p.1=q.1/\H q.2.1=some (.tup (p.1.map kV))/\RelV p.2 q.2.2) kvs xs ∧
  ∃ o es ep,h.get? a=some o/\o.ExactDict/\o.data=.dict es ep/\es.toList=xs.map (entryOfKey (tupleKind (cH P w)))/\(xs.map (·.1)).Nodup
 | .set S n=>h.SetOf (intKind P w) a S n
 | .ins C dx fs=>H dx=some (.own a)/\fs.length<=1000/\dx≠a/\h.get? a=some (O0 C dx) ∧
  ∃ mA,h.Ns1 dx mA/\(∀ f,lJ (fs.lookup f) (mA f))/\SL mA (fs.map (·.1))
 | .own _=>∃ o,h.get? a=some o
 | .xd fs=>∃ mA,h.Ns1 a mA/\∀ f,lJ (fs.lookup f) (mA f)
 | .rng lo hi=>∃ t u v,h.get? a=some { cls:=.type "range",data:=.fields #[.int lo t,.int hi u,.int 1 v] }
 | .frz o u=>h.get? a=some o/\dW H h a u
 | .tbl ps=>h.get? a=some { cls:=.none,data:=.fields ps }
 | .met f x=>h.get? a=some (Rh (.ref f) (.ref x))
 | .ext φ=>φ h/\(∃ o,h.get? a=some o)/\∀ h1 h2:Heap,φ h1->(∀ o,h1.get? a=some o->h2.get? a=some o)->φ h2
noncomputable def HOk (H:Hp) (h:Heap):Prop:=∀ a o,H a=some o->dW P w H h a o
end
section
variable {P:NG}{w:N2}{H H':Hp}{h h':Heap}{a:Addr}{o:HO}
theorem dW.lt (x:dW P w H h a o):a < h.objs.size:=by
 cases o with
 | lst xs=>obtain ⟨_,_,_,_,e⟩:=x;exact Nx e
 | tup xs=>obtain ⟨_,_,_,p⟩:=x;exact p.lt
 | dK kvs=>obtain ⟨_,_,_,_,o,_,_,e,_⟩:=x;exact Nx e
 | dT kvs=>obtain ⟨_,_,_,_,o,_,_,e,_⟩:=x;exact Nx e
 | set S n=>obtain ⟨o,_,_,_,e,_⟩:=x;exact Nx e
 | ins C dx fs=>obtain ⟨_,_,_,e,_⟩:=x;exact Nx e
 | own y=>obtain ⟨_,e⟩:=x;exact Nx e
 | xd fs=>obtain ⟨_,⟨_,_,_,e,_⟩,_⟩:=x;exact Nx e
 | rng lo hi=>obtain ⟨_,_,_,e⟩:=x;exact Nx e
 | frz ob u=>obtain ⟨e,_⟩:=x;exact Nx e
 | tbl ps=>exact Nx (show h.get? a=some _ from x)
 | met f y=>exact Nx (show h.get? a=some _ from x)
 | ext φ=>obtain ⟨_,⟨_,e⟩,_⟩:=x;exact Nx e
theorem Paired.GD {α β:Type}{F G:α->β->Prop}:∀ {l₁:List α}{l₂:List β},Paired F l₁ l₂->(∀ a b,F a b->G a b)->Paired G l₁ l₂
 | _,_,.nil,_=>.nil
 | _,_,.cons r t,f=>.cons (f _ _ r) (Paired.GD t f)
theorem dW.stay (x:dW P w H h a o) (k:∀ b u,(b=a\/H b=some (.own a))->h.get? b=some u->h'.get? b=some u)
 (ho:∀ b,H b=some (.own a)->H' b=some (.own a)) (ht:∀ b xs,H b=some (.tup xs)->H' b=some (.tup xs)):dW P w H' h' a o:=by
 induction o with
 | lst xs=>obtain ⟨z,its,n,r,e⟩:=x;exact ⟨z,its,n,r,k _ _ (.inl rfl) e⟩
 | tup xs=>obtain ⟨z,its,r,ob,e,c⟩:=x;exact ⟨z,its,r,ob,k _ _ (.inl rfl) e,c⟩
 | dK kvs=>obtain ⟨z,y,vs,r,ob,es,ep,e,c⟩:=x;exact ⟨z,y,vs,r,ob,es,ep,k _ _ (.inl rfl) e,c⟩
 | dT kvs =>
  obtain ⟨z,y,xs,r,ob,es,ep,e,c⟩:=x
  exact ⟨z,y,xs,Paired.GD r fun p q z=>⟨z.1,ht _ _ z.2.1,z.2.2⟩,ob,es,ep,k _ _ (.inl rfl) e,c⟩
 | set S n=>obtain ⟨ob,es,ep,t,e,c⟩:=x;exact ⟨ob,es,ep,t,k _ _ (.inl rfl) e,c⟩
 | ins C dx fs =>
  obtain ⟨d,z,ne,e,mA,⟨od,es,ep,e2,c⟩,r⟩:=x
  exact ⟨ho _ d,z,ne,k _ _ (.inl rfl) e,mA,⟨od,es,ep,k _ _ (.inr d) e2,c⟩,r⟩
 | own y=>obtain ⟨ob,e⟩:=x;exact ⟨ob,k _ _ (.inl rfl) e⟩
 | xd fs=>obtain ⟨mA,⟨od,es,ep,e,c⟩,r⟩:=x;exact ⟨mA,⟨od,es,ep,k _ _ (.inl rfl) e,c⟩,r⟩
 | rng lo hi=>obtain ⟨t,u,v,e⟩:=x;exact ⟨t,u,v,k _ _ (.inl rfl) e⟩
 | frz ob u ih=>obtain ⟨e,q⟩:=x;exact ⟨k _ _ (.inl rfl) e,ih q⟩
 | tbl ps =>
  have e:h.get? a=some { cls:=.none,data:=.fields ps }:=x
  show h'.get? a=some { cls:=.none,data:=.fields ps }
  exact k a _ (.inl rfl) e
 | met f y =>
  have e:h.get? a=some (Rh (.ref f) (.ref y)):=x
  show h'.get? a=some (Rh (.ref f) (.ref y))
  exact k a _ (.inl rfl) e
 | ext φ=>obtain ⟨p,⟨o,e⟩,st⟩:=x;exact ⟨st _ _ p fun o q=>k _ _ (.inl rfl) q,⟨o,k _ _ (.inl rfl) e⟩,st⟩
theorem HOk.lt (x:HOk P w H h) (e:H a=some o):a < h.objs.size:=(x a o e).lt
theorem HOk.fresh (x:HOk P w H h) (e:h.objs.size<=a):H a=none:=by
 cases q:H a with
 | none=>rfl
 | some u=>exact absurd (NU (x.lt q) e) (OZ _)
theorem HOk.kept (x:HOk P w H h) (k:∀ b u,h.get? b=some u->h'.get? b=some u):HOk P w H h':=fun a o e =>
 (x a o e).stay (fun b u _ q=>k b u q) (fun _ q=>q) fun _ _ q=>q
theorem HOk.laid (x:HOk P w H h) (k:∀ b u,h.get? b=some u->h'.get? b=some u) (hp:h.objs.size<=a) (new:dW P w (upd H a o) h' a o):HOk P w (upd H a o) h':=fun b u e=>by
 have hn:=x.fresh hp
 by_cases hb:b=a
 ·subst hb;rw[aB] at e;cases e;exact new
 ·rw[ao hb] at e
  exact (x b u e).stay (fun c v _ q=>k c v q) (fun c q=>by rw[ao (az q hn)];exact q) fun c xs q=>by rw[ao (az q hn)];exact q
end
noncomputable def Rd (H:Hp) (a:Addr) (u:HO):Prop:=H a=some u\/∃ o,H a=some (.frz o u)
theorem Rd.ok {P:NG}{w:N2}{H:Hp}{h:Heap}{a:Addr}{u:HO} (r:Rd H a u) (x:HOk P w H h):dW P w H h a u:=by
 rcases r with r | ⟨o,r⟩
 ·exact x a u r
 ·obtain ⟨_,q⟩:=x a _ r
  exact q
noncomputable def Mut:Option HO->Prop
 | some (.lst _)=>True
 | some (.dK _)=>True
 | some (.dT _)=>True
 | some (.set _ _)=>True
 | some (.ins _ _ _)=>True
 | some (.ext _)=>True
 | _=>False
section
variable {P:NG}{w:N2}{H:Hp}{h h':Heap}{x e:Addr}{o':HO}
theorem HOk.write (ok:HOk P w H h) (mu:Mut (H x)) (he:e=x\/H e=some (.own x)) (k:∀ b u,b≠e->h.get? b=some u->h'.get? b=some u) (heo:∃ u,h'.get? e=some u)
 (new:dW P w (upd H x o') h' x o'):HOk P w (upd H x o') h':=fun b u q=>by
 have nown:∀ c y,H c=some (.own y)->c≠x:=fun c y r z=>by subst z;rw[r] at mu;exact mu
 have ntup:∀ c xs,H c=some (.tup xs)->c≠x:=fun c xs r z=>by subst z;rw[r] at mu;exact mu
 by_cases hb:b=x
 ·subst hb;rw[aB] at q;cases q;exact new
 ·rw[ao hb] at q
  by_cases hbe:b=e
  ·have q':H b=some (.own x):=by
    rcases he with z | z
    ·exact absurd (hbe.trans z) hb
    ·rw[hbe];exact z
   rw[q] at q';cases q'
   obtain ⟨v,hv⟩:=heo
   exact ⟨v,by rw[hbe];exact hv⟩
  ·refine (ok b u q).stay (fun c v hc r=>k c v ?_ r) (fun c r=>by rw[ao (nown c b r)];exact r) fun c xs r=>by rw[ao (ntup c xs r)];exact r
   rcases hc with rfl | hc
   ·exact hbe
   ·rintro rfl
    rcases he with z | z
    ·exact nown c b hc z
    ·rw[hc] at z;cases z;exact hb rfl
end
structure Un (fs ex:List Addr) (H H':Hp) (h h':Heap):Prop where
 keep:∀ b o,h.get? b=some o->H b=none->b∉fs->b∉ex->h'.get? b=some o
 slot:∀ b o,h.get? b=some o->H b=none->b∈fs->b∉ex->∃ sl,h'.get? b=some { o with slots:=sl }
 free:∀ b o,h.get? b=some o->H b=none->b∉ex->H' b=none
 there:∀ b o,h.get? b=some o->b∉ex->∃ o',h'.get? b=some o'
 tups:∀ b xs,H b=some (.tup xs)->H' b=some (.tup xs)
 frzs:∀ b o u,H b=some (.frz o u)->H' b=some (.frz o u)
 tbls:∀ b ps,H b=some (.tbl ps)->∃ more,H' b=some (.tbl (ps++more))
section
variable {fs fs' ex ex':List Addr}{H H1 H2:Hp}{h h1 h2 h':Heap}{a x e:Addr}{o:HO}
theorem Un.any (u:Un fs ex H H1 h h1) {b:Addr}{ob:Obj} (q:h.get? b=some ob) (n:H b=none) (hx:b∉ex):∃ sl,h1.get? b=some { ob with slots:=sl }:=by
 by_cases hb:b∈fs
 ·exact u.slot b ob q n hb hx
 ·exact ⟨ob.slots,u.keep b ob q n hb hx⟩
theorem Un.kept (k:∀ b u,h.get? b=some u->h'.get? b=some u):Un fs ex H H h h' :=
 ⟨fun b ob q _ _ _=>k b ob q,fun b ob q _ _ _=>⟨ob.slots,k b ob q⟩,fun _ _ _ n _=>n,fun b ob q _=>⟨ob,k b ob q⟩,fun _ _ q=>q,fun _ _ _ q=>q,fun _ ps q=>⟨#[],by rw[q];simp⟩⟩
theorem Un.refl:Un fs ex H H h h:=Un.kept fun _ _ q=>q
theorem Un.laid (k:∀ b u,h.get? b=some u->h'.get? b=some u) (hp:h.objs.size<=a) (hn:H a=none):Un fs ex H (upd H a o) h h' where
 keep:=fun b u q _ _ _=>k b u q
 slot:=fun b u q _ _ _=>⟨u.slots,k b u q⟩
 free:=fun b u q n _=>by rw[ao (NV (NU (Nx q) hp))];exact n
 there:=fun b u q _=>⟨u,k b u q⟩
 tups:=fun b xs q=>by rw[ao (az q hn)];exact q
 frzs:=fun b u xs q=>by rw[ao (az q hn)];exact q
 tbls:=fun b ps q=>⟨#[],by rw[ao (az q hn),q];simp⟩
theorem Un.write (mu:Mut (H x)) (he:e=x\/H e=some (.own x)) (k:∀ b u,b≠e->h.get? b=some u->h'.get? b=some u) (heo:∃ u,h'.get? e=some u):Un fs ex H (upd H x o) h h':=by
 have hx:∀ b,H b=none->b≠x:=fun b n z=>by subst z;rw[n] at mu;exact mu
 have hb:∀ b,H b=none->b≠e:=fun b n z=>by
  subst z
  rcases he with r | r
  ·exact hx b n r
  ·rw[n] at r;cases r
 have hm:∀ b u,H b=some u->¬ Mut (some u)->b≠x:=fun b u q nm z=>by subst z;rw[q] at mu;exact nm mu
 refine ⟨fun b u q n _ _=>k b u (hb b n) q,fun b u q n _ _=>⟨u.slots,k b u (hb b n) q⟩,fun b u q n _=>by rw[ao (hx b n)];exact n,fun b u q _=>?_,
  fun b xs q=>by rw[ao (hm b _ q fun z=>z)];exact q,fun b u xs q=>by rw[ao (hm b _ q fun z=>z)];exact q,fun b ps q=>⟨#[],by rw[ao (hm b _ q fun z=>z),q];simp⟩⟩
 by_cases hbe:b=e
 ·subst hbe;exact heo
 ·exact ⟨u,k b u hbe q⟩
end
noncomputable def trk (h:Heap) (H:Hp):List Addr:=(ND h.objs.size).filter fun a=>(H a).isSome
noncomputable def oM (h:Heap) (H:Hp):Heap:=PySem.W.hideAll h (trk h H)
theorem uy (h:Heap) (H:Hp):(oM h H).objs.size=h.objs.size:=PySem.W.hideAll_size _ _
theorem oN {h:Heap}{H:Hp}{b:Addr}{o:Obj} (e:h.get? b=some o) (n:H b=none):(oM h H).get? b=some o :=
 PySem.W.hideAll_get _ e fun hm=>by
  have q:(H b).isSome=true:=(List.mem_filter.mp hm).2
  rw[n] at q;simp at q
theorem zW {h:Heap}{H:Hp}{b:Addr}{o:Obj} (e:(oM h H).get? b=some o):h.get? b=some o/\H b=none:=by
 have e':h.get? b=some o:=PySem.W.of_hideAll (trk h H) e
 refine ⟨e',?_⟩
 cases q:H b with
 | none=>rfl
 | some x =>
  have hm:b∈trk h H:=List.mem_filter.mpr ⟨List.mem_range.mpr (Nx e'),by simp[q]⟩
  have z:(oM h H).get? b=none:=PySem.W.hideAll_none (trk h H) hm
  rw[z] at e;cases e
noncomputable def zX (g h:Heap) (L:Addr):List (Addr×Obj):=(ND h.objs.size).filterMap fun a=>if a=L\/(g.get? a).isSome=true then none else (h.get? a).map fun o=>(a,o)
noncomputable def rest (g h:Heap) (L d:Addr):List (Addr×Obj):=(zX g h L).filter fun p=>decide (p.1≠d)
end L2
namespace L2
open PySem PySem.Spec PyProof.Rows
structure Mod (K:Nl) (mg:Str->Option Np) (base:Heap):Prop where
 kin:K.In base
 glob:base.Ns NL mg
 blt:∃ mb,base.Ns Pf mb/\∀ x:Str,x≠"__name__"->mb x=QB x
 nolimit:base.NoLimit
structure Cx where
 prog:NG
 w:N2
 K:Nl
 mg:Str->Option Np
 base:Heap
 A:Oz
 N:List Str
 s₀:Nr
 H₀:Hp
 env:Env
 outer:List Env
 stack:List Env
 ex:List Addr
 fn:Str->Bool
 calm:Bool
 pn:List (Addr×Obj)
 xe:Np->Nr->Prop
noncomputable def frs (l:List Env):List Addr:=l.filterMap (·.frame)
noncomputable abbrev Cx.fs (X:Cx):List Addr:=frs X.outer
noncomputable def Vis (sc:NO) (x:Str):Prop:=sc.names.lookup x=some .local\/sc.names.lookup x=some .cell\/sc.names.lookup x=some .free
noncomputable def Loc (sc:NO) (x:Str):Prop:=sc.names.lookup x=some .local\/sc.names.lookup x=some .cell
noncomputable def Look (env:Env) (h:Heap) (m:Str->Option Np) (x:Str) (u:Np):Prop :=
 (env.kindOf x=some .local/\m x=some u)\/((env.kindOf x=some .cell\/env.kindOf x=some .free)/\∃ c,env.cells.lookup x=some c/\h.IsCell c (some u))
structure Cx.Ok (X:Cx):Prop where
 mod:Mod X.K X.mg X.base
 kind:X.env.scope.kind=.function
 glob:X.env.globals=NL
 blt:X.env.builtins=Pf
 above:X.s₀.heap.objs.size<=X.env.locals
 inj:∀ x y c,X.env.cells.lookup x=some c->X.env.cells.lookup y=some c->x=y
 has:∀ x,(X.env.kindOf x=some .cell\/X.env.kindOf x=some .free)->∃ c,X.env.cells.lookup x=some c
 cab:∀ x c,X.fn x=true->X.env.cells.lookup x=some c->X.s₀.heap.objs.size<=c
 hd:X.calm=true->X.A.handled=none
 frames:X.A.frames=some X.stack
 stk:X.stack=X.outer\/(X.stack=X.env :: X.outer/\X.env.frame=some X.env.locals)
 exf:∀ b∈X.ex,b≠X.env.locals/\∀ x c,X.env.cells.lookup x=some c->c≠b
 bs:∀ b o,X.base.get? b=some o->X.s₀.heap.get? b=some o/\X.H₀ b=none
 bsz:X.base.objs.size<=X.s₀.heap.objs.size
 noex:∀ b o,X.base.get? b=some o->b∉X.ex
 exfs:∀ b∈X.ex,b∉X.fs
 iw:X.s₀.heap.FunFrames X.base X.outer
 frf:∀ b∈X.fs,X.H₀ b=none
structure Inv (X:Cx) (pins:List (Addr×Obj)) (σ:List (Option V)) (H:Hp) (s:Nr):Prop where
 ok:X.Ok
 os:s.os=X.s₀.os
 bare:Sj s.gens
 base:Un X.fs X.ex X.H₀ H X.s₀.heap s.heap
 loc:∃ m,s.heap.Ns X.env.locals m/\∀ (i:Nat) (x:Str) (v:V),X.N[i]?=some x->σ[i]?=some (some v)->Vis X.env.scope x->∃ u,RelV v u/\Look X.env s.heap m x u
 cell:∀ x c,X.env.cells.lookup x=some c->∃ v,s.heap.IsCell c v
 free:H X.env.locals=none
 freeC:∀ x c,X.env.cells.lookup x=some c->H c=none
 pin:∀ p∈X.pn++pins,s.heap.get? p.1=some p.2/\H p.1=none/\p.1≠X.env.locals/\p.1∉X.fs/\∀ v,p.2.data≠.cell v
 hok:HOk X.prog X.w H s.heap
 len:σ.length=X.N.length
section
variable {X:Cx}{pins:List (Addr×Obj)}{σ:List (Option V)}{H H':Hp}{s:Nr}{h':Heap}
theorem Cx.Ok.KO (ok:X.Ok) {b:Addr}{o:Obj} (e:X.base.get? b=some o):b∉X.fs:=fun hb=>by
 have:=(ok.iw.mem hb).1
 rw[e] at this;cases this
theorem Inv.bs (I:Inv X pins σ H s):∀ b o,X.base.get? b=some o->s.heap.get? b=some o/\H b=none:=fun b o e =>
 ⟨I.base.keep b o (I.ok.bs b o e).1 (I.ok.bs b o e).2 (I.ok.KO e) (I.ok.noex b o e),I.base.free b o (I.ok.bs b o e).1 (I.ok.bs b o e).2 (I.ok.noex b o e)⟩
theorem Inv.bk (I:Inv X pins σ H s):∀ b o,X.base.get? b=some o->s.heap.get? b=some o:=fun b o e=>(I.bs b o e).1
theorem Inv.mod (I:Inv X pins σ H s):Mod X.K X.mg X.base:=I.ok.mod
theorem Inv.kIn (I:Inv X pins σ H s):X.K.In s.heap:=I.ok.mod.kin.keeps I.bk
theorem Inv.lt (I:Inv X pins σ H s):X.env.locals < s.heap.objs.size:=let ⟨_,hn,_⟩:=I.loc;hn.lt
theorem Inv.sz (I:Inv X pins σ H s):X.s₀.heap.objs.size<=s.heap.objs.size:=Oj I.ok.above (OI I.lt)
theorem Inv.KP (I:Inv X pins σ H s) {a:Addr} (h:s.heap.objs.size<=a):a∉X.fs:=fun hb=>by
 obtain ⟨_,o,ho,_⟩:=I.ok.iw.mem hb
 exact absurd (NU (Nx ho) (Oj I.sz h)) (OZ _)
theorem Inv.cne (I:Inv X pins σ H s):∀ x c,X.env.cells.lookup x=some c->c≠X.env.locals:=fun x c e z=>by
 obtain ⟨v,o,ho,hd⟩:=I.cell x c e
 obtain ⟨m,⟨o',es,ep,ho',hd',_⟩,_⟩:=I.loc
 rw[z,ho'] at ho;cases ho;rw[hd'] at hd;cases hd
theorem Inv.iw (I:Inv X pins σ H s):s.heap.FunFrames X.base X.outer:=by
 have all:∀ (l:List Env),(∀ b∈frs l,b∈X.fs)->X.s₀.heap.FunFrames X.base l->s.heap.FunFrames X.base l:=by
  intro l
  induction l with
  | nil=>intro _ _;trivial
  | cons env r ih =>
   intro hs hl
   obtain ⟨hk,⟨L,o,hf,hn,ho,hd⟩,hr⟩:=hl
   have hL:L∈X.fs:=hs L (by unfold frs;rw[N3,hf];exact NI)
   obtain ⟨sl,e⟩:=I.base.slot L o ho (I.ok.frf L hL) hL fun z=>I.ok.exfs L z hL
   exact ⟨hk,⟨L,_,hf,hn,e,hd⟩,ih (fun b hb=>hs b (by unfold frs;rw[N3,hf];exact NC _ hb)) hr⟩
 exact all X.outer (fun _ hb=>hb) I.ok.iw
theorem Inv.stack (I:Inv X pins σ H s):s.heap.FunFrames X.base X.stack:=by
 rcases I.ok.stk with e | ⟨e,hf⟩
 ·rw[e];exact I.iw
 ·rw[e]
  obtain ⟨m,hn,_⟩:=I.loc
  refine .cons (by rw[I.ok.kind];decide) hf hn ?_ I.iw
  exact Heap.get?_none_of_le (Oj I.ok.bsz I.ok.above)
theorem Inv.ko (I:Inv X pins σ H s):∀ b∈frs X.stack,b∈X.env.locals :: X.fs:=fun b hb=>by
 rcases I.ok.stk with e | ⟨e,hf⟩
 ·rw[e] at hb;exact NC _ hb
 ·rw[e] at hb
  unfold frs at hb
  rw[N3,hf] at hb
  exact hb
theorem Inv.ni (I:Inv X pins σ H s):∀ b∈frs X.stack,H b=none:=fun b hb=>by
 rcases List.mem_cons.mp (I.ko b hb) with e | hb
 ·rw[e];exact I.free
 ·obtain ⟨_,o,ho,_⟩:=I.ok.iw.mem hb
  exact I.base.free b o ho (I.ok.frf b hb) fun z=>I.ok.exfs b z hb
theorem Inv.step {g':Array GenState}{t':Nat}{d':Drawn}{ch:List Addr} (I:Inv X pins σ H s)
 (hch:∀ b∈ch,(b∈X.ex\/X.s₀.heap.objs.size<=b)/\b≠X.env.locals/\(∀ x c,X.env.cells.lookup x=some c->c≠b)/\∀ p∈X.pn++pins,p.1≠b)
 (keep:∀ b o,b≠X.env.locals->b∉X.fs->b∉ch->s.heap.get? b=some o->H b=none->h'.get? b=some o)
 (slot:∀ b o,b≠X.env.locals->b∈X.fs->b∉ch->s.heap.get? b=some o->H b=none->∃ sl,h'.get? b=some { o with slots:=sl }) (free:∀ b o,b∉ch->s.heap.get? b=some o->H b=none->H' b=none)
 (there:∀ b o,b∉ch->s.heap.get? b=some o->∃ o',h'.get? b=some o')
 (tups:∀ b xs,H b=some (.tup xs)->H' b=some (.tup xs)) (frzs:∀ b o u,H b=some (.frz o u)->H' b=some (.frz o u)) (tbls:∀ b ps,H b=some (.tbl ps)->∃ more,H' b=some (.tbl (ps++more)))
 (ns:∀ m,s.heap.Ns X.env.locals m->h'.Ns X.env.locals m) (hok:HOk X.prog X.w H' h') (hg:Sj g') :
 Inv X pins σ H' { s with heap:=h',gens:=g',drawn:=d',toks:=t' }:=by
 have neL:∀ b o,X.s₀.heap.get? b=some o->b≠X.env.locals:=fun b o e=>NV (NU (Nx e) I.ok.above)
 have neC:∀ b o,X.s₀.heap.get? b=some o->b∉X.ex->b∉ch:=fun b o e hx hb=>by
  rcases (hch b hb).1 with z | z
  ·exact hx z
  ·exact absurd (NU (Nx e) z) (OZ _)
 have cellK:∀ x c,X.env.cells.lookup x=some c->∀ v,s.heap.IsCell c v->h'.IsCell c v:=fun x c e v ⟨o,ho,hd⟩=>by
  have nch:c∉ch:=fun z=>(hch c z).2.2.1 x c e rfl
  by_cases hc:c∈X.fs
  ·obtain ⟨sl,q⟩:=slot c o (I.cne x c e) hc nch ho (I.freeC x c e)
   exact ⟨_,q,hd⟩
  ·exact ⟨o,keep c o (I.cne x c e) hc nch ho (I.freeC x c e),hd⟩
 refine ⟨I.ok,I.os,hg,⟨fun b o e n hb hx=>?_,fun b o e n hb hx=>?_,fun b o e n hx=>?_,fun b o e hx=>?_,fun b xs e=>tups b xs (I.base.tups b xs e),fun b o xs e=>frzs b o xs (I.base.frzs b o xs e),fun b ps e=>?_⟩,?_,fun x c e=>?_,?_,fun x c e=>?_,fun p hp=>?_,hok,I.len⟩
 ·exact keep b o (neL b o e) hb (neC b o e hx) (I.base.keep b o e n hb hx) (I.base.free b o e n hx)
 ·obtain ⟨sl,e1⟩:=I.base.slot b o e n hb hx
  obtain ⟨sl',e2⟩:=slot b _ (neL b o e) hb (neC b o e hx) e1 (I.base.free b o e n hx)
  exact ⟨sl',e2⟩
 ·obtain ⟨o',e1⟩:=I.base.there b o e hx
  exact free b o' (neC b o e hx) e1 (I.base.free b o e n hx)
 ·obtain ⟨o',e1⟩:=I.base.there b o e hx
  exact there b o' (neC b o e hx) e1
 ·obtain ⟨m1,e1⟩:=I.base.tbls b ps e
  obtain ⟨m2,e2⟩:=tbls b _ e1
  exact ⟨m1++m2,by rw[e2,Array.append_assoc]⟩
 ·obtain ⟨m,hn,hl⟩:=I.loc
  refine ⟨m,ns m hn,fun i x v e1 e2 e3=>?_⟩
  obtain ⟨u,r,l⟩:=hl i x v e1 e2 e3
  refine ⟨u,r,?_⟩
  rcases l with l | ⟨k,c,e,z⟩
  ·exact .inl l
  ·exact .inr ⟨k,c,e,cellK x c e _ z⟩
 ·obtain ⟨v,z⟩:=I.cell x c e
  exact ⟨v,cellK x c e v z⟩
 ·obtain ⟨m,⟨o,_,_,ho,_⟩,_⟩:=I.loc
  exact free _ o (fun z=>(hch _ z).2.1 rfl) ho I.free
 ·obtain ⟨v,o,ho,hd⟩:=I.cell x c e
  exact free c o (fun z=>(hch c z).2.2.1 x c e rfl) ho (I.freeC x c e)
 ·obtain ⟨e,n,ne,nf,d⟩:=I.pin p hp
  have nch:p.1∉ch:=fun z=>(hch p.1 z).2.2.2 p hp rfl
  exact ⟨keep p.1 p.2 ne nf nch e n,free p.1 p.2 nch e n,ne,nf,d⟩
theorem Inv.un {t':Nat} (I:Inv X pins σ H s) (u:Un X.fs [] H H' s.heap h') (hok:HOk X.prog X.w H' h'):Inv X pins σ H' { s with heap:=h',toks:=t' }:=by
 obtain ⟨m,⟨o,es,ep,ho,r⟩,_⟩:=id I.loc
 obtain ⟨sl,hL⟩:=u.any ho I.free (by simp)
 exact I.step (g':=s.gens) (d':=s.drawn) (ch:=[]) (fun _ z=>nomatch z) (fun b o _ hb _ e n=>u.keep b o e n hb (by simp)) (fun b o _ hb _ e n=>u.slot b o e n hb (by simp)) (fun b o _ e n=>u.free b o e n (by simp)) (fun b o _ e=>u.there b o e (by simp)) u.tups u.frzs u.tbls (fun m' hm=>by
  obtain ⟨o',es',ep',ho',r'⟩:=hm
  rw[ho] at ho';cases ho'
  exact ⟨_,es',ep',hL,r'⟩) hok I.bare
theorem Inv.call {g':Array GenState}{t':Nat}{d':Drawn}{ch:List Addr} (I:Inv X pins σ H s) (u:Un (frs X.stack) ch H H' s.heap h') (hok:HOk X.prog X.w H' h') (hg:Sj g')
 (hch:∀ b∈ch,(b∈X.ex\/X.s₀.heap.objs.size<=b)/\b≠X.env.locals/\(∀ x c,X.env.cells.lookup x=some c->c≠b)/\∀ p∈X.pn++pins,p.1≠b) :
 Inv X pins σ H' { s with heap:=h',gens:=g',drawn:=d',toks:=t' }:=by
 obtain ⟨m,⟨o,es,ep,ho,r⟩,_⟩:=id I.loc
 obtain ⟨sl,hL⟩:=u.any ho I.free fun z=>(hch _ z).2.1 rfl
 exact I.step (ch:=ch) hch (fun b o hL hb hc e n=>u.keep b o e n (fun z=>(List.mem_cons.mp (I.ko b z)).elim hL hb) hc) (fun b o _ _ hc e n=>u.any e n hc) (fun b o hc e n=>u.free b o e n hc) (fun b o hc e=>u.there b o e hc) u.tups u.frzs u.tbls (fun m' hm=>by
  obtain ⟨o',es',ep',ho',r'⟩:=hm
  rw[ho] at ho';cases ho'
  exact ⟨_,es',ep',hL,r'⟩) hok hg
theorem Inv.turned {t':Nat}{it:Addr} (I:Inv X pins σ H s) (k:∀ b o,b≠it->s.heap.get? b=some o->h'.get? b=some o) (hn:H it=none) (hL:it≠X.env.locals)
 (h1:it∈X.ex\/X.s₀.heap.objs.size<=it) (h2:∀ x c,X.env.cells.lookup x=some c->c≠it) (h3:∀ p∈X.pn++pins,p.1≠it):Inv X pins σ H { s with heap:=h',toks:=t' }:=by
 have nit:∀ b u,H b=some u->b≠it:=fun b u e z=>by rw[z,hn] at e;cases e
 refine I.step (g':=s.gens) (d':=s.drawn) (ch:=[it]) (fun b hb=>?_) (fun b o _ _ hc e _=>k b o (fun z=>hc (by simp[z])) e) (fun b o _ _ hc e _=>⟨o.slots,k b o (fun z=>hc (by simp[z])) e⟩) (fun _ _ _ _ n=>n)
  (fun b o hc e=>⟨o,k b o (fun z=>hc (by simp[z])) e⟩) (fun _ _ e=>e) (fun _ _ _ e=>e) (fun b ps e=>⟨#[],by rw[e];simp⟩) (fun m hm=>?_) (fun b u e=>?_) I.bare
 ·have e:b=it:=by simpa using hb
  subst e
  exact ⟨h1,hL,h2,h3⟩
 ·obtain ⟨o,es,ep,ho,r⟩:=hm
  exact ⟨o,es,ep,k _ o (Os hL) ho,r⟩
 ·refine (I.hok b u e).stay (fun c v hc q=>k c v ?_ q) (fun _ q=>q) fun _ _ q=>q
  rcases hc with z | z
  ·rw[z];exact nit b u e
  ·exact nit c _ z
theorem Inv.tok (I:Inv X pins σ H s) (t:Nat):Inv X pins σ H { s with toks:=t }:=I.un (h':=s.heap) (t':=t) Un.refl I.hok
theorem Inv.kept {t':Nat} (I:Inv X pins σ H s) (k:∀ b u,s.heap.get? b=some u->h'.get? b=some u):Inv X pins σ H { s with heap:=h',toks:=t' }:=I.un (Un.kept k) (I.hok.kept k)
theorem Inv.laid {a:Addr}{o:HO}{t':Nat} (I:Inv X pins σ H s) (k:∀ b u,s.heap.get? b=some u->h'.get? b=some u) (hp:s.heap.objs.size<=a) (new:dW X.prog X.w (upd H a o) h' a o) :
 Inv X pins σ (upd H a o) { s with heap:=h',toks:=t' }:=I.un (Un.laid k hp (I.hok.fresh hp)) (I.hok.laid k hp new)
theorem Inv.write {x e:Addr}{o:HO}{t':Nat} (I:Inv X pins σ H s) (mu:Mut (H x)) (he:e=x\/H e=some (.own x)) (k:∀ b u,b≠e->s.heap.get? b=some u->h'.get? b=some u) (heo:∃ u,h'.get? e=some u)
 (new:dW X.prog X.w (upd H x o) h' x o):Inv X pins σ (upd H x o) { s with heap:=h',toks:=t' }:=I.un (Un.write mu he k heo) (I.hok.write mu he k heo new)
theorem Inv.jV {pins':List (Addr×Obj)} (I:Inv X pins σ H s) (h:∀ p∈pins',s.heap.get? p.1=some p.2/\H p.1=none/\p.1≠X.env.locals/\p.1∉X.fs/\∀ v,p.2.data≠.cell v):Inv X pins' σ H s :=
 ⟨I.ok,I.os,I.bare,I.base,I.loc,I.cell,I.free,I.freeC,fun p hp=>(List.mem_append.mp hp).elim (fun z=>I.pin p (P6 _ z)) (h p),I.hok,I.len⟩
theorem oO {N:List Str} (hN:N.Nodup) {i j:Nat}{x:Str} (a:N[i]?=some x) (b:N[j]?=some x):i=j:=by
 obtain ⟨h1,e1⟩:=List.getElem?_eq_some_iff.mp a
 obtain ⟨h2,e2⟩:=List.getElem?_eq_some_iff.mp b
 exact (List.getElem_inj hN).mp (e1.trans e2.symm)
theorem mD {M:Model}{A:Oz}{E:Np->Nr->Prop}{i:Nat}{x:Str}{v:V}{u:Np}{Q:Unit->Nr->Prop} (I:Inv X pins σ H s) (hN:X.N.Nodup) (hi:X.N[i]?=some x) (hx:Loc X.env.scope x) (r:RelV v u)
 (h:∀ s',Inv X pins (σ.set i (some v)) H s'->(∃ a,Ou a s.heap s'.heap/\(a=X.env.locals\/X.env.cells.lookup x=some a))->Q () s') (hf:X.fn x=true\/X.env.scope.names.lookup x=some .local:=by first | exact .inl rfl | exact .inr rfl | assumption):wpAny M A (storeName X.env x u) Q E s:=by
 obtain ⟨m,hn,hl⟩:=id I.loc
 have hcls:(X.env.scope.kind==.class||(X.env.scope.kind==.module&&X.env.locals != X.env.globals))=false:=by rw[I.ok.kind];rfl
 have hiσ:i < σ.length:=by rw[I.len];exact (List.getElem?_eq_some_iff.mp hi).1
 have cne:=I.cne
 have tracked:∀ {a:Addr}{h':Heap},(∃ o,s.heap.get? a=some o/\H a=none)->Ou a s.heap h'->HOk X.prog X.w H h':=fun {a h'} ha hs b ob e=>by
  obtain ⟨_,_,hfree⟩:=ha
  refine (I.hok b ob e).stay (fun c w' hc q=>(hs.2 c ?_).trans q) (fun _ q=>q) fun _ _ q=>q
  rintro rfl
  rcases hc with rfl | hc
  ·rw[hfree] at e;cases e
  ·rw[hfree] at hc;cases hc
 rcases hx with hk | hk
 ·refine wpAny_storeName_local hk hn (fun h' hn' hs=>?_) hcls
  obtain ⟨oL,_,_,hoL,_⟩:=id hn
  refine h _ ⟨I.ok,I.os,I.bare,⟨fun b o e n hb hx=>?_,fun b o e n hb hx=>?_,I.base.free,fun b o e hx=>?_,I.base.tups,I.base.frzs,I.base.tbls⟩,⟨_,hn',fun j y v' e1 e2 e3=>?_⟩,fun y c e=>?_,I.free,I.freeC,fun p hp=>?_,tracked ⟨oL,hoL,I.free⟩ hs,by simpa using I.len⟩ ⟨_,hs,.inl rfl⟩
  ·exact (hs.2 b (NV (NU (Nx e) I.ok.above))).trans (I.base.keep b o e n hb hx)
  ·obtain ⟨sl,e1⟩:=I.base.slot b o e n hb hx
   exact ⟨sl,(hs.2 b (NV (NU (Nx e) I.ok.above))).trans e1⟩
  ·obtain ⟨o',e1⟩:=I.base.there b o e hx
   exact ⟨o',(hs.2 b (NV (NU (Nx e) I.ok.above))).trans e1⟩
  ·by_cases hj:j=i
   ·subst hj
    rw[hi] at e1;cases e1
    rw[OC hiσ] at e2
    cases e2
    exact ⟨u,r,.inl ⟨hk,by simp⟩⟩
   ·rw[N9 (Os hj)] at e2
    obtain ⟨u',r',q⟩:=hl j y v' e1 e2 e3
    refine ⟨u',r',?_⟩
    rcases q with ⟨k,e⟩ | ⟨k,c,e,z⟩
    ·refine .inl ⟨k,?_⟩
     have:y≠x:=fun e=>hj (oO hN e1 (e ▸ hi))
     simp[this,e]
    ·exact .inr ⟨k,c,e,z.sameBut hs (cne y c e)⟩
  ·obtain ⟨w',z⟩:=I.cell y c e
   exact ⟨w',z.sameBut hs (cne y c e)⟩
  ·obtain ⟨e,n,ne,nf,d⟩:=I.pin p hp
   exact ⟨(hs.2 p.1 ne).trans e,n,ne,nf,d⟩
 ·have hfn:X.fn x=true:=by
   rcases hf with z | z
   ·exact z
   ·rw[z] at hk;cases hk
  obtain ⟨c,hc⟩:=I.ok.has x (.inl hk)
  obtain ⟨w',z⟩:=I.cell x c hc
  refine wpAny_storeName_cell I.ok.kind hk hc z (fun h' hc' hs=>?_)
  obtain ⟨oc,hoc,hocd⟩:=id z
  refine h { s with heap:=h' } ⟨I.ok,I.os,I.bare,⟨fun b o e n hb hx=>?_,fun b o e n hb hx=>?_,I.base.free,fun b o e hx=>?_,I.base.tups,I.base.frzs,I.base.tbls⟩,⟨m,hn.sameBut hs (Os (cne x c hc)),fun j y v' e1 e2 e3=>?_⟩,fun y c' e=>?_,I.free,I.freeC,fun p hp=>?_,tracked ⟨oc,hoc,I.freeC x c hc⟩ hs,by simpa using I.len⟩ ⟨c,hs,.inr hc⟩
  ·exact (hs.2 b (NV (NU (Nx e) (I.ok.cab x c hfn hc)))).trans (I.base.keep b o e n hb hx)
  ·obtain ⟨sl,e1⟩:=I.base.slot b o e n hb hx
   exact ⟨sl,(hs.2 b (NV (NU (Nx e) (I.ok.cab x c hfn hc)))).trans e1⟩
  ·obtain ⟨o',e1⟩:=I.base.there b o e hx
   exact ⟨o',(hs.2 b (NV (NU (Nx e) (I.ok.cab x c hfn hc)))).trans e1⟩
  ·by_cases hj:j=i
   ·subst hj
    rw[hi] at e1;cases e1
    rw[OC hiσ] at e2
    cases e2
    exact ⟨u,r,.inr ⟨.inl hk,c,hc,hc'⟩⟩
   ·rw[N9 (Os hj)] at e2
    obtain ⟨u',r',q⟩:=hl j y v' e1 e2 e3
    refine ⟨u',r',?_⟩
    rcases q with q | ⟨k,c',e,z'⟩
    ·exact .inl q
    ·refine .inr ⟨k,c',e,z'.sameBut hs ?_⟩
     rintro rfl
     exact hj (oO hN e1 (I.ok.inj _ _ _ e hc ▸ hi))
  ·by_cases hcc:c'=c
   ·subst hcc;exact ⟨_,hc'⟩
   ·obtain ⟨w2,z2⟩:=I.cell y c' e
    exact ⟨w2,z2.sameBut hs hcc⟩
  ·obtain ⟨e,n,ne,nf,d⟩:=I.pin p hp
   refine ⟨(hs.2 p.1 ?_).trans e,n,ne,nf,d⟩
   intro q
   rw[q,hoc] at e
   have q':oc=p.2:=NH e
   exact d w' (by rw[← q'];exact hocd)
theorem kq {M:Model}{A:Oz}{E:Np->Nr->Prop}{i:Nat}{x:Str}{v:V}{u:Np}{Q:Unit->Nr->Prop} (I:Inv X pins σ H s) (hN:X.N.Nodup) (hi:X.N[i]?=some x) (hx:Loc X.env.scope x) (r:RelV v u)
 (h:∀ s',Inv X pins (σ.set i (some v)) H s'->Q () s') (hf:X.fn x=true\/X.env.scope.names.lookup x=some .local:=by first | exact .inl rfl | exact .inr rfl | assumption):wpAny M A (storeName X.env x u) Q E s :=
 mD I hN hi hx r (fun s' I' _=>h s' I') hf
theorem Inv.GE {s':Nr}{ch:List Addr} (I:Inv X pins σ H s) (ho:s'.os=s.os) (u:Un (frs X.stack) ch H H' s.heap s'.heap) (hok:HOk X.prog X.w H' s'.heap) (hg:Sj s'.gens)
 (hch:∀ b∈ch,(b∈X.ex\/X.s₀.heap.objs.size<=b)/\b≠X.env.locals/\(∀ x c,X.env.cells.lookup x=some c->c≠b)/\∀ p∈X.pn++pins,p.1≠b):Inv X pins σ H' s':=by
 obtain ⟨h',g',d',t',o'⟩:=s'
 have e:o'=s.os:=ho
 subst e
 exact I.call (g':=g') (t':=t') (d':=d') u hok hg hch
end
noncomputable abbrev XK:=Np->Option Addr->Hp->Prop
noncomputable abbrev St:=List (Option V)
noncomputable abbrev VK:=V->Hp->Prop
noncomputable abbrev TE:=St->Hp->VK->Prop
noncomputable abbrev TT:=St->Hp->(Bool->Hp->Prop)->Prop
noncomputable abbrev TA:=St->Hp->(List V->Hp->Prop)->Prop
structure Ends where
 nx:St->Hp->Prop
 rt:VK
 bk:St->Hp->Prop:=fun _ _=>False
 ct:St->Hp->Prop:=fun _ _=>False
noncomputable abbrev TS:=Ends->St->Hp->Prop
noncomputable def EP (X:Cx) (pins:List (Addr×Obj)) (σ:St) (Q:VK) (u:Np) (s':Nr):Prop:=∃ v H',Inv X pins σ H' s'/\RelV v u/\Q v H'
noncomputable def TP (X:Cx) (pins:List (Addr×Obj)) (σ:St) (Q:Bool->Hp->Prop) (b:Bool) (s':Nr):Prop:=∃ H',Inv X pins σ H' s'/\Q b H'
noncomputable def AP (X:Cx) (pins:List (Addr×Obj)) (σ:St) (Q:List V->Hp->Prop) (us:List Np) (s':Nr):Prop:=∃ vs H',Inv X pins σ H' s'/\au vs us/\Q vs H'
noncomputable def SP (X:Cx) (pins:List (Addr×Obj)) (D:Ends) (f:Flow) (s':Nr):Prop :=
 match f with
 | .next=>∃ σ' H',Inv X pins σ' H' s'/\D.nx σ' H'
 | .brk=>∃ σ' H',Inv X pins σ' H' s'/\D.bk σ' H'
 | .cont=>∃ σ' H',Inv X pins σ' H' s'/\D.ct σ' H'
 | .ret u=>∃ v σ' H',Inv X pins σ' H' s'/\RelV v u/\D.rt v H'
noncomputable def PE (X:Cx) (e:P7) (t:TE):Prop :=
 ∀ (pins:List (Addr×Obj)) (s:Nr) (σ:St) (H:Hp) (Q:VK),Inv X pins σ H s->t σ H Q->wpAny (NR X.prog X.w) X.A (eval e X.env) (EP X pins σ Q) X.xe s
noncomputable def PT (X:Cx) (e:P7) (t:TT):Prop :=
 ∀ (pins:List (Addr×Obj)) (s:Nr) (σ:St) (H:Hp) (Q:Bool->Hp->Prop),Inv X pins σ H s->t σ H Q->wpAny (NR X.prog X.w) X.A (isTrue e X.env (eval e X.env)) (TP X pins σ Q) X.xe s
noncomputable def PW (X:Cx) (e:P7) (t:TT):Prop :=
 ∀ (whole:Sem Np) (pins:List (Addr×Obj)) (s:Nr) (σ:St) (H:Hp) (Q:Bool->Hp->Prop),Inv X pins σ H s->t σ H Q->wpAny (NR X.prog X.w) X.A (isTrue e X.env whole) (TP X pins σ Q) X.xe s
theorem PW.pt {X:Cx}{e:P7}{t:TT} (h:PW X e t):PT X e t:=h _
noncomputable def PA (X:Cx) (es:List P7) (t:TA):Prop :=
 ∀ (pos:Pos) (pins:List (Addr×Obj)) (s:Nr) (σ:St) (H:Hp) (Q:List V->Hp->Prop),Inv X pins σ H s->t σ H Q->wpAny (NR X.prog X.w) X.A (R6 (Po pos (NZ es X.env))) (AP X pins σ Q) X.xe s
noncomputable def PS (X:Cx) (st:Sk) (t:TS):Prop :=
 ∀ (pins:List (Addr×Obj)) (s:Nr) (σ:St) (H:Hp) (D:Ends),Inv X pins σ H s->t D σ H->wpAny (NR X.prog X.w) X.A (exec st X.env) (SP X pins D) X.xe s
noncomputable def PSs (X:Cx) (st:List Sk) (t:TS):Prop :=
 ∀ (pins:List (Addr×Obj)) (s:Nr) (σ:St) (H:Hp) (D:Ends),Inv X pins σ H s->t D σ H->wpAny (NR X.prog X.w) X.A (execs st X.env) (SP X pins D) X.xe s
theorem thn {α:Type}{t:Sem α}{Q Q':α->Nr->Prop}{M:Model}{A:Oz}{E:Np->Nr->Prop}{s:Nr} (h:wpAny M A t Q E s) (hQ:∀ a s,Q a s->Q' a s):wpAny M A t Q' E s:=wpAny_mono h hQ fun _ _ x=>x
end L2
namespace L2
open PySem PySem.Spec PyProof.Rows
section
variable {X:Cx}
theorem bin {a b:P7}{ta tb:TE} (ha:PE X a ta) (hb:PE X b tb) {pins:List (Addr×Obj)}{s:Nr}{σ:St}{H:Hp}{R:V->V->Hp->Prop} (I:Inv X pins σ H s) (h:ta σ H fun x H1=>tb σ H1 fun y H2=>R x y H2)
 {α:Type}{Q:α->Nr->Prop}{f:Np->Np->Sem α}
 (hf:∀ v u s2 x y H2,Inv X pins σ H2 s2->RelV x v->RelV y u->R x y H2->wpAny (NR X.prog X.w) X.A (f v u) Q X.xe s2) :
 wpAny (NR X.prog X.w) X.A (eval a X.env) (fun v s₁=>wpAny (NR X.prog X.w) X.A (eval b X.env) (fun u s₂=>wpAny (NR X.prog X.w) X.A (f v u) Q X.xe s₂) X.xe s₁) X.xe s:=by
 refine thn (ha pins s σ H _ I h) fun v s1 zq=>?_
 obtain ⟨x,H1,I1,r1,q1⟩:=zq
 refine thn (hb pins s1 σ H1 _ I1 q1) fun u s2 zq=>?_
 obtain ⟨y,H2,I2,r2,q2⟩:=zq
 exact hf v u s2 x y H2 I2 r1 r2 q2
noncomputable def KQ (i:Nat):TE:=fun σ H Q=>∃ v,σ[i]?=some (some v)/\Q v H
noncomputable def tC (v:V):TE:=fun _ H Q=>Q v H
theorem vM {i:Nat}{x:Str}{pos:Pos} (hN:X.N[i]?=some x) (hv:Vis X.env.scope x) (hd:(x==("__debug__":Str))=false:=by decide) (hcd:(x==("__classdict__":Str))=false:=by decide):PE X (.Name x pos) (KQ i):=by
 intro pins s σ H Q I h
 obtain ⟨v,e,h⟩:=h
 obtain ⟨m,hn,hl⟩:=I.loc
 obtain ⟨u,r,l⟩:=hl i x v hN e hv
 have fin:EP X pins σ Q u s:=⟨v,H,I,r,h⟩
 rcases l with ⟨hk,hm⟩ | ⟨hk,c,hc,hcell⟩
 ·exact wpAny_Name (wpAny_loadName_local I.ok.kind hk hn hm fin) hd
 ·rcases hk with hk | hk
  ·exact wpAny_Name (wpAny_loadName_cell I.ok.kind hk hc hcell fin) hd
  ·exact wpAny_Name (wpAny_loadName_free I.ok.kind hk hc hcell fin hcd) hd
theorem qu {i j pos}:PE X (.Constant (.int i) j pos) (tC (.int i)):=fun _ _ _ H _ I h=>wpAny_Constant_int ⟨.int i,H,I.tok _,⟨_,rfl⟩,h⟩
theorem GF {b j pos}:PE X (.Constant (.bool b) j pos) (tC (.bl b)):=fun _ _ _ H _ I h=>Constant_bool ⟨.bl b,H,I,rfl,h⟩
theorem Dn {j pos}:PE X (.Constant .none j pos) (tC .non):=fun _ _ _ H _ I h=>Constant_none ⟨.non,H,I,rfl,h⟩
theorem Do {x j pos}:PE X (.Constant (.str x) j pos) (tC (.str x)):=fun _ _ _ H _ I h=>Calls.Constant_str ⟨.str x,H,I.tok _,⟨_,rfl⟩,h⟩
noncomputable def Gl (X:Cx) (x:Str):Prop:=X.env.kindOf x=some .globalImplicit
theorem iQ {E:Np->Nr->Prop}{pins:List (Addr×Obj)}{s:Nr}{σ:St}{H:Hp}{x:Str}{u:Np}{pos:Pos}{Q:Np->Nr->Prop} (I:Inv X pins σ H s) (hg:Gl X x) (hm:X.mg x=some u) (h:Q u s)
 (hd:(x==("__debug__":Str))=false:=by decide):wpAny (NR X.prog X.w) X.A (eval (.Name x pos) X.env) Q E s :=
 RX I.ok.kind hg (Calls.loadGlobal_global (by rw[I.ok.glob];exact I.mod.glob.keeps I.bk) hm h) hd
theorem dX {E:Np->Nr->Prop}{pins:List (Addr×Obj)}{s:Nr}{σ:St}{H:Hp}{x:Str}{u:Np}{pos:Pos}{Q:Np->Nr->Prop} (I:Inv X pins σ H s) (hg:Gl X x) (hm:X.mg x=none) (hv:QB x=some u) (h:Q u s)
 (hn:x≠"__name__":=by decide) (hd:(x==("__debug__":Str))=false:=by decide):wpAny (NR X.prog X.w) X.A (eval (.Name x pos) X.env) Q E s:=by
 obtain ⟨mb,h1,h2⟩:=I.mod.blt
 exact RX I.ok.kind hg (Calls.loadGlobal_builtin (by rw[I.ok.glob];exact I.mod.glob.keeps I.bk) hm (by rw[I.ok.blt];exact h1.keeps I.bk) ((h2 x hn).trans hv) h) hd
theorem rR {x:Str}{v:V}{u:Np}{pos:Pos} (hg:Gl X x) (hm:X.mg x=some u) (r:RelV v u) (hd:(x==("__debug__":Str))=false:=by decide):PE X (.Name x pos) (tC v) :=
 fun _ _ _ H _ I h=>iQ I hg hm ⟨v,H,I,r,h⟩ hd
theorem iR {x:Str}{v:V}{u:Np}{pos:Pos} (hg:Gl X x) (hm:X.mg x=none) (hv:QB x=some u) (r:RelV v u) (hn:x≠"__name__":=by decide) (hd:(x==("__debug__":Str))=false:=by decide):PE X (.Name x pos) (tC v) :=
 fun _ _ _ H _ I h=>dX I hg hm hv ⟨v,H,I,r,h⟩ hn hd
variable {a b:P7}{ta tb:TE}{pos:Pos}
noncomputable def PC (X:Cx) (op:CmpOp) (a b:P7) (t:TE):Prop :=
 ∀ (pins:List (Addr×Obj)) (s:Nr) (σ:St) (H:Hp) (Q:VK),Inv X pins σ H s->t σ H Q →
  wpAny (NR X.prog X.w) X.A (eval a X.env) (fun v s₁=>wpAny (NR X.prog X.w) X.A (eval b X.env) (fun u s₂=>wpAny (NR X.prog X.w) X.A (Oh op v u) (EP X pins σ Q) X.xe s₂) X.xe s₁) X.xe s
noncomputable def tB (t:TE):TT:=fun σ H Q=>t σ H fun x H1=>∃ c,x=.bl c/\Q c H1
theorem KR {op:CmpOp}{t:TE} (h:PC X op a b t) (h1:RN op b=false:=by first | exact nobehind _ (by decide) (by decide) | rfl):PT X (.Compare a [op] [b] pos) (tB t):=by
 intro pins s σ H Q I hw
 refine wpAny_isTrue_Compare1 (thn (h pins s σ H _ I hw) fun v s1 h1=>thn h1 fun u s2 h2=>thn h2 fun c s3 ⟨x,H1,I1,r1,q1⟩=>?_) h1
 obtain ⟨d,rfl,q⟩:=q1
 cases r1
 exact OH ⟨H1,I1,q⟩
theorem Dp {e:P7}{t:TE} (h:PE X e t) (he:∀ whole,isTrue e X.env whole=(do let v ← whole;standAt e.pos;holding [v] (truthy v)):=by intro _;rfl):PT X e (tB t):=by
 intro pins s σ H Q I hw
 refine isTrue_plain (thn (h pins s σ H _ I hw) fun v s1 ⟨x,H1,I1,r1,q1⟩=>?_) (he _)
 obtain ⟨d,rfl,q⟩:=q1
 cases r1
 exact OH ⟨H1,I1,q⟩
variable {tA tB':TT}{rest:List P7}
noncomputable def GG (t u:TT):TT:=fun σ H Q=>t σ H fun c H1=>if c=true then u σ H1 Q else Q false H1
noncomputable def tOr (t u:TT):TT:=fun σ H Q=>t σ H fun c H1=>if c=true then Q true H1 else u σ H1 Q
noncomputable def GH (t:TT):TT:=fun σ H Q=>t σ H fun c H1=>Q (!c) H1
theorem zY (ha:PT X a tA):PW X (.BoolOp .And [a] pos) tA:=by
 intro wh pins s σ H Q I h
 refine isTrue_and (thn (ha pins s σ H Q I h) fun c s1 e=>?_)
 cases c with
 | true=>exact isTrue_and_nil e
 | false=>exact e
theorem Dq (ha:PT X a tA):PW X (.BoolOp .Or [a] pos) tA:=by
 intro wh pins s σ H Q I h
 refine isTrue_or (thn (ha pins s σ H Q I h) fun c s1 e=>?_)
 cases c with
 | false=>exact isTrue_or_nil e
 | true=>exact e
theorem vN (ha:PT X a tA) (hb:PW X (.BoolOp .And (b :: rest) pos) tB'):PW X (.BoolOp .And (a :: b :: rest) pos) (GG tA tB'):=by
 intro wh pins s σ H Q I h
 refine isTrue_and (thn (ha pins s σ H _ I h) fun c s1 zq=>?_)
 obtain ⟨H1,I1,q1⟩:=zq
 cases c with
 | true=>exact hb wh pins s1 σ H1 Q I1 q1
 | false=>exact ⟨H1,I1,q1⟩
theorem CH (ha:PT X a tA) (hb:PW X (.BoolOp .Or (b :: rest) pos) tB'):PW X (.BoolOp .Or (a :: b :: rest) pos) (tOr tA tB'):=by
 intro wh pins s σ H Q I h
 refine isTrue_or (thn (ha pins s σ H _ I h) fun c s1 zq=>?_)
 obtain ⟨H1,I1,q1⟩:=zq
 cases c with
 | true=>exact ⟨H1,I1,q1⟩
 | false=>exact hb wh pins s1 σ H1 Q I1 q1
theorem Dr (ha:PT X a tA):PT X (.UnaryOp .Not a pos) (GH tA):=by
 intro pins s σ H Q I h
 exact isTrue_not (ha pins s σ H (fun c H1=>Q (!c) H1) I h)
noncomputable def CJ (ta tb:TE):TE:=fun σ H Q=>ta σ H fun x H1=>∃ c,x=.bl c/\if c=true then tb σ H1 Q else Q (.bl false) H1
noncomputable def GI (ta tb:TE):TE:=fun σ H Q=>ta σ H fun x H1=>∃ c,x=.bl c/\if c=true then Q (.bl true) H1 else tb σ H1 Q
noncomputable def CK (ta:TE):TE:=fun σ H Q=>ta σ H fun x H1=>∃ c,x=.bl c/\Q (.bl (!c)) H1
theorem vO {op}{t:TE} (h:PE X a t):PE X (.BoolOp op [a] pos) t:=fun pins s σ H Q I hw=>BoolOp_one (h pins s σ H Q I hw)
theorem vP (ha:PE X a ta) (hb:PE X (.BoolOp .And (b :: rest) pos) tb):PE X (.BoolOp .And (a :: b :: rest) pos) (CJ ta tb):=by
 intro pins s σ H Q I h
 refine BoolOp_and (thn (ha pins s σ H _ I h) fun v s1 zq=>?_)
 obtain ⟨x,H1,I1,r1,q1⟩:=zq
 obtain ⟨c,rfl,q1⟩:=q1
 cases r1
 refine OH ?_
 cases c with
 | true=>exact hb pins s1 σ H1 Q I1 q1
 | false=>exact ⟨.bl false,H1,I1,rfl,q1⟩
theorem CM (ha:PE X a ta) (hb:PE X (.BoolOp .Or (b :: rest) pos) tb):PE X (.BoolOp .Or (a :: b :: rest) pos) (GI ta tb):=by
 intro pins s σ H Q I h
 refine BoolOp_or (thn (ha pins s σ H _ I h) fun v s1 zq=>?_)
 obtain ⟨x,H1,I1,r1,q1⟩:=zq
 obtain ⟨c,rfl,q1⟩:=q1
 cases r1
 refine OH ?_
 cases c with
 | false=>exact hb pins s1 σ H1 Q I1 q1
 | true=>exact ⟨.bl true,H1,I1,rfl,q1⟩
theorem Ds (ha:PE X a ta):PE X (.UnaryOp .Not a pos) (CK ta):=by
 intro pins s σ H Q I h
 refine UnaryOp_ (thn (ha pins s σ H _ I h) fun v s1 zq=>?_)
 obtain ⟨x,H1,I1,r1,q1⟩:=zq
 obtain ⟨c,rfl,q1⟩:=q1
 cases r1
 exact not_of (OH ⟨.bl (!c),H1,I1,rfl,q1⟩)
noncomputable def tIf (t:TT) (ta tb:TE):TE:=fun σ H Q=>t σ H fun c H1=>if c=true then ta σ H1 Q else tb σ H1 Q
theorem vQ {c:P7} (hc:PT X c tA) (ha:PE X a ta) (hb:PE X b tb):PE X (.IfExp c a b pos) (tIf tA ta tb):=by
 intro pins s σ H Q I h
 refine wpAny_IfExp (thn (hc pins s σ H _ I h) fun d s1 zq=>?_)
 obtain ⟨H1,I1,q1⟩:=zq
 cases d with
 | true=>exact ha pins s1 σ H1 Q I1 q1
 | false=>exact hb pins s1 σ H1 Q I1 q1
end
end L2
namespace L2
open PySem PySem.Spec PyProof.Rows
noncomputable def SqL (K:Nl) (H:Hp) (a:Addr) (xs:List V):Prop :=
 Rd H a (.lst xs) ∨
  ∃ (o:Obj) (its:Array Np) (n:Nat),K.lookup a=some o/\o.cls=.type "list"/\o.dict=none/\o.data=.seq its n/\its.size<=sizeLine/\au xs its.toList
noncomputable def SqT (K:Nl) (H:Hp) (a:Addr) (xs:List V):Prop :=
 Rd H a (.tup xs) ∨
  ∃ (o:Obj) (its:Array Np) (n:Nat),K.lookup a=some o/\o.cls=.type "tuple"/\o.data=.seq its n/\its.size<=sizeLine/\au xs its.toList
noncomputable def KS:Np->Option V
 | .none=>some .non
 | .bool b=>some (.bl b)
 | .int i _=>some (.int i)
 | .str x _=>some (.str x)
 | .bytes b _=>some (.byt b)
 | .float b _=>some (.flt b)
 | .ref a=>some (.ref a)
 | .type n=>some (.ty n)
 | _=>none
theorem RelV.abs {x:V}{u:Np} (r:RelV x u):KS u=some x:=by
 cases x with
 | non=>cases r;rfl
 | bl _=>cases r;rfl
 | int _=>obtain ⟨t,rfl⟩:=r;rfl
 | str _=>obtain ⟨t,rfl⟩:=r;rfl
 | byt _=>obtain ⟨t,rfl⟩:=r;rfl
 | flt _=>obtain ⟨t,rfl⟩:=r;rfl
 | ref _=>cases r;rfl
 | ty _=>cases r;rfl
theorem RelV.inj {x y:V}{u:Np} (r:RelV x u) (q:RelV y u):x=y:=NH (r.abs.symm.trans q.abs)
theorem au.inj:∀ {xs ys:List V}{us:List Np},au xs us->au ys us->xs=ys
 | _,_,_,.nil,.nil=>rfl
 | _,_,_,.cons r t,.cons r' t'=>by rw[r.inj r',au.inj t t']
section
variable {X:Cx}{pins:List (Addr×Obj)}{σ:St}{H:Hp}{s:Nr}{a:Addr}{xs ys:List V}
theorem Inv.list (I:Inv X pins σ H s) (h:SqL X.K H a xs):∃ its:List Np,au xs its/\PlainL s.heap a its.toArray/\xs.length<=sizeLine:=by
 rcases h with h | ⟨o,its,n,hk,hc,hd,hs,hz,r⟩
 ·obtain ⟨z,its,n,r,e⟩:=h.ok I.hok
  exact ⟨its,r,⟨_,n,e,rfl,rfl,rfl⟩,z⟩
 ·refine ⟨its.toList,r,⟨o,n,I.kIn a o hk,hc,hd,by simpa using hs⟩,?_⟩
  have e:=r.length
  simp only[OF] at e
  omega
theorem Inv.tuple (I:Inv X pins σ H s) (h:SqT X.K H a xs):∃ its:List Np,au xs its/\IsTup s.heap a its.toArray/\xs.length<=sizeLine:=by
 rcases h with h | ⟨o,its,n,hk,hc,hs,hz,r⟩
 ·obtain ⟨z,its,r,p⟩:=h.ok I.hok
  exact ⟨its,r,p,z⟩
 ·refine ⟨its.toList,r,⟨o,I.kIn a o hk,hc,n,by simpa using hs⟩,?_⟩
  have e:=r.length
  simp only[OF] at e
  omega
theorem Inv.kr (I:Inv X pins σ H s) (h:SqL X.K H a xs) (h':SqL X.K H a ys):xs=ys:=by
 obtain ⟨its,r,⟨o,n,e,_,_,d⟩,_⟩:=I.list h
 obtain ⟨its',r',⟨o',n',e',_,_,d'⟩,_⟩:=I.list h'
 rw[e] at e';cases e'
 rw[d] at d'
 injection d' with d1 _
 have:its=its':=by simpa using congrArg SQ d1
 subst this
 exact r.inj r'
theorem Inv.uz (I:Inv X pins σ H s) (h:SqT X.K H a xs) (h':SqT X.K H a ys):xs=ys:=by
 obtain ⟨its,r,⟨o,e,_,n,d⟩,_⟩:=I.tuple h
 obtain ⟨its',r',⟨o',e',_,n',d'⟩,_⟩:=I.tuple h'
 rw[e] at e';cases e'
 rw[d] at d'
 injection d' with d1 _
 have:its=its':=by simpa using congrArg SQ d1
 subst this
 exact r.inj r'
end
noncomputable abbrev Cx.lK (X:Cx) (E:Np->Nr->Prop):Cx:={ X with xe:=E }
noncomputable abbrev Cx.nox (X:Cx):Cx:=X.lK fun _ _=>False
theorem Cx.Ok.lK {X:Cx} (ok:X.Ok) (E:Np->Nr->Prop):(X.lK E).Ok :=
 ⟨ok.mod,ok.kind,ok.glob,ok.blt,ok.above,ok.inj,ok.has,ok.cab,ok.hd,ok.frames,ok.stk,ok.exf,ok.bs,ok.bsz,ok.noex,ok.exfs,ok.iw,ok.frf⟩
theorem Cx.Ok.gc {X:Cx}{E:Np->Nr->Prop} (ok:(X.lK E).Ok):X.Ok :=
 ⟨ok.mod,ok.kind,ok.glob,ok.blt,ok.above,ok.inj,ok.has,ok.cab,ok.hd,ok.frames,ok.stk,ok.exf,ok.bs,ok.bsz,ok.noex,ok.exfs,ok.iw,ok.frf⟩
section
variable {X:Cx}{pins:List (Addr×Obj)}{σ:St}{H:Hp}{s:Nr}{E:Np->Nr->Prop}
theorem Inv.lK (I:Inv X pins σ H s) (E:Np->Nr->Prop):Inv (X.lK E) pins σ H s:=⟨I.ok.lK E,I.os,I.bare,I.base,I.loc,I.cell,I.free,I.freeC,I.pin,I.hok,I.len⟩
theorem Inv.gc (I:Inv (X.lK E) pins σ H s):Inv X pins σ H s:=⟨I.ok.gc,I.os,I.bare,I.base,I.loc,I.cell,I.free,I.freeC,I.pin,I.hok,I.len⟩
theorem SP.gc {D:Ends}{f:Flow}{s':Nr} (h:SP (X.lK E) pins D f s'):SP X pins D f s':=by
 cases f with
 | next=>obtain ⟨σ',H',I,q⟩:=h;exact ⟨σ',H',I.gc,q⟩
 | brk=>obtain ⟨σ',H',I,q⟩:=h;exact ⟨σ',H',I.gc,q⟩
 | cont=>obtain ⟨σ',H',I,q⟩:=h;exact ⟨σ',H',I.gc,q⟩
 | ret u=>obtain ⟨v,σ',H',I,r,q⟩:=h;exact ⟨v,σ',H',I.gc,r,q⟩
theorem PSs.nox {st:List Sk}{t:TS} (h:PSs X.nox st t):PSs X st t:=fun pins s σ H D I hw =>
 wpAny_mono (h pins s σ H D (I.lK _) hw) (fun _ _ q=>q.gc) fun _ _ z=>Of z
end
section
variable {X:Cx}{st:Sk}{rest:List Sk}{t u:TS}{e:P7}{te:TE}{pos:Pos}
noncomputable def GJ:TS:=fun D σ H=>D.nx σ H
noncomputable def GK (t u:TS):TS:=fun D σ H=>t { D with nx:=u D } σ H
theorem zZ:PSs X [] GJ:=fun _ _ σ H _ I h=>Q9 ⟨σ,H,I,h⟩
theorem vR (h1:PS X st t) (h2:PSs X rest u):PSs X (st :: rest) (GK t u):=by
 intro pins s σ H D I h
 refine wpAny_execs_cons (thn (h1 pins s σ H { D with nx:=u D } I h) fun f s1 q=>?_)
 cases f with
 | next =>
  obtain ⟨σ',H',I',q⟩:=q
  exact h2 pins s1 σ' H' D I' q
 | ret v=>exact q
 | brk=>exact q
 | cont=>exact q
theorem z4 (h1:PS X st t):PSs X [st] t:=by
 intro pins s σ H D I h
 refine wpAny_execs_cons (thn (h1 pins s σ H D I h) fun f s1 q=>?_)
 cases f with
 | next=>exact Q9 q
 | ret v=>exact q
 | brk=>exact q
 | cont=>exact q
noncomputable def Dt:TS:=fun D σ H=>D.bk σ H
noncomputable def GL:TS:=fun D σ H=>D.ct σ H
theorem vS:PS X (.Break pos) Dt:=fun _ _ σ H _ I h=>wpAny_Break ⟨σ,H,I,h⟩
theorem oQ:PS X (.Continue pos) GL:=fun _ _ σ H _ I h=>wpAny_Continue ⟨σ,H,I,h⟩
theorem Inv.quiet {pins:List (Addr×Obj)}{σ:St}{H:Hp}{s:Nr} (I:Inv X pins σ H s):interactive X.env=false:=by simp[interactive,I.ok.kind]
noncomputable def GM (te:TE):TS:=fun D σ H=>te σ H fun _ H1=>D.nx σ H1
theorem z5 (he:PE X e te) (hs:Qo e none pos.line X.env=pure false:=by rfl):PS X (.Expr e pos) (GM te):=by
 intro pins s σ H D I h
 exact wpAny_Expr_any (thn (he pins s σ H _ I h) fun v s1 ⟨x,H1,I1,r1,q1⟩=>⟨σ,H1,I1,q1⟩) I.quiet hs
noncomputable def KU (te:TE):TS:=fun D σ H=>te σ H D.rt
theorem vU (he:PE X e te):PS X (.Return (some e) pos) (KU te):=by
 intro pins s σ H D I h
 exact wpAny_Return_some (thn (he pins s σ H _ I h) fun v s1 ⟨x,H1,I1,r1,q1⟩=>⟨x,σ,H1,I1,r1,q1⟩)
noncomputable def KW (c:TT) (t u:TS):TS:=fun D σ H=>c σ H fun b H1=>if b=true then t D σ H1 else u D σ H1
theorem GN {c:P7}{a b:List Sk}{tc:TT} (hc:PT X c tc) (ha:PSs X a t) (hb:PSs X b u):PS X (.If c a b pos) (KW tc t u):=by
 intro pins s σ H D I h
 refine wpAny_If (thn (hc pins s σ H _ I h) fun d s1 zq=>?_)
 obtain ⟨H1,I1,q1⟩:=zq
 cases d with
 | true=>exact ha pins s1 σ H1 D I1 q1
 | false=>exact hb pins s1 σ H1 D I1 q1
end
noncomputable abbrev TG:=V->St->Hp->(St->Hp->Prop)->Prop
noncomputable abbrev TGs:=List V->St->Hp->(St->Hp->Prop)->Prop
noncomputable def PG (X:Cx) (target:P7) (t:TG):Prop :=
 ∀ (pins:List (Addr×Obj)) (s:Nr) (σ:St) (H:Hp) (v:V) (u:Np) (Q:St->Hp->Prop),Inv X pins σ H s->RelV v u->t v σ H Q →
  wpAny (NR X.prog X.w) X.A (SJ target X.env u) (fun _ s'=>∃ σ' H',Inv X pins σ' H' s'/\Q σ' H') X.xe s
noncomputable def PGs (X:Cx) (ts:List P7) (t:TGs):Prop :=
 ∀ (pins:List (Addr×Obj)) (s:Nr) (σ:St) (H:Hp) (vs:List V) (us:List Np) (Q:St->Hp->Prop),Inv X pins σ H s->au vs us->t vs σ H Q →
  wpAny (NR X.prog X.w) X.A (assignInOrder ((Rl ts X.env).map (·.2)) us) (fun _ s'=>∃ σ' H',Inv X pins σ' H' s'/\Q σ' H') X.xe s
noncomputable abbrev Du:=V->V->V->Hp->(Hp->Prop)->Prop
noncomputable def GO (X:Cx) (t:Du):Prop :=
 ∀ (pins:List (Addr×Obj)) (s:Nr) (σ:St) (H:Hp) (o i v:V) (ov iv u:Np) (Q:Hp->Prop),Inv X pins σ H s->RelV o ov->RelV i iv->RelV v u->t o i v H Q →
  wpAny (NR X.prog X.w) X.A (setItem ov iv u) (fun _ s'=>∃ H',Inv X pins σ H' s'/\Q H') X.xe s
noncomputable abbrev TIp:=V->V->Hp->VK->Prop
noncomputable def PIp (X:Cx) (op:Qa) (t:TIp):Prop :=
 ∀ (pins:List (Addr×Obj)) (s:Nr) (σ:St) (H:Hp) (x y:V) (v u:Np) (Q:VK),Inv X pins σ H s->RelV x v->RelV y u->t x y H Q →
  wpAny (NR X.prog X.w) X.A (inplaceOp op v u) (EP X pins σ Q) X.xe s
section
variable {X:Cx}{pos:Pos}
noncomputable def oR (i:Nat):TG:=fun v σ H Q=>Q (σ.set i (some v)) H
theorem nj {i:Nat}{x:Str} (hN:X.N.Nodup) (hi:X.N[i]?=some x) (hx:Loc X.env.scope x) (hf:X.fn x=true\/X.env.scope.names.lookup x=some .local:=by first | exact .inl rfl | exact .inr rfl | assumption):PG X (.Name x pos) (oR i):=by
 intro pins s σ H v u Q I r h
 exact wpAny_assign_Name (kq I hN hi hx r (fun s' I'=>⟨_,H,I',h⟩) hf)
noncomputable def Dv:TGs:=fun vs σ H Q=>vs=[]/\Q σ H
noncomputable def CP (t:TG) (u:TGs):TGs:=fun vs σ H Q=>∃ v r,vs=v :: r/\t v σ H fun σ' H'=>u r σ' H' Q
theorem z6:PGs X [] Dv:=by
 intro pins s σ H vs us Q I r h
 obtain ⟨e,h⟩:=h
 subst e
 cases r
 exact assignInOrder_nil ⟨σ,H,I,h⟩
theorem oU {e:P7}{es:List P7}{t:TG}{u:TGs} (h1:PG X e t) (h2:PGs X es u)
 (hs:(Rl (e :: es) X.env).map (·.2)=SJ e X.env :: (Rl es X.env).map (·.2):=by rfl):PGs X (e :: es) (CP t u):=by
 intro pins s σ H vs us Q I r h
 obtain ⟨v,vr,e1,h⟩:=h
 subst e1
 cases r with
 | cons r rr =>
  rw[hs]
  refine assignInOrder_cons (thn (h1 pins s σ H _ _ _ I r h) fun _ s1 zq=>?_)
  obtain ⟨σ1,H1,I1,q1⟩:=zq
  exact h2 pins s1 σ1 H1 _ _ Q I1 rr q1
noncomputable def KY (K:Nl) (n:Nat) (t:TGs):TG:=fun v σ H Q=>∃ a xs,v=.ref a/\SqT K H a xs/\xs.length=n/\t xs σ H Q
theorem Dw {es:List P7}{k:Nat}{t:TGs}{n:Nat} (hc:X.calm=true) (h:PGs X es t)
 (hn:(Rl es X.env).length=n:=by rfl) (hst:(Rl es X.env).findIdx? (·.1)=none:=by rfl):PG X (.Tuple es k pos) (KY X.K n t):=by
 intro pins s σ H v u Q I r hw
 obtain ⟨a,xs,e1,hq,hl,hw⟩:=hw
 subst e1
 cases r
 obtain ⟨its,rv,ht,hz⟩:=I.tuple hq
 refine assign_Tuple_tuple (I.ok.hd hc) ht (by simp[hn,← hl,rv.length]) hst fun h' hx=>?_
 have I1:Inv X pins σ H { s with heap:=h' }:=I.kept (t':=s.toks) fun b o e=>hx b o (NV (Nx e)) e
 exact h pins _ σ H xs _ Q I1 (by simpa using rv) hw
noncomputable def Dy (to ti:TE) (t:Du):TG:=fun v σ H Q=>to σ H fun o H1=>ti σ H1 fun i H2=>t o i v H2 fun H3=>Q σ H3
theorem Dz {o i:P7}{to ti:TE}{t:Du} (ho:PE X o to) (hi:PE X i ti) (hs:GO X t)
 (ha:∀ v,SJ (.Subscript o i pos) X.env v=(do
  let ov ← holding [v] (eval o X.env)
  let iv ← holding [v,ov] (eval i X.env)
  standAt pos
  holding [v,ov,iv] (setItem ov iv v)
  release [v,ov,iv] []):=by intro _;rfl):PG X (.Subscript o i pos) (Dy to ti t):=by
 intro pins s σ H v u Q I r h
 rw[ha]
 refine wpAny_bind (OL (thn (ho pins s σ H _ I h) fun ov s1 zq=>?_))
 obtain ⟨x,H1,I1,r1,q1⟩:=zq
 refine wpAny_bind (OL (thn (hi pins s1 σ H1 _ I1 q1) fun iv s2 zq=>?_))
 obtain ⟨y,H2,I2,r2,q2⟩:=zq
 refine wpAny_bind (Tu (wpAny_bind (OL (thn (hs pins s2 σ H2 x y v ov iv u _ I2 r1 r2 r q2) fun _ s3 zq=>?_))))
 obtain ⟨H3,I3,q3⟩:=zq
 exact wpAny_release ⟨σ,H3,I3,q3⟩
noncomputable def uA (te:TE) (g:TG):TS:=fun D σ H=>te σ H fun x H1=>g x σ H1 D.nx
theorem DA {tg e:P7}{te:TE}{g:TG} (he:PE X e te) (hg:PG X tg g) (hs:swapsWithSole [tg] e pos.line X.env=pure false:=by rfl) (hw:swappedStores [tg] e X.env=pure none:=by rfl)
 (h1:(Rl [tg] X.env).map (·.2)=[SJ tg X.env]:=by rfl):PS X (.Assign [tg] e pos) (uA te g):=by
 intro pins s σ H D I h
 refine wpAny_Assign_stores (thn (he pins s σ H _ I h) fun v s1 ⟨x,H1,I1,r1,q1⟩=>?_) hs hw
 rw[h1]
 exact thn (hg pins s1 σ H1 x v _ I1 r1 q1) fun _ s2 q=>q
theorem qv {i:Nat}{x:Str}{e:P7}{te:TE}{pos':Pos} (hN:X.N.Nodup) (hi:X.N[i]?=some x) (hx:Loc X.env.scope x) (he:PE X e te) (hs:Qo e (some (.Name x pos')) pos.line X.env=pure false:=by rfl) (hf:X.fn x=true\/X.env.scope.names.lookup x=some .local:=by first | exact .inl rfl | exact .inr rfl | assumption) :
 PS X (.Assign [.Name x pos'] e pos) (uA te (oR i)):=by
 intro pins s σ H D I h
 refine wpAny_Assign_Name (thn (he pins s σ H _ I h) fun v s1 ⟨y,H1,I1,r1,q1⟩=>?_) hs
 exact kq I1 hN hi hx r1 (fun s2 I2=>⟨_,H1,I2,q1⟩) hf
noncomputable def GP (i:Nat) (te:TE) (ti:TIp):TS:=fun D σ H=>∃ x,σ[i]?=some (some x)/\te σ H fun y H1=>ti x y H1 fun z H2=>D.nx (σ.set i (some z)) H2
theorem DB {i:Nat}{x:Str}{e:P7}{te:TE}{op:Qa}{ti:TIp}{pos':Pos} (hN:X.N.Nodup) (hi:X.N[i]?=some x) (hx:Loc X.env.scope x) (he:PE X e te) (ho:PIp X op ti) (hf:X.fn x=true\/X.env.scope.names.lookup x=some .local:=by first | exact .inl rfl | exact .inr rfl | assumption) :
 PS X (.AugAssign (.Name x pos') op e pos) (GP i te ti):=by
 intro pins s σ H D I h
 obtain ⟨v,e1,h⟩:=h
 obtain ⟨m,hn,hl⟩:=I.loc
 have vis:Vis X.env.scope x:=by rcases hx with k | k;exact .inl k;exact .inr (.inl k)
 obtain ⟨u,r,l⟩:=hl i x v hi e1 vis
 refine wpAny_AugAssign_Name ?_
 have go:wpAny (NR X.prog X.w) X.A (eval e X.env) (fun w s₂=>wpAny (NR X.prog X.w) X.A (inplaceOp op u w) (fun r s₃=>wpAny (NR X.prog X.w) X.A (storeName X.env x r) (fun _=>SP X pins D .next) X.xe s₃) X.xe s₂) X.xe s:=by
  refine thn (he pins s σ H _ I h) fun w s1 zq=>?_
  obtain ⟨y,H1,I1,r1,q1⟩:=zq
  refine thn (ho pins s1 σ H1 v y u w _ I1 r r1 q1) fun z s2 zq=>?_
  obtain ⟨zv,H2,I2,r2,q2⟩:=zq
  exact kq I2 hN hi hx r2 (fun s3 I3=>⟨_,H2,I3,q2⟩) hf
 rcases l with ⟨hk,hm⟩ | ⟨hk,c,hc,hcell⟩
 ·exact wpAny_loadName_local I.ok.kind hk hn hm go
 ·rcases hk with hk | hk
  ·exact wpAny_loadName_cell I.ok.kind hk hc hcell go
  ·rcases hx with k | k
   ·have:X.env.scope.names.lookup x=some .free:=hk
    rw[k] at this;cases this
   ·have:X.env.scope.names.lookup x=some .free:=hk
    rw[k] at this;cases this
end
section
variable {X:Cx}{pos:Pos}
noncomputable def vV (c:TT) (tb:TS):TS:=fun D σ H=>∃ W:Nat->St->Hp->Prop,(∃ m,W m σ H)/\∀ m σ H,W m σ H →
 c σ H fun b H1=>if b=true then ∃ N:St->Hp->Prop,(∀ σ' H',N σ' H'->∃ m',m' < m/\W m' σ' H')/\tb { D with nx:=N,ct:=N,bk:=D.nx } σ H1 else D.nx σ H1
theorem vW {c:P7}{body:List Sk}{tc:TT}{tb:TS} (hp:PassesOwn (NR X.prog X.w) X.A X.env X.xe) (hc:PT X c tc) (hb:PSs X body tb):PS X (.While c body [] pos) (vV tc tb):=by
 intro pins s σ H D I h
 obtain ⟨W,⟨m0,w0⟩,turn⟩:=h
 refine wpAny_While (codeAny_whileLoop (fun n s'=>∃ σ' H',Inv X pins σ' H' s'/\W n σ' H') ?_ m0 ⟨σ,H,I,w0⟩)
 rintro n s1 ⟨σ1,H1,I1,w1⟩
 refine Pv hp (thn (hc pins s1 σ1 H1 _ I1 (turn n σ1 H1 w1)) fun b s2 zq=>?_)
 obtain ⟨H2,I2,q2⟩:=zq
 cases b with
 | true =>
  obtain ⟨N,hN,q2⟩:=q2
  rw[if_pos rfl]
  refine Pv hp (thn (hb pins s2 σ1 H2 _ I2 q2) fun f s3 q3=>?_)
  cases f with
  | next =>
   obtain ⟨σ3,H3,I3,n3⟩:=q3
   obtain ⟨m',hm,w3⟩:=hN σ3 H3 n3
   exact ⟨m',hm,σ3,H3,I3,w3⟩
  | cont =>
   obtain ⟨σ3,H3,I3,n3⟩:=q3
   obtain ⟨m',hm,w3⟩:=hN σ3 H3 n3
   exact ⟨m',hm,σ3,H3,I3,w3⟩
  | brk=>exact q3
  | ret v=>exact q3
 | false =>
  rw[if_neg Ob]
  exact Q9 ⟨σ1,H2,I2,q2⟩
end
structure It where
 go:Nat->Hp->Prop
 yld:Nat->Hp->V->Hp->Prop
 stop:Nat->Hp->Prop
noncomputable def lM (X:Cx) (pins:List (Addr×Obj)) (H:Hp) (b:Addr):Prop :=
 H b=none/\b≠X.env.locals/\b∉X.fs/\(b∈X.ex\/X.s₀.heap.objs.size<=b)/\(∀ x c,X.env.cells.lookup x=some c->c≠b)/\∀ p∈X.pn++pins,p.1≠b
theorem Inv.vX {X:Cx}{pins:List (Addr×Obj)}{σ:St}{H H':Hp}{s:Nr}{b:Addr} (I:Inv X pins σ H s) (hb:s.heap.objs.size<=b) (hn:H' b=none):lM X pins H' b:=by
 refine ⟨hn,O6 (NU I.lt hb),I.KP hb,.inr (Oj I.sz hb),fun x c e z=>?_,fun p hp z=>?_⟩
 ·obtain ⟨v,q⟩:=I.cell x c e
  exact absurd (NU q.lt (by rw[z];exact hb)) (OZ _)
 ·exact absurd (NU (Nx (I.pin p hp).1) (by rw[z];exact hb)) (OZ _)
structure Turn (P:NG) (w:N2) (K:Nl) (tg:P7) (J:It) (fp:List Addr) (it:Addr) (tn:Nat->Heap->Prop):Prop where
 mem:it∈fp
 obj:∀ i h,tn i h->∀ b∈fp,∃ o,h.get? b=some o/\∀ v,o.data≠.cell v
 keep:∀ i h h',tn i h->(∀ b∈fp,∀ o,h.get? b=some o->h'.get? b=some o)->tn i h'
 item:∀ (X:Cx),X.prog=P->X.w=w->X.K=K->X.calm=true->∀ (i:Nat) (pins:List (Addr×Obj)) (s:Nr) (σ:St) (H:Hp) (E:Np->Nr->Prop),Inv X pins σ H s->(∀ b∈fp,lM X pins H b)->tn i s.heap->J.go i H →
  wpAny (NR P w) X.A (RL (.ref it)) (fun r s1=>∃ u,r=some u ∧
   wpAny (NR P w) X.A (Rc tg (.ref it) u) (fun _ s2=>∃ x H',Inv X pins σ H' s2/\RelV x u/\J.yld i H x H'/\tn (i+1) s2.heap/\∀ b∈fp,H' b=none) E s1) E s
 done:∀ (X:Cx),X.prog=P->X.w=w->X.K=K->X.calm=true->∀ (i:Nat) (pins:List (Addr×Obj)) (s:Nr) (σ:St) (H:Hp) (E:Np->Nr->Prop),Inv X pins σ H s->(∀ b∈fp,lM X pins H b)->tn i s.heap->J.stop i H →
  wpAny (NR P w) X.A (RL (.ref it)) (fun r s1=>r=none/\Inv X pins σ H s1) E s
 self:∀ (A:Oz) (i:Nat) (s:Nr) (Q:Np->Nr->Prop) (E:Np->Nr->Prop),tn i s.heap->Q (.ref it) s->wpAny (NR P w) A (pyIter (.ref it)) Q E s
noncomputable abbrev TI:=St->Hp->(It->Hp->Prop)->Prop
noncomputable def PIE (X:Cx) (pins:List (Addr×Obj)) (σ:St) (tg:P7) (R:It->Hp->Prop) (itv:Np) (s2:Nr):Prop :=
 ∃ (it:Addr) (fp:List Addr) (tn:Nat->Heap->Prop) (J:It) (H':Hp),itv=.ref it/\Inv X pins σ H' s2/\Turn X.prog X.w X.K tg J fp it tn/\tn 0 s2.heap/\(∀ b∈fp,lM X pins H' b)/\R J H'
noncomputable def PI (X:Cx) (tg iter:P7) (wi:TI):Prop :=
 ∀ (pins:List (Addr×Obj)) (s:Nr) (σ:St) (H:Hp) (R:It->Hp->Prop),Inv X pins σ H s->wi σ H R →
  wpAny (NR X.prog X.w) X.A (eval iter X.env) (fun v s1=>wpAny (NR X.prog X.w) X.A (pyIter v) (PIE X pins σ tg R) X.xe s1) X.xe s
theorem rS {M:Model}{A:Oz}{E:Np->Nr->Prop}{s:Nr}{tg:P7}{it:Addr}{u:Np}{o:Obj}{n:String}{vs:Array Np}{Q:Unit->Nr->Prop} (ho:s.heap.get? it=some o) (hc:o.cls=.type n) (hd:o.data=.fields vs)
 (hn:["enumerate","zip","dict_itemiterator","dict_reverseitemiterator","odict_iterator","itertools.zip_longest","itertools.pairwise"].contains n=false) (hQ:Q () s):wpAny M A (Rc tg (.ref it) u) Q E s:=by
 unfold Rc
 cases tg<;>first
  | exact wpAny_pure hQ
  | (cases u<;>first
   | exact wpAny_pure hQ
   | (refine wpAny_bind (wpAny_load ho ?_)
      rw[hc,hd]
      show wpAny M A (if (["enumerate","zip","dict_itemiterator","dict_reverseitemiterator","odict_iterator","itertools.zip_longest","itertools.pairwise"].contains n&&vs[0]?==some (Pc _))=true then _ else _) Q E s
      rw[if_neg (by intro h;rw[hn,Bool.false_and] at h;cases h)]
      exact wpAny_pure hQ))
noncomputable def Itl (K:Nl) (a:Addr):It :=
 ⟨fun i H=>∃ xs x,SqL K H a xs/\xs[i]?=some x,fun i H x H'=>H'=H/\∀ xs,SqL K H a xs->xs[i]?=some x,fun i H=>∃ xs,SqL K H a xs/\xs.length<=i⟩
noncomputable def Itt (K:Nl) (a:Addr):It :=
 ⟨fun i H=>∃ xs x,SqT K H a xs/\xs[i]?=some x,fun i H x H'=>H'=H/\∀ xs,SqT K H a xs->xs[i]?=some x,fun i H=>∃ xs,SqT K H a xs/\xs.length<=i⟩
noncomputable def Itr (lo:Int) (n:Nat):It:=⟨fun i _=>i < n,fun i H x H'=>H'=H/\x=.int (lo+i),fun i _=>n<=i⟩
theorem uB {P:NG}{w:N2}{K:Nl}{tg:P7} (a it:Addr):Turn P w K tg (Itl K a) [it] it (fun i h=>h.IsListIter it a i) where
 mem:=by simp
 obj:=fun i h st b hb=>by
  have e:b=it:=by simpa using hb
  subst e
  obtain ⟨o,e,c,d⟩:=st
  exact ⟨o,e,fun v z=>by rw[d] at z;cases z⟩
 keep:=fun i h h' st k=>st.at fun o e=>k it (by simp) o e
 item:=by
  intro X hP hw hK hc i pins s σ H E I hf st hg
  subst hP hw hK
  obtain ⟨xs,x,hq,hx⟩:=hg
  obtain ⟨its,rv,p,hz⟩:=I.list hq
  obtain ⟨u,hu,ru⟩:=rv.get hx
  obtain ⟨f0,f1,f2,f3,f4,f5⟩:=hf it (by simp)
  refine wpAny_pyNext_list_item st p.isList (x:=u) (by simpa using hu) fun h' st' sb=>?_
  have I1:Inv X pins σ H { s with heap:=h' }:=I.turned (t':=s.toks) (fun b o hb e=>(sb.2 b hb).trans e) f0 f1 f3 f4 f5
  obtain ⟨o,e,c,d⟩:=id st'
  exact ⟨u,rfl,rS (s:={ s with heap:=h' }) e c d (by decide) ⟨x,H,I1,ru,⟨rfl,fun ys hy=>by rw[I.kr hy hq];exact hx⟩,st',fun b hb=>(hf b hb).1⟩⟩
 done:=by
  intro X hP hw hK hc i pins s σ H E I hf st hg
  subst hP hw hK
  obtain ⟨xs,hq,hx⟩:=hg
  obtain ⟨its,rv,p,hz⟩:=I.list hq
  obtain ⟨f0,f1,f2,f3,f4,f5⟩:=hf it (by simp)
  have hl:=rv.length
  exact wpAny_pyNext_list_end (I.ok.hd hc) st p.isList (by simp;omega) fun h' eb=>⟨rfl,I.turned (t':=s.toks) (fun b o hb e=>eb b o hb e) f0 f1 f3 f4 f5⟩
 self:=fun _ _ _ _ _ st h=>wpAny_pyIter_listiter st h
theorem qw {P:NG}{w:N2}{K:Nl}{tg:P7} (a it:Addr):Turn P w K tg (Itt K a) [it] it (fun i h=>h.IsTupleIter it a i) where
 mem:=by simp
 obj:=fun i h st b hb=>by
  have e:b=it:=by simpa using hb
  subst e
  obtain ⟨o,e,c,d⟩:=st
  exact ⟨o,e,fun v z=>by rw[d] at z;cases z⟩
 keep:=fun i h h' st k=>st.at fun o e=>k it (by simp) o e
 item:=by
  intro X hP hw hK hc i pins s σ H E I hf st hg
  subst hP hw hK
  obtain ⟨xs,x,hq,hx⟩:=hg
  obtain ⟨its,rv,p,hz⟩:=I.tuple hq
  obtain ⟨u,hu,ru⟩:=rv.get hx
  obtain ⟨f0,f1,f2,f3,f4,f5⟩:=hf it (by simp)
  refine wpAny_pyNext_tuple_item st (show s.heap.IsTuple a its.toArray from p) (x:=u) (by simpa using hu) fun h' st' sb=>?_
  have I1:Inv X pins σ H { s with heap:=h' }:=I.turned (t':=s.toks) (fun b o hb e=>(sb.2 b hb).trans e) f0 f1 f3 f4 f5
  obtain ⟨o,e,c,d⟩:=id st'
  exact ⟨u,rfl,rS (s:={ s with heap:=h' }) e c d (by decide) ⟨x,H,I1,ru,⟨rfl,fun ys hy=>by rw[I.uz hy hq];exact hx⟩,st',fun b hb=>(hf b hb).1⟩⟩
 done:=by
  intro X hP hw hK hc i pins s σ H E I hf st hg
  subst hP hw hK
  obtain ⟨xs,hq,hx⟩:=hg
  obtain ⟨its,rv,p,hz⟩:=I.tuple hq
  obtain ⟨f0,f1,f2,f3,f4,f5⟩:=hf it (by simp)
  have hl:=rv.length
  exact wpAny_pyNext_tuple_end (I.ok.hd hc) st (show s.heap.IsTuple a its.toArray from p) (by simp;omega) fun h' eb=>⟨rfl,I.turned (t':=s.toks) (fun b o hb e=>eb b o hb e) f0 f1 f3 f4 f5⟩
 self:=fun _ _ _ _ _ st h=>wpAny_pyIter_tupleiter st h
theorem qx {P:NG}{w:N2}{K:Nl}{tg:P7} (it:Addr) (lo:Int) (n:Nat):Turn P w K tg (Itr lo n) [it] it (fun i h=>IsRangeIter h it (lo+(i:Nat)*1) ((n:Int) - (i:Nat)) 1) where
 mem:=by simp
 obj:=fun i h st b hb=>by
  have e:b=it:=by simpa using hb
  subst e
  exact ⟨_,st,fun v z=>by
   have z':Data.fields _=Data.cell v:=z
   cases z'⟩
 keep:=fun i h h' st k=>k it (by simp) _ st
 item:=by
  intro X hP hw hK hc i pins s σ H E I hf st hg
  subst hP hw hK
  obtain ⟨f0,f1,f2,f3,f4,f5⟩:=hf it (by simp)
  have W:=Walks.range (prog:=X.prog) (w:=X.w) (I.ok.hd hc) it lo 1 n
  refine W.item i s _ _ hg st fun v h' tk hv st' kk=>?_
  obtain ⟨t,rfl⟩:=hv
  have I1:Inv X pins σ H { s with heap:=h',toks:=tk }:=I.turned (fun b o hb e=>kk b o (by simpa using hb) e) f0 f1 f3 f4 f5
  refine ⟨_,rfl,rS (s:={ s with heap:=h',toks:=tk }) (n:="range_iterator") st' rfl rfl (by decide) ⟨.int (lo+i),H,I1,⟨t,?_⟩,⟨rfl,rfl⟩,st',fun b hb=>(hf b hb).1⟩⟩
  rw[Int.mul_one]
 done:=by
  intro X hP hw hK hc i pins s σ H E I hf st hg
  subst hP hw hK
  obtain ⟨f0,f1,f2,f3,f4,f5⟩:=hf it (by simp)
  exact wpAny_pyNext_range_end (I.ok.hd hc) st (by have:n<=i:=hg;omega) fun h' eb=>⟨rfl,I.turned (t':=s.toks) (fun b o hb e=>eb b o hb e) f0 f1 f3 f4 f5⟩
 self:=fun _ _ _ _ _ st h=>wpAny_pyIter_rangeiter st h
end L2
namespace L2
open PySem PySem.Spec PyProof.Rows
section
variable {X:Cx}{tg:P7}
noncomputable def GQ (K:Nl) (tl:TE):TI:=fun σ H R=>tl σ H fun x H1=>∃ a,x=.ref a/\(∃ xs,SqL K H1 a xs)/\R (Itl K a) H1
noncomputable def KZ (K:Nl) (tl:TE):TI:=fun σ H R=>tl σ H fun x H1=>∃ a,x=.ref a/\(∃ xs,SqT K H1 a xs)/\R (Itt K a) H1
theorem z7 {l:P7}{tl:TE} (hl:PE X l tl):PI X tg l (GQ X.K tl):=by
 intro pins s σ H R I h
 refine thn (hl pins s σ H _ I h) fun v s1 zq=>?_
 obtain ⟨x,H1,I1,r1,q1⟩:=zq
 obtain ⟨a,e,⟨xs,hq⟩,q⟩:=q1
 subst e
 cases r1
 obtain ⟨its,rv,p,hz⟩:=I1.list hq
 refine wpAny_pyIter_list p.isList ?_
 refine ⟨s1.heap.objs.size,[s1.heap.objs.size],_,_,H1,rfl,I1.kept (t':=s1.toks) fun b o e=>Nq _ e,uB a _,⟨_,Nz _ rfl,rfl,rfl⟩,fun b hb=>?_,q⟩
 have e:b=s1.heap.objs.size:=by simpa using hb
 subst e
 exact I1.vX (Nu _) (I1.hok.fresh (Nu _))
theorem DC {l:P7}{tl:TE} (hl:PE X l tl):PI X tg l (KZ X.K tl):=by
 intro pins s σ H R I h
 refine thn (hl pins s σ H _ I h) fun v s1 zq=>?_
 obtain ⟨x,H1,I1,r1,q1⟩:=zq
 obtain ⟨a,e,⟨xs,hq⟩,q⟩:=q1
 subst e
 cases r1
 obtain ⟨its,rv,p,hz⟩:=I1.tuple hq
 refine wpAny_pyIter_tuple (show s1.heap.IsTuple a its.toArray from p) ?_
 refine ⟨s1.heap.objs.size,[s1.heap.objs.size],_,_,H1,rfl,I1.kept (t':=s1.toks) fun b o e=>Nq _ e,qw a _,⟨_,Nz _ rfl,rfl,rfl⟩,fun b hb=>?_,q⟩
 have e:b=s1.heap.objs.size:=by simpa using hb
 subst e
 exact I1.vX (Nu _) (I1.hok.fresh (Nu _))
theorem oV {pins:List (Addr×Obj)}{σ:St}{H:Hp}{s:Nr}{R:It->Hp->Prop}{E:Np->Nr->Prop}{lo hi:Int}{t u v:Tok}{tk:Nat} (I:Inv X pins σ H s) (h1:-(2 ^ 62)<=lo) (h2:lo < 2 ^ 62) (h3:-(2 ^ 62)<=hi) (h4:hi < 2 ^ 62)
 (q:R (Itr lo (hi - lo).toNat) H):wpAny (NR X.prog X.w) X.A (pyIter (.ref s.heap.objs.size)) (PIE X pins σ tg R) E { s with heap:=s.heap.push { cls:=.type "range",data:=.fields #[.int lo t,.int hi u,.int 1 v] },toks:=tk }:=by
 refine wpAny_pyIter_range (IsRange.new ..) (small_one h1 h2 h3 h4) ?_
 have I1:Inv X pins σ H { s with heap:=s.heap.push { cls:=.type "range",data:=.fields #[.int lo t,.int hi u,.int 1 v] },toks:=tk }:=I.kept fun b o e=>Nq _ e
 refine ⟨(s.heap.push { cls:=.type "range",data:=.fields #[.int lo t,.int hi u,.int 1 v] }).objs.size,[(s.heap.push { cls:=.type "range",data:=.fields #[.int lo t,.int hi u,.int 1 v] }).objs.size],_,_,H,rfl,
  I1.kept (t':=tk) fun b o e=>Nq _ e,qx _ lo (hi - lo).toNat,?_,fun b hb=>?_,q⟩
 ·have e1:lo+((0:Nat):Int)*1=lo:=by simp
  have e2:(((hi - lo).toNat:Nat):Int) - ((0:Nat):Int)=Builtin.Range.rangeSize lo hi 1:=by rw[rangeSize_one];split<;>omega
  show IsRangeIter _ _ (lo+((0:Nat):Int)*1) ((((hi - lo).toNat:Nat):Int) - ((0:Nat):Int)) 1
  rw[e1,e2]
  exact Nz _ rfl
 ·have e:b=(s.heap.push { cls:=.type "range",data:=.fields #[.int lo t,.int hi u,.int 1 v] }).objs.size:=by simpa using hb
  subst e
  exact I1.vX (Nu _) (I1.hok.fresh (Nu _))
noncomputable def GR (ta:TA):TI:=fun σ H R=>ta σ H fun vs H1=>∃ j:Int,vs=[.int j]/\-(2 ^ 62)<=j/\j < 2 ^ 62/\R (Itr 0 j.toNat) H1
noncomputable def GS (ta:TA):TI:=fun σ H R=>ta σ H fun vs H1=>∃ i j:Int,vs=[.int i,.int j]/\(-(2 ^ 62)<=i/\i < 2 ^ 62/\-(2 ^ 62)<=j/\j < 2 ^ 62)/\R (Itr i (j - i).toNat) H1
theorem uC {a:P7}{ta:TA}{p pos:Pos} (hg:Gl X "range") (hm:X.mg "range"=none) (ha:PA X [a] ta) (hs:NZ [a] X.env=[(false,eval a X.env)]:=by rfl):PI X tg (.Call (.Name "range" p) [a] [] pos) (GR ta):=by
 intro pins s σ H R I h
 refine Call_ (dX I hg hm boot_range (N8 (thn (ha pos pins s σ H _ I h) fun us s1 ⟨vs,H1,I1,r1,q1⟩=>?_) hs rfl))
 obtain ⟨j,e,q1,q2,q⟩:=q1
 subst e
 cases r1 with
 | cons r rr =>
  cases rr
  obtain ⟨t,rfl⟩:=r
  exact call_range_1 (oV I1 (by omega) (by omega) q1 q2 (by simpa using q))
theorem uD {a b:P7}{ta:TA}{p pos:Pos} (hg:Gl X "range") (hm:X.mg "range"=none) (ha:PA X [a,b] ta) (hs:NZ [a,b] X.env=[(false,eval a X.env),(false,eval b X.env)]:=by rfl) (hs2:NZ [b] X.env=[(false,eval b X.env)]:=by rfl) :
 PI X tg (.Call (.Name "range" p) [a,b] [] pos) (GS ta):=by
 intro pins s σ H R I h
 refine Call_ (dX I hg hm boot_range (N8 (thn (ha pos pins s σ H _ I h) fun us s1 ⟨vs,H1,I1,r1,q1⟩=>?_) (by rw[hs,hs2]) (by rw[hs2];rfl)))
 obtain ⟨i,j,e,⟨q1,q2,q3,q4⟩,q⟩:=q1
 subst e
 cases r1 with
 | cons r rr =>
  cases rr with
  | cons r' rr =>
   cases rr
   obtain ⟨t,rfl⟩:=r
   obtain ⟨t',rfl⟩:=r'
   exact call_range_2 (oV I1 q1 q2 q3 q4 q)
noncomputable def GT (wi:TI) (g:TG) (tb:TS):TS:=fun D σ H=>wi σ H fun J H1=>∃ W:Nat->Nat->St->Hp->Prop,(∃ m,W 0 m σ H1)/\∀ i m σ H,W i m σ H →
 (J.stop i H/\D.nx σ H)\/(J.go i H/\∃ N:St->Hp->Prop,(∀ σ' H',N σ' H'->∃ m',m' < m/\W (i+1) m' σ' H')/\∀ x H',J.yld i H x H'->g x σ H' fun σ2 H2=>tb { D with nx:=N,ct:=N,bk:=D.nx } σ2 H2)
noncomputable def jr (fp:List Addr) (h:Heap):List (Addr×Obj):=fp.filterMap fun b=>(h.get? b).map fun o=>(b,o)
theorem fR {fp:List Addr}{h:Heap}{b:Addr}{o:Obj} (hb:b∈fp) (e:h.get? b=some o):(b,o)∈jr fp h:=List.mem_filterMap.mpr ⟨b,hb,by rw[e];rfl⟩
theorem uE {fp:List Addr}{h:Heap}{p:Addr×Obj} (hp:p∈jr fp h):p.1∈fp/\h.get? p.1=some p.2:=by
 obtain ⟨b,hb,e⟩:=List.mem_filterMap.mp hp
 cases q:h.get? b with
 | none=>rw[q] at e;cases e
 | some o =>
  rw[q] at e
  have e':(b,o)=p:=NH e
  subst e'
  exact ⟨hb,q⟩
theorem Inv.pinned {pins:List (Addr×Obj)}{σ:St}{H:Hp}{s:Nr}{fp:List Addr} (I:Inv X pins σ H s) (hf:∀ b∈fp,lM X pins H b) (ho:∀ b∈fp,∃ o,s.heap.get? b=some o/\∀ v,o.data≠.cell v):Inv X (pins++jr fp s.heap) σ H s :=
 I.jV fun p hp=>(List.mem_append.mp hp).elim (fun z=>I.pin p (N6 _ z)) fun z=>by
  obtain ⟨hb,e⟩:=uE z
  obtain ⟨f0,f1,f2,_⟩:=hf p.1 hb
  obtain ⟨o,e',d⟩:=ho p.1 hb
  rw[e] at e';cases e'
  exact ⟨e,f0,f1,f2,d⟩
theorem Inv.iS {pins pl:List (Addr×Obj)}{σ:St}{H:Hp}{s:Nr} (I:Inv X (pins++pl) σ H s):Inv X pins σ H s:=I.jV fun p hp=>I.pin p (N6 _ (P6 _ hp))
theorem DE {iter:P7}{body:List Sk}{wi:TI}{g:TG}{tb:TS}{pos:Pos} (hp:PassesOwn (NR X.prog X.w) X.A X.env X.xe) (hc:X.calm=true) (hi:PI X tg iter wi) (hg:PG X tg g) (hb:PSs X body tb)
 (hs:∀ x,foldedSetIterable iter X.env x=pure x:=by intro _;rfl):PS X (.For tg iter body [] pos) (GT wi g tb):=by
 intro pins s σ H D I h
 refine wpAny_For (thn (hi pins s σ H _ I h) fun v s1 h1=>thn h1 fun itv s2 h2=>?_) hs
 obtain ⟨it,fp,tn,J,H2,e,I2,T,st2,f2,W,⟨m0,w0⟩,turn⟩:=h2
 subst e
 have stat:∀ {H':Hp},(∀ b∈fp,H' b=none)->∀ b∈fp,lM X pins H' b:=fun hn b hb=>⟨hn b hb,(f2 b hb).2⟩
 refine codeAny_forLoop_any (fun n s'=>∃ i σ' H',Inv X pins σ' H' s'/\tn i s'.heap/\(∀ b∈fp,H' b=none)/\W i n σ' H') ?_ m0 ⟨0,σ,H2,I2,st2,fun b hb=>(f2 b hb).1,w0⟩
 rintro n s3 ⟨i,σ3,H3,I3,st3,fr3,w3⟩
 rcases turn i n σ3 H3 w3 with ⟨stop,qn⟩ | ⟨go,N,hN,step⟩
 ·refine Pv hp (thn (T.done X rfl rfl rfl hc i pins s3 σ3 H3 X.xe I3 (stat fr3) st3 stop) fun r s4 zq=>?_)
  obtain ⟨hr,I4⟩:=zq
  subst hr
  exact Q9 ⟨σ3,H3,I4,qn⟩
 ·refine Pv hp (thn (T.item X rfl rfl rfl hc i pins s3 σ3 H3 X.xe I3 (stat fr3) st3 go) fun r s4 zq=>?_)
  obtain ⟨u,hr,h4⟩:=zq
  subst hr
  refine Pv hp (thn h4 fun _ s5 zq=>?_)
  obtain ⟨x,H5,I5,r5,y5,st5,fr5⟩:=zq
  have I5':=I5.pinned (stat fr5) (T.obj _ _ st5)
  refine Pv hp (thn (hg _ s5 σ3 H5 x u _ I5' r5 (step x H5 y5)) fun _ s6 zq=>?_)
  obtain ⟨σ6,H6,I6,q6⟩:=zq
  refine Pv hp (thn (hb _ s6 σ6 H6 _ I6 q6) fun f s7 q7=>?_)
  have again:∀ {σ7:St}{H7:Hp},Inv X (pins++jr fp s5.heap) σ7 H7 s7->N σ7 H7->∃ m,m < n/\∃ i σ' H',Inv X pins σ' H' s7/\tn i s7.heap/\(∀ b∈fp,H' b=none)/\W i m σ' H':=fun {σ7 H7} I7 n7=>by
   obtain ⟨m',hm,w7⟩:=hN σ7 H7 n7
   refine ⟨m',hm,i+1,σ7,H7,I7.iS,T.keep _ _ _ st5 fun b hb o e=>(I7.pin (b,o) (N6 _ (N6 _ (fR hb e)))).1,fun b hb=>?_,w7⟩
   obtain ⟨o,e,d⟩:=T.obj _ _ st5 b hb
   exact (I7.pin (b,o) (N6 _ (N6 _ (fR hb e)))).2.1
  cases f with
  | next=>obtain ⟨σ7,H7,I7,n7⟩:=q7;exact again I7 n7
  | cont=>obtain ⟨σ7,H7,I7,n7⟩:=q7;exact again I7 n7
  | brk=>obtain ⟨σ7,H7,I7,q7⟩:=q7;exact ⟨σ7,H7,I7.iS,q7⟩
  | ret v=>obtain ⟨x7,σ7,H7,I7,r7,q7⟩:=q7;exact ⟨x7,σ7,H7,I7.iS,r7,q7⟩
end
end L2
namespace L2
open PySem PySem.Spec PyProof.Rows
noncomputable abbrev R2:=V->V->Hp->VK->Prop
noncomputable def OpR (X:Cx) (f:Np->Np->Sem Np) (r:R2):Prop :=
 ∀ (pins:List (Addr×Obj)) (s:Nr) (σ:St) (H:Hp) (x y:V) (v u:Np) (Q:VK),Inv X pins σ H s->RelV x v->RelV y u->r x y H Q →
  wpAny (NR X.prog X.w) X.A (f v u) (EP X pins σ Q) X.xe s
noncomputable def UnR (X:Cx) (f:Np->Sem Np) (r:V->Hp->VK->Prop):Prop :=
 ∀ (pins:List (Addr×Obj)) (s:Nr) (σ:St) (H:Hp) (x:V) (v:Np) (Q:VK),Inv X pins σ H s->RelV x v->r x H Q →
  wpAny (NR X.prog X.w) X.A (f v) (EP X pins σ Q) X.xe s
noncomputable def cC (X:Cx) (f:Np) (r:List V->Hp->VK->Prop):Prop :=
 ∀ (pins:List (Addr×Obj)) (s:Nr) (σ:St) (H:Hp) (xs:List V) (us:List Np) (Q:VK),Inv X pins σ H s->au xs us->r xs H Q →
  wpAny (NR X.prog X.w) X.A (call f us) (EP X pins σ Q) X.xe s
noncomputable def tOp (r:R2) (ta tb:TE):TE:=fun σ H Q=>ta σ H fun x H1=>tb σ H1 fun y H2=>r x y H2 Q
noncomputable def tUn (r:V->Hp->VK->Prop) (ta:TE):TE:=fun σ H Q=>ta σ H fun x H1=>r x H1 Q
noncomputable def rI (C:Int->Int->Prop) (g:Int->Int->V):R2:=fun x y H Q=>∃ i j,x=.int i/\y=.int j/\C i j/\Q (g i j) H
noncomputable def rI0 (g:Int->Int->V):R2:=fun x y H Q=>∃ i j,x=.int i/\y=.int j/\Q (g i j) H
noncomputable def rU (g:Int->V):V->Hp->VK->Prop:=fun x H Q=>∃ i,x=.int i/\Q (g i) H
section
variable {X:Cx}{a b c:P7}{ta tb tc:TE}{pos:Pos}
theorem DF (ha:PE X a ta) (hb:PE X b tb) {pins:List (Addr×Obj)}{s:Nr}{σ:St}{H:Hp}{R:V->V->Hp->Prop} (I:Inv X pins σ H s)
 (h:ta σ H fun x H1=>tb σ H1 fun y H2=>R x y H2) {Q:Np->Nr->Prop}{f:Np->Np->Sem Np}
 (hf:∀ v u s2 x y H2,Inv X pins σ H2 s2->RelV x v->RelV y u->R x y H2->wpAny (NR X.prog X.w) X.A (f v u) Q X.xe s2) :
 wpAny (NR X.prog X.w) X.A (eval a X.env) (fun v s₁=>wpAny (NR X.prog X.w) X.A (eval b X.env) (fun u s₂=>wpAny (NR X.prog X.w) X.A (f v u) Q X.xe s₂) X.xe s₁) X.xe s:=by
 refine thn (ha pins s σ H _ I h) fun v s1 zq=>?_
 obtain ⟨x,H1,I1,r1,q1⟩:=zq
 refine thn (hb pins s1 σ H1 _ I1 q1) fun u s2 zq=>?_
 obtain ⟨y,H2,I2,r2,q2⟩:=zq
 exact hf v u s2 x y H2 I2 r1 r2 q2
theorem GU {op:Qa}{r:R2} (ho:OpR X (OR op) r) (ha:PE X a ta) (hb:PE X b tb):PE X (.BinOp a op b pos) (tOp r ta tb):=by
 intro pins s σ H Q I h
 exact wpAny_BinOp (DF ha hb I h fun v u s2 x y H2 I2 rx ry q=>ho pins s2 σ H2 x y v u Q I2 rx ry q)
theorem CQ {op:UnaryOp}{r:V->Hp->VK->Prop} (ho:UnR X (unaryOp op) r) (ha:PE X a ta):PE X (.UnaryOp op a pos) (tUn r ta):=by
 intro pins s σ H Q I h
 exact UnaryOp_ (thn (ha pins s σ H _ I h) fun v s1 ⟨x,H1,I1,r1,q1⟩=>ho pins s1 σ H1 x v Q I1 r1 q1)
theorem opI {f:Np->Np->Sem Np}{C:Int->Int->Prop}{g:Int->Int->Int}
 (rule:∀ (i j:Int) (t u:Tok) (s:Nr) (Q:Np->Nr->Prop) (E:Np->Nr->Prop),C i j->Q (.int (g i j) s.toks) { s with toks:=s.toks+1 }->wpAny (NR X.prog X.w) X.A (f (.int i t) (.int j u)) Q E s) :
 OpR X f (rI C fun i j=>.int (g i j)):=by
 intro pins s σ H x y v u Q I rx ry h
 obtain ⟨i,j,rfl,rfl,hc,q⟩:=h
 obtain ⟨t,rfl⟩:=rx
 obtain ⟨t',rfl⟩:=ry
 exact rule i j t t' s _ _ hc ⟨.int (g i j),H,I.tok _,⟨_,rfl⟩,q⟩
theorem GV {f:Np->Np->Sem Np}{g:Int->Int->Int}
 (rule:∀ (i j:Int) (t u:Tok) (s:Nr) (Q:Np->Nr->Prop) (E:Np->Nr->Prop),Q (.int (g i j) s.toks) { s with toks:=s.toks+1 }->wpAny (NR X.prog X.w) X.A (f (.int i t) (.int j u)) Q E s) :
 OpR X f (rI0 fun i j=>.int (g i j)):=by
 intro pins s σ H x y v u Q I rx ry h
 obtain ⟨i,j,rfl,rfl,q⟩:=h
 obtain ⟨t,rfl⟩:=rx
 obtain ⟨t',rfl⟩:=ry
 exact rule i j t t' s _ _ ⟨.int (g i j),H,I.tok _,⟨_,rfl⟩,q⟩
theorem z8 {f:Np->Np->Sem Np}{g:Int->Int->Bool}
 (rule:∀ (i j:Int) (t u:Tok) (s:Nr) (Q:Np->Nr->Prop) (E:Np->Nr->Prop),Q (.bool (g i j)) s->wpAny (NR X.prog X.w) X.A (f (.int i t) (.int j u)) Q E s) :
 OpR X f (rI0 fun i j=>.bl (g i j)):=by
 intro pins s σ H x y v u Q I rx ry h
 obtain ⟨i,j,rfl,rfl,q⟩:=h
 obtain ⟨t,rfl⟩:=rx
 obtain ⟨t',rfl⟩:=ry
 exact rule i j t t' s _ _ ⟨.bl (g i j),H,I,rfl,q⟩
noncomputable def K0 (i j:Int):Prop:=0 < j/\j < 1073741824
noncomputable def K1 (i j:Int):Prop:=0<=j/\j<=1000000/\i.natAbs < 2 ^ 64
noncomputable def z9 (i j:Int):Prop:=(-(2 ^ 64) < i/\i < 2 ^ 64)\/(-(2 ^ 64) < j/\j < 2 ^ 64)
theorem z9.ok {i j:Int} (h:z9 i j):IntMulOk i j:=by
 rcases h with ⟨h1,h2⟩ | ⟨h1,h2⟩
 ·exact .of_left (intBits_le_64 h1 h2)
 ·exact .of_right (intBits_le_64 h1 h2)
theorem DG:OpR X (OR .Add) (rI0 fun i j=>.int (i+j)):=GV fun _ _ _ _ _ _ _ q=>add_int q
theorem DH:OpR X (OR .Sub) (rI0 fun i j=>.int (i - j)):=GV fun _ _ _ _ _ _ _ q=>sub_int q
theorem DI:OpR X (OR .Mult) (rI z9 fun i j=>.int (i*j)):=opI fun _ _ _ _ _ _ _ hc q=>mul_int q hc.ok
theorem Aa:OpR X (OR .FloorDiv) (rI K0 fun i j=>.int (i / j)):=opI fun i j _ _ _ _ _ hc q=>by
 have h1:(0:Int) < j:=hc.1
 have h2:j < 1073741824:=hc.2
 exact floordiv_int (by omega) (by rw[Int.fdiv_eq_ediv_of_nonneg i (by omega)];exact q) (.inl (PyProof.noPylong_small (by omega)))
theorem DJ:OpR X (OR .Mod) (rI (fun _ j=>0 < j) fun i j=>.int (i % j)):=opI fun i j _ _ _ _ _ hc q=>by
 have h1:(0:Int) < j:=hc
 exact mod_int' (by omega) (by rw[Int.fmod_eq_emod_of_nonneg i (by omega)];exact q)
theorem DK:OpR X (OR .Pow) (rI K1 fun i j=>.int (i ^ j.toNat)):=opI fun _ _ _ _ _ _ _ hc q=>pow_int_small hc.1 hc.2.1 hc.2.2 q
theorem unI {f:Np->Sem Np}{g:Int->Int}
 (rule:∀ (i:Int) (t:Tok) (s:Nr) (Q:Np->Nr->Prop) (E:Np->Nr->Prop),Q (.int (g i) s.toks) { s with toks:=s.toks+1 }->wpAny (NR X.prog X.w) X.A (f (.int i t)) Q E s) :
 UnR X f (rU fun i=>.int (g i)):=by
 intro pins s σ H x v Q I rx h
 obtain ⟨i,rfl,q⟩:=h
 obtain ⟨t,rfl⟩:=rx
 exact rule i t s _ _ ⟨.int (g i),H,I.tok _,⟨_,rfl⟩,q⟩
theorem vY:UnR X (unaryOp .USub) (rU fun i=>.int (-i)):=unI fun _ _ _ _ _ q=>neg_int q
end
section
variable {X:Cx}{a b c:P7}{ta tb tc:TE}{pos:Pos}
theorem vZ {pins:List (Addr×Obj)}{σ:St}{H:Hp}{s:Nr}{Q:VK}{k k':Bool} (I:Inv X pins σ H s) (q:Q (.bl k) H) (e:k=k'):EP X pins σ Q (.bool k') s:=by
 subst e
 exact ⟨.bl k,H,I,rfl,q⟩
theorem GW:OpR X (Oh .Lt) (rI0 fun i j=>.bl (decide (i < j))):=z8 fun _ _ _ _ _ _ _ q=>lt_int q
theorem GX:OpR X (Oh .LtE) (rI0 fun i j=>.bl (decide (i<=j))):=z8 fun _ _ _ _ _ _ _ q=>le_int q
theorem GY:OpR X (Oh .Gt) (rI0 fun i j=>.bl (decide (j < i))):=z8 fun _ _ _ _ _ _ _ q=>gt_int q
theorem GZ:OpR X (Oh .GtE) (rI0 fun i j=>.bl (decide (j<=i))):=z8 fun _ _ _ _ _ _ _ q=>ge_int q
theorem DL:OpR X (Oh .Is) (fun x y H Q=>y=.non/\Q (.bl (decide (x=.non))) H):=by
 intro pins s σ H x y v u Q I rx ry h
 obtain ⟨rfl,q⟩:=h
 cases ry
 refine is_none_gen (vZ I q ?_)
 cases x<;>first
  | (cases rx;rfl)
  | (obtain ⟨t,rfl⟩:=rx;rfl)
theorem Ab:OpR X (Oh .IsNot) (fun x y H Q=>y=.non/\Q (.bl (!decide (x=.non))) H):=by
 intro pins s σ H x y v u Q I rx ry h
 obtain ⟨rfl,q⟩:=h
 cases ry
 refine isnot_none_gen (vZ I q ?_)
 cases x<;>first
  | (cases rx;rfl)
  | (obtain ⟨t,rfl⟩:=rx;rfl)
theorem Ac {op:CmpOp}{r:R2} (ho:OpR X (Oh op) r) (ha:PE X a ta) (hb:PE X b tb) (hm:RN op b=false):PE X (.Compare a [op] [b] pos) (tOp r ta tb):=by
 intro pins s σ H Q I h
 exact wpAny_Compare1 (DF ha hb I h fun v u s2 x y H2 I2 rx ry q=>ho pins s2 σ H2 x y v u Q I2 rx ry q) hm
noncomputable def v7 (t:TE):TT:=fun σ H Q=>t σ H fun x H'=>∃ k,x=.bl k/\Q k H'
theorem Ad {op:CmpOp}{r:R2} (ho:OpR X (Oh op) r) (ha:PE X a ta) (hb:PE X b tb) (hm:RN op b=false):PT X (.Compare a [op] [b] pos) (v7 (tOp r ta tb)):=by
 intro pins s σ H Q I h
 refine wpAny_isTrue_Compare1 (thn (ha pins s σ H _ I h) fun v s1 ⟨x,H1,I1,r1,q1⟩=>thn (hb pins s1 σ H1 _ I1 q1) fun u s2 ⟨y,H2,I2,r2,q2⟩ =>
  thn (ho pins s2 σ H2 x y v u _ I2 r1 r2 q2) fun c s3 ⟨z,H3,I3,r3,k,e,q3⟩=>?_) hm
 subst e
 cases r3
 exact OH ⟨H3,I3,q3⟩
noncomputable def qy (r r':R2) (ta tb tc:TE):TE:=fun σ H Q=>ta σ H fun x H1=>tb σ H1 fun y H2=>r x y H2 fun z H3=>∃ k,z=.bl k ∧
 (if k=true then tc σ H3 fun w' H4=>r' y w' H4 Q else Q (.bl false) H3)
theorem v8 {op op':CmpOp}{r r':R2} (ho:OpR X (Oh op) r) (ho':OpR X (Oh op') r') (ha:PE X a ta) (hb:PE X b tb) (hc:PE X c tc)
 (hm:lastMarks [op,op'] [b,c]=false:=by with_unfolding_all rfl):PE X (.Compare a [op,op'] [b,c] pos) (qy r r' ta tb tc):=by
 intro pins s σ H Q I h
 refine Compare_chain (thn (ha pins s σ H _ I h) fun v s1 ⟨x,H1,I1,r1,q1⟩=>chain_link (thn (hb pins s1 σ H1 _ I1 q1) fun u s2 ⟨y,H2,I2,r2,q2⟩ =>
  thn (ho pins s2 σ H2 x y v u _ I2 r1 r2 q2) fun d s3 ⟨z,H3,I3,r3,k,e,q3⟩=>?_)) hm
 subst e
 cases r3
 refine OH ?_
 cases k with
 | false=>exact ite_ff ⟨.bl false,H3,I3,rfl,q3⟩
 | true=>exact ite_tt (chain_last (thn (hc pins s3 σ H3 _ I3 q3) fun w' s4 ⟨z',H4,I4,r4,q4⟩=>ho' pins s4 σ H4 y z' u w' Q I4 r2 r4 q4))
theorem v9 {op op':CmpOp}{r r':R2} (ho:OpR X (Oh op) r) (ho':OpR X (Oh op') r') (ha:PE X a ta) (hb:PE X b tb) (hc:PE X c tc)
 (hm:lastMarks [op,op'] [b,c]=false:=by with_unfolding_all rfl):PT X (.Compare a [op,op'] [b,c] pos) (v7 (qy r r' ta tb tc)):=by
 intro pins s σ H Q I h
 refine isTrue_chain (thn (ha pins s σ H _ I h) fun v s1 ⟨x,H1,I1,r1,q1⟩=>test_link (thn (hb pins s1 σ H1 _ I1 q1) fun u s2 ⟨y,H2,I2,r2,q2⟩ =>
  thn (ho pins s2 σ H2 x y v u _ I2 r1 r2 q2) fun d s3 ⟨z,H3,I3,r3,k,e,q3⟩=>?_)) hm
 subst e
 cases r3
 refine OH ?_
 cases k with
 | false =>
  obtain ⟨k',e',q'⟩:=q3
  cases e'
  exact ite_ff ⟨H3,I3,q'⟩
 | true =>
  refine ite_tt (test_last (thn (hc pins s3 σ H3 _ I3 q3) fun w' s4 ⟨z',H4,I4,r4,q4⟩=>thn (ho' pins s4 σ H4 y z' u w' _ I4 r2 r4 q4) fun d' s5 zq=>?_))
  obtain ⟨z2,H5,I5,r5,k2,e2,q5⟩:=zq
  subst e2
  cases r5
  exact OH ⟨H5,I5,q5⟩
theorem jt:(sizeLine:Nat) < 2 ^ 63:=by rw[Ry];decide
theorem qz:OpR X (OR .Add) (fun x y H Q=>∃ i j,x=.str i/\y=.str j/\i.length+j.length<=sizeLine/\Q (.str (i++j)) H):=by
 intro pins s σ H x y v u Q I rx ry h
 obtain ⟨i,j,rfl,rfl,hz,q⟩:=h
 obtain ⟨t,rfl⟩:=rx
 obtain ⟨t',rfl⟩:=ry
 exact add_str (fun t' tk=>⟨.str (i++j),H,I.tok _,⟨_,rfl⟩,q⟩) hz
theorem vals1 {x:V}{us:List Np} (r:au [x] us):∃ u,us=[u]/\RelV x u:=by
 cases r with
 | cons r1 r2=>cases r2;exact ⟨_,rfl,r1⟩
theorem vals2 {x y:V}{us:List Np} (r:au [x,y] us):∃ u w',us=[u,w']/\RelV x u/\RelV y w':=by
 cases r with
 | cons r1 r2 =>
  cases r2 with
  | cons r3 r4=>cases r4;exact ⟨_,_,rfl,r1,r3⟩
theorem wg:cC X (.builtin "abs") (fun xs H Q=>∃ i,xs=[.int i]/\Q (.int (if i < 0 then -i else i)) H):=by
 intro pins s σ H xs us Q I r h
 obtain ⟨i,rfl,q⟩:=h
 obtain ⟨u,rfl,t,rfl⟩:=vals1 r
 exact call_abs_int fun u tk=>⟨.int (if i < 0 then -i else i),H,I.tok _,⟨_,rfl⟩,q⟩
theorem uF (hc:X.calm=true):cC X (.builtin "max") (fun xs H Q=>∃ i j,xs=[.int i,.int j]/\Q (.int (if j > i then j else i)) H):=by
 intro pins s σ H xs us Q I r h
 obtain ⟨i,j,rfl,q⟩:=h
 obtain ⟨u,w',rfl,⟨t,rfl⟩,⟨t',rfl⟩⟩:=vals2 r
 refine max_two_ints (I.ok.hd hc) fun h' tk k=>⟨_,H,I.kept k,?_,q⟩
 by_cases hj:j > i
 ·rw[if_pos hj,if_pos hj];exact ⟨_,rfl⟩
 ·rw[if_neg hj,if_neg hj];exact ⟨_,rfl⟩
theorem uG (hc:X.calm=true):cC X (.builtin "min") (fun xs H Q=>∃ i j,xs=[.int i,.int j]/\Q (.int (if j < i then j else i)) H):=by
 intro pins s σ H xs us Q I r h
 obtain ⟨i,j,rfl,q⟩:=h
 obtain ⟨u,w',rfl,⟨t,rfl⟩,⟨t',rfl⟩⟩:=vals2 r
 refine min_two_ints (I.ok.hd hc) fun h' tk k=>⟨_,H,I.kept k,?_,q⟩
 by_cases hj:j < i
 ·rw[if_pos hj,if_pos hj];exact ⟨_,rfl⟩
 ·rw[if_neg hj,if_neg hj];exact ⟨_,rfl⟩
theorem mE:cC X (.type "int") (fun xs H Q=>(∃ i,xs=[.int i]/\Q (.int i) H)\/∃ k,xs=[.bl k]/\Q (.int (if k then 1 else 0)) H):=by
 intro pins s σ H xs us Q I r h
 rcases h with ⟨i,rfl,q⟩ | ⟨k,rfl,q⟩
 ·obtain ⟨u,rfl,t,rfl⟩:=vals1 r
  exact call_int_int ⟨.int i,H,I,⟨_,rfl⟩,q⟩
 ·obtain ⟨u,rfl,r1⟩:=vals1 r
  cases r1
  exact call_int_bool ⟨.int (if k then 1 else 0),H,I.tok _,⟨_,rfl⟩,q⟩
end
end L2
namespace L2
open PySem PySem.Spec PyProof.Rows
structure qA (h:Heap) (x dx C:Addr) (mA:Str->Option Np):Prop where
 obj:h.get? x=some (O0 C dx)
 ns:h.Ns1 dx mA
 ne:dx≠x
theorem uH {h:Heap}{dx:Addr}{mA:Str->Option Np} (n:h.Ns1 dx mA):∃ od,h.get? dx=some od/\∀ name,QK name od=some (mA name):=by
 obtain ⟨o,es,ep,ho,hd,hk,_,hm⟩:=n
 refine ⟨o,ho,fun name=>?_⟩
 have e:=hm name
 unfold nsFind findBy at e
 rw[← Array.find?_toList] at e
 unfold QK
 rw[hd]
 dsimp only
 split
 ·rename_i y q
  rw[q] at e
  exact congrArg some e
 ·rename_i q
  rw[q] at e
  have a:es.toList.any (·.refKey)=false:=by
   rw[List.any_eq_false]
   intro y hy
   obtain ⟨z,t,hkey⟩:=hk y (Array.mem_toList_iff.mp hy)
   simp[DictEntry.refKey,hkey]
  have a':¬ es.toList.any (·.refKey)=true:=by rw[a];exact Ob
  rw[if_neg a']
  exact congrArg some e
theorem qA.look {h:Heap}{x dx C:Addr}{mA:Str->Option Np} (I:qA h x dx C mA):∃ od,PySem.W.InstAt h x (O0 C dx) C (some od)/\∀ name,QK name od=some (mA name) :=
 let ⟨od,ho,hl⟩:=uH I.ns
 ⟨od,⟨I.obj,rfl,rfl,ho⟩,hl⟩
section
variable {prog:NG}{w:N2}{A:Oz}{E:Np->Nr->Prop}{s:Nr}{K:Nl}{x dx C f:Addr}{mA:Str->Option Np}{name:Str}{v:Np}
theorem get_map {expr:Bool}{Q:Np->Nr->Prop} (X:K.In s.heap) (I:qA s.heap x dx C mA) (hg:PX K C name=true) (hh:Ql K C=true)
 (ha:Ol K (.ref C) name=some none) (hv:mA name=some v) (hv':Tj v=true) (h:Q v { s with toks:=s.toks+1 }) :
 wpAny (NR prog w) A (getAttr (.ref x) name expr) Q E s:=by
 obtain ⟨od,J,hl⟩:=I.look
 exact PySem.W.get_value X J (QT hg).1 (PySem.W.findObj_own hh ha rfl (by rw[hl,hv])) hv' h
theorem wj {pl:Sem Bool}{Q:Np×List Np->Nr->Prop} (X:K.In s.heap) (I:qA s.heap x dx C mA) (hg:PX K C name=true)
 (hf:Ol K (.ref C) name=some (some (.ref f))) (ht:Rm K (.ref f)=true) (hv:mA name=none) (h:Q (.ref f,[.ref x]) s) :
 wpAny (NR prog w) A (RM (.ref x) name pl) Q E s:=by
 obtain ⟨od,J,hl⟩:=I.look
 exact PySem.W.method_fn X J (QT hg).1 (QT hg).2 hf (beq_iff_eq.mp ht) (by show (QK name od).map (·.isSome)=some false;rw[hl,hv];rfl) h
theorem Ae {ns:List Str}{Q:Unit->Nr->Prop} (X:K.In s.heap) (I:qA s.heap x dx C mA)
 (hs:Ol K (.ref C) "__setattr__"=some (some (.builtin "object.__setattr__"))) (hp:Rg K C=true) (ht:Rz K C name=some none) (hh:Ql K C=true)
 (hw:SL mA ns) (hsz:ns.length<=sizeLine)
 (h:∀ h',qA h' x dx C (fun y=>if y=name then some v else mA y)->Ou dx s.heap h'->Q () { s with heap:=h',toks:=s.toks+2 }) :
 wpAny (NR prog w) A (setAttr (.ref x) name v) Q E s:=by
 obtain ⟨od,J,hl⟩:=I.look
 refine PySem.W.set_plain X J hs (PySem.W.osa_open (s:={ s with toks:=s.toks+1 }) (r:=none) X J hp ht fun b=>?_)
 obtain ⟨cd,hc,hd'⟩:=PySem.W.any_some hh
 have hx:s.heap.get? x=some ⟨.ref C,some dx,.plain,#[]⟩:=I.obj
 refine wpAny_bind (wpAny_pure (wpAny_bind (wpAny_bind (wpAny_loadPart hx (wpAny_bind (PySem.W.Looks.here (s:={ s with toks:=s.toks+1 }) (PySem.W.looks_clsIn X hc) ?_))))))
 rw[hd']
 refine wpAny_pure (a:=some dx) (wpAny_bind (wpAny_pure (wpAny_bind ?_)))
 refine wpAny_nsSet1 (s:={ s with toks:=s.toks+1 }) I.ns fun h' hn2 hs2=>?_
 obtain ⟨oD,esD,epD,hoD,hdD,hcD⟩:=hn2.count (PySem.Within.cons name v hw)
 refine wpAny_bind (wpAny_lookBehind hoD (by rw[hdD];exact pastItsLine_dict (Oj hcD (by rw[NS];omega))) ?_)
 exact wpAny_pure (h _ ⟨(hs2.2 _ (Os I.ne)).trans I.obj,hn2,I.ne⟩ hs2)
theorem wk {R:SK->Nr->Prop}{vs:List Np}{kw:List (Str×Np)} (X:K.In s.heap) (hm:RB K C=true)
 (hi:Ol K (.ref C) "__init__"=some (some (.ref f))) (hf:PySem.W.typeIn K (.ref f)=some (.type "function"))
 (h:codeAny (NR prog w) (A.under (.builtin "type.__call__" ⟨.ref C :: vs,kw⟩)) (.call (.ref f) ⟨.ref (s.heap.objs.size+1) :: vs,kw⟩) (PySem.W.InitBack (s.heap.objs.size+1) R)
  { s with heap:=(s.heap.push OA).push (O0 C s.heap.objs.size) }) :
 codeAny (NR prog w) A (.call (.ref C) ⟨vs,kw⟩) R s:=by
 obtain ⟨hh,g,d,t,os⟩:=s
 exact PySem.W.make_core (PySem.W.makes_of X hm) (PySem.W.looks_findIn X hi) (fun self=>PySem.W.bind_fn X self hf) (.inl rfl) h
end
noncomputable def br (f:Str) (v:V):List (Str×V)->List (Str×V)
 | []=>[(f,v)]
 | (g,x) :: r=>if g=f then (g,v) :: r else (g,x) :: br f v r
theorem jI (f g:Str) (v:V):∀ fs:List (Str×V),(br f v fs).lookup g=if g=f then some v else fs.lookup g
 | []=>by
  show Py g [(f,v)]=_
  by_cases h:g=f
  ·have hb:(g==f)=true:=beq_iff_eq.mpr h
   simp only[Py,hb,if_pos h]
  ·have hb:(g==f)=false:=beq_eq_false_iff_ne.mpr h
   simp only[Py,hb,if_neg h]
 | (k,x) :: r=>by
  have ih:=jI f g v r
  rw[show br f v ((k,x) :: r)=(if k=f then (k,v) :: r else (k,x) :: br f v r) from rfl]
  by_cases hk:k=f
  ·rw[if_pos hk]
   by_cases h:g=k
   ·have hb:(g==k)=true:=beq_iff_eq.mpr h
    simp only[Py,hb,if_pos (h.trans hk)]
   ·have hb:(g==k)=false:=beq_eq_false_iff_ne.mpr h
    simp only[Py,hb,if_neg (fun e:g=f=>h (e.trans hk.symm))]
  ·rw[if_neg hk]
   by_cases h:g=k
   ·have hb:(g==k)=true:=beq_iff_eq.mpr h
    simp only[Py,hb,if_neg (fun e:g=f=>hk (h.symm.trans e))]
   ·have hb:(g==k)=false:=beq_eq_false_iff_ne.mpr h
    simp only[Py,hb]
    exact ih
theorem ju (f:Str) (v:V):∀ fs:List (Str×V),f∈(br f v fs).map (·.1)/\∀ g,g∈fs.map (·.1)->g∈(br f v fs).map (·.1)
 | []=>⟨by simp[br],fun g h=>by simp at h⟩
 | (k,x) :: r=>by
  obtain ⟨i1,i2⟩:=ju f v r
  rw[show br f v ((k,x) :: r)=(if k=f then (k,v) :: r else (k,x) :: br f v r) from rfl]
  by_cases hk:k=f
  ·rw[if_pos hk]
   subst hk
   exact ⟨by simp,fun g h=>by simpa using h⟩
  ·rw[if_neg hk]
   refine ⟨?_,fun g h=>?_⟩
   ·rw[NW]
    exact NC _ i1
   ·rw[NW] at h ⊢
    rcases List.mem_cons.mp h with e | e
    ·exact List.mem_cons.mpr (.inl e)
    ·exact NC _ (i2 g e)
theorem jJ (f:Str) (v:V):∀ fs:List (Str×V),(br f v fs).length<=fs.length+1
 | []=>by simp[br]
 | (k,x) :: r=>by
  have ih:=jJ f v r
  rw[show br f v ((k,x) :: r)=(if k=f then (k,v) :: r else (k,x) :: br f v r) from rfl]
  by_cases hk:k=f
  ·rw[if_pos hk,NS,NS];omega
  ·rw[if_neg hk,NS,NS];omega
theorem lJ.some_of {v:V}{o:Option Np} (r:lJ (some v) o):∃ u,o=some u/\RelV v u:=by
 cases o with
 | none=>exact (show False from r).elim
 | some u=>exact ⟨u,rfl,r⟩
theorem lJ.none_of {o:Option Np} (r:lJ none o):o=none:=by
 cases o with
 | none=>rfl
 | some u=>exact (show False from r).elim
theorem uI {v:V}{u:Np} (r:RelV v u):Tj u=true:=by
 cases v with
 | non=>cases (show u=P9 from r);rfl
 | bl b=>cases (show u=TL b from r);rfl
 | int i=>obtain ⟨t,e⟩:=(show ∃ t,u=Qt i t from r);cases e;rfl
 | str x=>obtain ⟨t,e⟩:=(show ∃ t,u=Value.str x t from r);cases e;rfl
 | byt b=>obtain ⟨t,e⟩:=(show ∃ t,u=Value.bytes b t from r);cases e;rfl
 | flt b=>obtain ⟨t,e⟩:=(show ∃ t,u=Value.float b t from r);cases e;rfl
 | ref a=>cases (show u=On a from r);rfl
 | ty n=>cases (show u=Qs n from r);rfl
section
variable {P:NG}{w:N2}{H H':Hp}{h h':Heap}{a C dx:Addr}{fs fs':List (Str×V)}
theorem iT (hok:HOk P w H h) (e:H a=some (.ins C dx fs)):∃ mA,qA h a dx C mA/\(∀ f,lJ (fs.lookup f) (mA f))/\SL mA (fs.map (·.1))/\fs.length<=1000/\H dx=some (.own a):=by
 obtain ⟨d,z,ne,ob,mA,n,r,q⟩:=(show dW P w H h a (.ins C dx fs) from hok a _ e)
 exact ⟨mA,⟨ob,n,ne⟩,r,q,z,d⟩
end
structure Cls (K:Nl) (C:Addr):Prop where
 pg:PX K C Str.empty=true
 hd:Ql K C=true
 po:Rg K C=true
 sa:Ol K (.ref C) "__setattr__"=some (some (.builtin "object.__setattr__"))
theorem Cls.get {K:Nl}{C:Addr} (c:Cls K C) (f:Str):PX K C f=true:=c.pg
noncomputable def gf (K:Nl) (C:Addr) (f:Str):Prop:=Ol K (.ref C) f=some none
theorem gf.G0 {K:Nl}{C:Addr}{f:Str} (n:gf K C f):Rz K C f=some none:=by
 unfold Rz
 rw[show Ol K (.ref C) f=some none from n]
 rfl
structure uJ (K:Nl) (C:Addr) (m:Str) (f:Addr):Prop where
 at_:Ol K (.ref C) m=some (some (.ref f))
 fn:Rm K (.ref f)=true
 kp:OD K (.ref f)=true
section
variable {X:Cx}{pins:List (Addr×Obj)}{σ:St}{H:Hp}{s:Nr}{a C dx:Addr}{fs:List (Str×V)}{f:Str}{v:V}{A:Oz}{E:Np->Nr->Prop}
theorem ku {b:Bool}{Q:Np->Nr->Prop} (I:Inv X pins σ H s) (e:H a=some (.ins C dx fs)) (c:Cls X.K C) (n:gf X.K C f) (l:fs.lookup f=some v)
 (h:∀ u s',Inv X pins σ H s'->RelV v u->Q u s'):wpAny (NR X.prog X.w) A (getAttr (.ref a) f b) Q E s:=by
 obtain ⟨mA,O,r,_,_,_⟩:=iT I.hok e
 obtain ⟨u,hu,ru⟩:=lJ.some_of (v:=v) (o:=mA f) (by rw[← l];exact r f)
 exact get_map I.kIn O (c.get f) c.hd n hu (uI ru) (h u _ (I.tok _) ru)
theorem fS {m:Str}{g:Addr}{pl:Sem Bool}{Q:Np×List Np->Nr->Prop} (I:Inv X pins σ H s) (e:H a=some (.ins C dx fs)) (c:Cls X.K C) (k:uJ X.K C m g) (l:fs.lookup m=none)
 (h:Q (.ref g,[.ref a]) s):wpAny (NR X.prog X.w) A (RM (.ref a) m pl) Q E s:=by
 obtain ⟨mA,O,r,_,_,_⟩:=iT I.hok e
 have hn:mA m=none:=lJ.none_of (by rw[← l];exact r m)
 exact wj I.kIn O (c.get m) k.at_ k.fn hn h
theorem kB {y:V}{u:Np}{Q:Unit->Nr->Prop} (I:Inv X pins σ H s) (e:H a=some (.ins C dx fs)) (c:Cls X.K C) (n:gf X.K C f) (hl:fs.length < 1000) (ry:RelV y u)
 (h:∀ s',Inv X pins σ (upd H a (.ins C dx (br f y fs))) s'->Q () s'):wpAny (NR X.prog X.w) A (setAttr (.ref a) f u) Q E s:=by
 obtain ⟨mA,O,r,wi,_,ho⟩:=iT I.hok e
 have hz:(fs.map (·.1)).length<=sizeLine:=by rw[NP,Ry];omega
 refine Ae I.kIn O c.sa c.po n.G0 c.hd wi hz fun h' O' sb=>h _ ?_
 have hd:∃ o,h'.get? dx=some o:=let ⟨o,_,_,e',_⟩:=O'.ns;⟨o,e'⟩
 refine I.write (x:=a) (e:=dx) (by rw[e];exact QS) (.inr ho) (fun b q hb z=>(sb.2 b hb).trans z) hd ?_
 refine ⟨by rw[ao O.ne];exact ho,?_,O.ne,O'.obj,_,O'.ns,fun g=>?_,fun g hg=>?_⟩
 ·have:=jJ f y fs;omega
 ·show lJ ((br f y fs).lookup g) (if g=f then some u else mA g)
  rw[jI]
  by_cases q:g=f
  ·rw[if_pos q,if_pos q];exact ry
  ·rw[if_neg q,if_neg q];exact r g
 ·by_cases q:g=f
  ·rw[q];exact (ju f y fs).1
  ·refine (ju f y fs).2 g (wi g fun z=>hg ?_)
   show (if g=f then some u else mA g)=none
   rw[if_neg q];exact z
theorem Inv.made (I:Inv X pins σ H s):Inv X pins σ (upd (upd H s.heap.objs.size (.own (s.heap.objs.size+1))) (s.heap.objs.size+1) (.ins C s.heap.objs.size []))
 { s with heap:=(s.heap.push OA).push (O0 C s.heap.objs.size) }:=by
 have e1:(s.heap.push OA).get? s.heap.objs.size=some OA:=Nz s.heap rfl
 have e2:((s.heap.push OA).push (O0 C s.heap.objs.size)).get? (s.heap.objs.size+1)=some (O0 C s.heap.objs.size):=by
  have:=Nz (s.heap.push OA) (o:=O0 C s.heap.objs.size) rfl
  rwa [OO] at this
 have e3:(s.heap.push OA).Ns s.heap.objs.size (fun _=>none):=⟨OA,#[],_,e1,rfl,(fun e he=>absurd he (by simp)),fun _=>rfl⟩
 have I1:=I.laid (a:=s.heap.objs.size) (o:=.own (s.heap.objs.size+1)) (h':=s.heap.push OA) (t':=s.toks) (fun b u q=>Nq _ q) (Nu _) ⟨_,e1⟩
 refine I1.laid (a:=s.heap.objs.size+1) (o:=.ins C s.heap.objs.size []) (t':=s.toks) (fun b u q=>Nq _ q) (Nat.le_of_eq (OO _ _)) ?_
 have ne:s.heap.objs.size≠s.heap.objs.size+1:=NV (OW _)
 refine ⟨by rw[ao ne,aB],N5 _,ne,e2,fun _=>none,(Heap.Ns1.of_empty e3).at fun o q=>Nq _ q,fun _=>QS,fun y hy=>absurd rfl hy⟩
theorem Af {prog:NG}{w:N2}{env:Env}{e:P7}{f:Str}{pos:Pos}{s:Nr}{Q:Np->Nr->Prop} (hb:QO e f env (eval e env)=eval e env)
 (h:wpAny (NR prog w) A (eval e env) (fun o s₁=>wpAny (NR prog w) A (getAttr o f true) Q E s₁) E s):wpAny (NR prog w) A (eval (.Attribute e f pos) env) Q E s :=
 Attribute_any_ h (by rw[arm_eval_Attribute,hb])
end
noncomputable def K2 (K:Nl) (ta:TE) (f:Str):TE:=fun σ H Q=>ta σ H fun x H1=>∃ a C dx fs v,x=.ref a/\H1 a=some (.ins C dx fs)/\Cls K C/\gf K C f/\fs.lookup f=some v/\Q v H1
noncomputable def G1 (K:Nl) (ta tv:TE) (f:Str):TS:=fun D σ H=>tv σ H fun y H1=>ta σ H1 fun x H2=>∃ a C dx fs,x=.ref a/\H2 a=some (.ins C dx fs)/\Cls K C/\gf K C f/\fs.length < 1000 ∧
 D.nx σ (upd H2 a (.ins C dx (br f y fs)))
noncomputable def K3 (X:Cx) (op:Qa) (rd:V->V->Hp->VK->Prop):Prop :=
 ∀ (pins:List (Addr×Obj)) (s:Nr) (σ:St) (H:Hp) (x y:V) (u v:Np) (Q:VK),Inv X pins σ H s->RelV x u->RelV y v->rd x y H Q->wpAny (NR X.prog X.w) X.A (inplaceOp op u v) (EP X pins σ Q) X.xe s
noncomputable def rT (K:Nl) (ta tv:TE) (rd:V->V->Hp->VK->Prop) (f:Str):TS:=fun D σ H=>ta σ H fun x H1=>∃ a C dx fs v,x=.ref a/\H1 a=some (.ins C dx fs)/\Cls K C/\gf K C f/\fs.lookup f=some v ∧
 tv σ H1 fun y H2=>rd v y H2 fun z H3=>∃ dx' fs',H3 a=some (.ins C dx' fs')/\fs'.length < 1000/\D.nx σ (upd H3 a (.ins C dx' (br f z fs')))
section
variable {X:Cx}{o e value:P7}{f:Str}{pos pos' tpos:Pos}{ta tv:TE}
theorem DM (he:PE X e ta) (hb:QO e f X.env (eval e X.env)=eval e X.env):PE X (.Attribute e f pos) (K2 X.K ta f):=by
 intro pins s σ H Q I h
 refine Af hb (thn (he pins s σ H _ I h) fun u s1 zq=>?_)
 obtain ⟨x,H1,I1,rx,a,C,dx,fs,v,ex,ea,c,n,l,q⟩:=zq
 subst ex
 obtain rfl:u=On a:=rx
 exact ku I1 ea c n l fun u' s2 I2 ru=>⟨v,H1,I2,ru,q⟩
theorem DN (ha:PE X o ta) (hv:PE X value tv) (hs:Qo value (some (.Attribute o f pos')) pos.line X.env=pure false):PS X (.Assign [.Attribute o f pos'] value pos) (G1 X.K ta tv f):=by
 intro pins s σ H D I h
 refine plainObj_wpAny_Assign_Attribute (thn (hv pins s σ H _ I h) fun u s1 ⟨y,H1,I1,ry,q⟩=>thn (ha pins s1 σ H1 _ I1 q) fun ov s2 ⟨x,H2,I2,rx,a,C,dx,fs,ex,ea,c,n,l,q2⟩=>?_) hs
 subst ex
 obtain rfl:ov=On a:=rx
 exact kB I2 ea c n l ry fun s3 I3=>⟨σ,_,I3,q2⟩
theorem uK {op:Qa}{rd:V->V->Hp->VK->Prop} (ha:PE X o ta) (hv:PE X value tv) (hop:K3 X op rd):PS X (.AugAssign (.Attribute o f tpos) op value pos) (rT X.K ta tv rd f):=by
 intro pins s σ H D I h
 refine wpAny_AugAssign_AttributeAny (thn (ha pins s σ H _ I h) fun ov s1 zq=>?_)
 obtain ⟨x,H1,I1,rx,a,C,dx,fs,v,ex,ea,c,n,l,q⟩:=zq
 subst ex
 obtain rfl:ov=On a:=rx
 refine ku I1 ea c n l fun u s2 I2 ru=>thn (hv pins s2 σ H1 _ I2 q) fun w3 s3 ⟨y,H2,I3,ry,q3⟩=>thn (hop pins s3 σ H2 v y u w3 _ I3 ru ry q3) fun w4 s4 zq=>?_
 obtain ⟨z,H3,I4,rz,dx',fs',ea',l',q4⟩:=zq
 exact kB I4 ea' c n l' rz fun s5 I5=>⟨σ,_,I5,q4⟩
theorem CU {pl:Sem Bool}{m:Str}{apos:Pos}{args:List P7}{pins:List (Addr×Obj)}{s:Nr}{σ:St}{H:Hp}{Q:Np->Nr->Prop}{te:TE} (he:PE X e te) (I:Inv X pins σ H s)
 (h:te σ H fun x H1=>∃ a C dx fs g,x=.ref a/\H1 a=some (.ins C dx fs)/\Cls X.K C/\uJ X.K C m g/\fs.lookup m=none ∧
  ∀ s1,Inv X pins σ H1 s1->wpAny (NR X.prog X.w) X.A (callWith pos (.ref g) [.ref a] (Po pos (NZ args X.env)) (Rk pos (P1 [] X.env))) Q X.xe s1)
 (ht:eval (.Call (.Attribute e m apos) args [] pos) X.env=(do
  let ov ← eval e X.env
  standAt apos.atName
  let (f,first) ← holding [ov] (RM ov m pl)
  callWith pos f first (Po pos (NZ args X.env)) (Rk pos (P1 [] X.env)))) :
 wpAny (NR X.prog X.w) X.A (eval (.Call (.Attribute e m apos) args [] pos) X.env) Q X.xe s:=by
 refine PN (pl:=pl) (thn (he pins s σ H _ I h) fun u s1 ⟨x,H1,I1,rx,a,C,dx,fs,g,ex,ea,c,k,l,q⟩=>?_) ht
 subst ex
 obtain rfl:u=On a:=rx
 exact fS I1 ea c k l (q s1 I1)
end
section
variable {X:Cx}{pins:List (Addr×Obj)}{σ:St}{H:Hp}{s:Nr}{A:Oz}{E:Np->Nr->Prop}{Q:Np->Nr->Prop}{c:Np}{b:Bool}
end
end L2
namespace L2
open PySem PySem.Spec PyProof.Rows
structure bR (k:Nat) (A:Oz):Prop where
 hd:A.handled=none
 dp:A.depth+3*k+5 < recursionLimit
 un:A.units+16*k+200 < cLine
theorem bR.mono {j k:Nat}{A:Oz} (r:bR k A) (h:j<=k):bR j A:=⟨r.hd,by have:=r.dp;omega,by have:=r.un;omega⟩
theorem bR.deeper {k:Nat}{A:Oz} (r:bR (k+1) A) (env:Env):bR k (A.deeper env) :=
 ⟨r.hd,by have:=r.dp;show A.depth+1+3*k+5 < _;omega,by have:=r.un;show A.units+3+16*k+200 < _;omega⟩
theorem qB {A:Oz}{C:Addr}{us:List Np}{kw:List (Str×Np)}:(A.under (.builtin "type.__call__" ⟨.ref C :: us,kw⟩)).depth=A.depth+1:=by
 first | rfl | simp[SH,Code.weight,Code.isCreation,Code.isGuard,Code.isCaller,Code.frames,SX,guardIds]
theorem qC {A:Oz}{C:Addr}{us:List Np}{kw:List (Str×Np)}:(A.under (.builtin "type.__call__" ⟨.ref C :: us,kw⟩)).units=A.units+1:=by
 first | rfl | simp[SH,Code.cUnits,Code.frames,SX]
theorem bR.make {k:Nat}{A:Oz} (r:bR (k+1) A) (C:Addr) (us:List Np) (kw:List (Str×Np)):bR k (A.under (.builtin "type.__call__" ⟨.ref C :: us,kw⟩)) :=
 ⟨r.hd,by have:=r.dp;rw[qB];omega,by have:=r.un;rw[qC];omega⟩
theorem bR.depth {k:Nat}{A:Oz} (r:bR k A):A.depth < recursionLimit:=by have:=r.dp;omega
noncomputable def wm:TA:=fun _ H Q=>Q [] H
noncomputable def CV (ta:TE) (tr:TA):TA:=fun σ H Q=>ta σ H fun x H1=>tr σ H1 fun xs H2=>Q (x :: xs) H2
section
variable {X:Cx}{e:P7}{es:List P7}{te:TE}{t:TA}{pos:Pos}
theorem nk:PA X [] wm:=fun _ _ _ _ H Q I h=>PP ⟨[],H,I,.nil,h⟩
theorem gJ (ha:PE X e te) (hr:PA X es t) (hs:NZ (e :: es) X.env=(false,eval e X.env) :: NZ es X.env:=by rfl):PA X (e :: es) (CV te t):=by
 intro pos pins s σ H Q I h
 rw[hs]
 show wpAny _ _ (R6 ((false,eval e X.env) :: Po pos (NZ es X.env))) _ _ s
 refine O9 (thn (ha pins s σ H _ I h) fun u s1 zq=>?_)
 obtain ⟨x,H1,I1,r1,q1⟩:=zq
 exact thn (hr pos pins s1 σ H1 _ I1 q1) fun us s2 ⟨xs,H2,I2,r2,q2⟩=>⟨x :: xs,H2,I2,.cons r1 r2,q2⟩
noncomputable def G2 (t:TA):TE:=fun σ H Q=>t σ H fun xs H1=>xs.length<=sizeLine/\∀ p,H1 p=none->Q (.ref p) (upd H1 p (.tup xs))
noncomputable def G3 (t:TA):TE:=fun σ H Q=>t σ H fun xs H1=>xs.length<=sizeLine/\∀ p,H1 p=none->Q (.ref p) (upd H1 p (.lst xs))
theorem DO {x1} (h:PA X es t):PE X (.Tuple es x1 pos) (G2 t):=by
 intro pins s σ H Q I hq
 refine wpAny_Tuple_spliced (thn (h pos pins s σ H _ I hq) fun us s1 ⟨xs,H1,I1,r,z,q⟩=>⟨by rw[← r.length];exact z,?_⟩)
 have hf:H1 s1.heap.objs.size=none:=I1.hok.fresh (Nu _)
 refine ⟨.ref s1.heap.objs.size,upd H1 s1.heap.objs.size (.tup xs),I1.laid (t':=s1.toks) (fun b u e=>Nq _ e) (Nu _) ?_,rfl,q _ hf⟩
 exact ⟨z,us,r,⟨_,Nz _ rfl,rfl,_,rfl⟩⟩
theorem DP (h:PA X es t):PE X (.List es pos) (G3 t):=by
 intro pins s σ H Q I hq
 refine wpAny_List_spliced (thn (h pos pins s σ H _ I hq) fun us s1 ⟨xs,H1,I1,r,z,q⟩=>⟨by rw[← r.length];exact z,?_⟩)
 have hf:H1 s1.heap.objs.size=none:=I1.hok.fresh (Nu _)
 refine ⟨.ref s1.heap.objs.size,upd H1 s1.heap.objs.size (.lst xs),I1.laid (t':=s1.toks) (fun b u e=>Nq _ e) (Nu _) ?_,rfl,q _ hf⟩
 exact ⟨z,us,0,r,Nz _ rfl⟩
end
noncomputable abbrev Sp:=List V->Hp->VK->XK->Prop
noncomputable abbrev CXT:=List Env->Hp->Nr->XK->Np->Nr->Prop
structure lN (P:NG) (w:N2) (K:Nl) (mg:Str->Option Np) (base:Heap) (A:Oz) (outer:List Env) (s:Nr) (H:Hp):Prop where
 frames:A.frames=some outer
 mod:Mod K mg base
 bs:∀ b o,base.get? b=some o->s.heap.get? b=some o/\H b=none
 bsz:base.objs.size<=s.heap.objs.size
 iw:s.heap.FunFrames base outer
 frf:∀ b∈frs outer,H b=none
 hok:HOk P w H s.heap
 bare:Sj s.gens
noncomputable def CE (outer:List Env) (P:NG) (w:N2) (H:Hp) (s:Nr) (Q:VK) (u:Np) (s':Nr):Prop :=
 ∃ v H',s'.os=s.os/\Sj s'.gens/\Un (frs outer) [] H H' s.heap s'.heap/\HOk P w H' s'.heap/\RelV v u/\Q v H'
noncomputable def CR (CX:CXT) (outer:List Env) (P:NG) (w:N2) (H:Hp) (s:Nr) (Q:VK) (E:XK) (r:SK) (s':Nr):Prop :=
 match r with
 | .ok (.ret u)=>CE outer P w H s Q u s'
 | .ok _=>False
 | .error e=>CX outer H s E e s'
structure fT (P:NG) (w:N2) (K:Nl) (mg:Str->Option Np) (base:Heap) (CX:CXT) (k:Nat) (f:Addr) (fd:OY) (ps:List Str) (sp:Sp):Prop where
 len:∀ vs H Q E,sp vs H Q E->vs.length=ps.length
 run:∀ (A:Oz) (outer:List Env) (s:Nr) (H:Hp) (args:Args) (us:List Np) (vs:List V) (Q:VK) (E:XK),bR k A->lN P w K mg base A outer s H->BindsTo s fd args (ps.zip us)->au vs us->sp vs H Q E →
  codeAny (NR P w) A (.call (.ref f) args) (CR CX outer P w H s Q E) s
theorem lN.make {P:NG}{w:N2}{K:Nl}{mg:Str->Option Np}{base:Heap}{A:Oz}{outer:List Env}{s:Nr}{H:Hp} (e:lN P w K mg base A outer s H) (C:Addr) (us:List Np) (kw:List (Str×Np)) :
 lN P w K mg base (A.under (.builtin "type.__call__" ⟨.ref C :: us,kw⟩)) outer s H:=⟨by first | exact e.frames | (simpa [SH,Code.envs,SX,pushEnvs] using e.frames),e.mod,e.bs,e.bsz,e.iw,e.frf,e.hok,e.bare⟩
section
variable {X:Cx}{pins:List (Addr×Obj)}{σ:St}{H:Hp}{s s':Nr}
theorem Inv.DQ (I:Inv X pins σ H s):lN X.prog X.w X.K X.mg X.base X.A X.stack s H :=
 ⟨I.ok.frames,I.ok.mod,I.bs,Oj I.ok.bsz I.sz,I.stack,I.ni,I.hok,I.bare⟩
theorem Inv.after {Q:VK}{u:Np} (I:Inv X pins σ H s) (h:CE X.stack X.prog X.w H s Q u s'):EP X pins σ Q u s':=by
 obtain ⟨v,H',os,bare,un,hok,r,q⟩:=h
 obtain ⟨hh,g,d,t,os'⟩:=s'
 obtain rfl:os'=s.os:=os
 exact ⟨v,H',I.call (h':=hh) (g':=g) (d':=d) (t':=t) (ch:=[]) un hok bare (fun b z=>absurd z (by simp)),r,q⟩
end
noncomputable def wo (sp:Sp) (dvs:List V) (E:XK) (t:TA):TE:=fun σ H Q=>t σ H fun vs H1=>sp (vs++dvs) H1 Q E
noncomputable def wu (C:Addr) (m:Str) (sp:Sp) (dvs:List V) (E:XK) (ta:TE) (t:TA):TE:=fun σ H Q=>ta σ H fun x H1=>∃ a dx fs,x=.ref a/\H1 a=some (.ins C dx fs)/\fs.lookup m=none ∧
 t σ H1 fun vs H2=>sp (x :: (vs++dvs)) H2 Q E
noncomputable def wA (C:Addr) (sp:Sp) (dvs:List V) (E:XK) (t:TA):TE:=fun σ H Q=>t σ H fun vs H1=>∀ x dx,H1 x=none->H1 dx=none->dx≠x →
 sp (.ref x :: (vs++dvs)) (upd (upd H1 dx (.own x)) x (.ins C dx [])) (fun v H2=>v=.non/\Q (.ref x) H2) E
noncomputable def Binds (K:Nl) (fd:OY) (ps:List Str) (ds:List Np):Prop :=
 ∀ (s:Nr) (us:List Np),K.In s.heap->(us++ds).length=ps.length->BindsTo s fd ⟨us,[]⟩ (ps.zip (us++ds))
theorem Binds.all {K:Nl}{fd:OY}{ps:List Str} (h:∀ us:List Np,us.length=ps.length->SA fd ⟨us,[]⟩=pure (ps.zip us)):Binds K fd ps []:=fun s us _ hl=>by
 rw[Oa] at hl ⊢
 exact .of_eq (h us hl)
noncomputable def fU (CX:CXT) (X:Cx) (E:XK):Prop:=∀ (pins:List (Addr×Obj)) (σ:St) (H:Hp) (s:Nr) (e:Np) (s':Nr),Inv X pins σ H s->CX X.stack H s E e s'->X.xe e s'
section
variable {X:Cx}{CX:CXT}{k:Nat}{f C:Addr}{fd:OY}{ps:List Str}{sp:Sp}{dvs:List V}{ds:List Np}{E:XK}{x m:Str}{p pos apos:Pos}{e o:P7}{es:List P7}{ta:TE}{t:TA}
theorem kC {pins:List (Addr×Obj)}{σ:St}{H:Hp}{s:Nr}{Q:VK}{us:List Np}{vs:List V} (F:fT X.prog X.w X.K X.mg X.base CX k f fd ps sp) (hr:bR k X.A) (hb:Binds X.K fd ps ds) (hd:au dvs ds) (hx:fU CX X E)
 (I:Inv X pins σ H s) (r:au vs us) (h:sp (vs++dvs) H Q E):wpAny (NR X.prog X.w) X.A (call (.ref f) us) (EP X pins σ Q) X.xe s:=by
 have r2:au (vs++dvs) (us++ds):=r.append hd
 have hl:(us++ds).length=ps.length:=by rw[← r2.length];exact F.len _ _ _ _ h
 refine QJ (codeAny_mono (F.run X.A X.stack s H ⟨us,[]⟩ (us++ds) (vs++dvs) Q E hr I.DQ (hb s us I.kIn hl) r2 h) fun r s' hq=>?_)
 cases r with
 | error e=>exact hx pins σ H s e s' I hq
 | ok fl =>
  cases fl with
  | ret u=>exact I.after hq
  | next=>exact Of hq
  | brk=>exact Of hq
  | cont=>exact Of hq
theorem Ag (F:fT X.prog X.w X.K X.mg X.base CX k f fd ps sp) (hr:bR k X.A) (hg:Gl X x) (hm:X.mg x=some (.ref f)) (hk:OD X.K (.ref f)=true) (hb:Binds X.K fd ps ds) (hd:au dvs ds) (hx:fU CX X E)
 (ha:PA X (e :: es) t) (hdb:(x==("__debug__":Str))=false:=by decide) (he:NZ (e :: es) X.env=(false,eval e X.env) :: NZ es X.env:=by rfl) (hpl:(Po pos (NZ es X.env)).any (·.1)=false:=by rfl) :
 PE X (.Call (.Name x p) (e :: es) [] pos) (wo sp dvs E t):=by
 intro pins s σ H Q I h
 refine O2 (iQ I hg hm ?_ hdb)
 refine PB (h₀:=X.base) I.ok.mod.kin hk (thn (ha pos pins s σ H _ I h) fun us s1 ⟨vs,H1,I1,r,q⟩=>⟨I1.kIn,?_⟩) he hpl
 exact kC F hr hb hd hx I1 r q
theorem wB (F:fT X.prog X.w X.K X.mg X.base CX k f fd ps sp) (hr:bR k X.A) (hg:Gl X x) (hm:X.mg x=some (.ref f)) (hk:OD X.K (.ref f)=true) (hb:Binds X.K fd ps ds) (hd:au dvs ds) (hx:fU CX X E)
 (hdb:(x==("__debug__":Str))=false:=by decide):PE X (.Call (.Name x p) [] [] pos) (wo sp dvs E wm):=by
 intro pins s σ H Q I h
 refine O2 (iQ I hg hm ?_ hdb)
 exact QU I.kIn hk (kC (us:=[]) F hr hb hd hx I .nil h)
theorem Ah {pl:Sem Bool} (he:PE X o ta) (c:Cls X.K C) (hm:uJ X.K C m f) (F:fT X.prog X.w X.K X.mg X.base CX k f fd ps sp) (hr:bR k X.A) (hb:Binds X.K fd ps ds) (hd:au dvs ds) (hx:fU CX X E) (ha:PA X (e :: es) t)
 (hst:NZ (e :: es) X.env=(false,eval e X.env) :: NZ es X.env:=by rfl) (hpl:(Po pos (NZ es X.env)).any (·.1)=false:=by rfl)
 (ht:eval (.Call (.Attribute o m apos) (e :: es) [] pos) X.env=(do
  let ov ← eval o X.env
  standAt apos.atName
  let (f,first) ← holding [ov] (RM ov m pl)
  callWith pos f first (Po pos (NZ (e :: es) X.env)) (Rk pos (P1 [] X.env))):=by rfl) :
 PE X (.Call (.Attribute o m apos) (e :: es) [] pos) (wu C m sp dvs E ta t):=by
 intro pins s σ H Q I h
 refine PN (pl:=pl) (thn (he pins s σ H _ I h) fun u s1 ⟨x,H1,I1,rx,a,dx,fs,ex,ea,l,q⟩=>?_) ht
 subst ex
 obtain rfl:u=On a:=rx
 refine fS I1 ea c hm l ?_
 refine PB (first:=[.ref a]) (h₀:=X.base) I.ok.mod.kin hm.kp (thn (ha pos pins s1 σ H1 _ I1 q) fun us s2 ⟨vs,H2,I2,r,q2⟩=>⟨I2.kIn,?_⟩) hst hpl
 exact kC (us:=.ref a :: us) (vs:=.ref a :: vs) F hr hb hd hx I2 (.cons rfl r) q2
theorem wC {pl:Sem Bool} (he:PE X o ta) (c:Cls X.K C) (hm:uJ X.K C m f) (F:fT X.prog X.w X.K X.mg X.base CX k f fd ps sp) (hr:bR k X.A) (hb:Binds X.K fd ps ds) (hd:au dvs ds) (hx:fU CX X E)
 (ht:eval (.Call (.Attribute o m apos) [] [] pos) X.env=(do
  let ov ← eval o X.env
  standAt apos.atName
  let (f,first) ← holding [ov] (RM ov m pl)
  callWith pos f first (Po pos (NZ [] X.env)) (Rk pos (P1 [] X.env))):=by rfl) :
 PE X (.Call (.Attribute o m apos) [] [] pos) (wu C m sp dvs E ta wm):=by
 intro pins s σ H Q I h
 refine PN (pl:=pl) (thn (he pins s σ H _ I h) fun u s1 ⟨x,H1,I1,rx,a,dx,fs,ex,ea,l,q⟩=>?_) ht
 subst ex
 obtain rfl:u=On a:=rx
 refine fS I1 ea c hm l ?_
 exact QU (first:=[.ref a]) I1.kIn hm.kp (kC (us:=[.ref a]) (vs:=[.ref a]) F hr hb hd hx I1 (.cons rfl .nil) q)
structure Mk (K:Nl) (C f:Addr):Prop where
 makes:RB K C=true
 init:Ol K (.ref C) "__init__"=some (some (.ref f))
 fn:Rm K (.ref f)=true
 kp:OD K (.ref C)=true
theorem oW {pins:List (Addr×Obj)}{σ:St}{H:Hp}{s:Nr}{Q:VK}{us:List Np}{vs:List V} (M:Mk X.K C f) (F:fT X.prog X.w X.K X.mg X.base CX k f fd ps sp) (hr:bR (k+1) X.A) (hb:Binds X.K fd ps ds) (hd:au dvs ds)
 (hx:fU CX X E) (I:Inv X pins σ H s) (r:au vs us)
 (h:∀ x dx,H x=none->H dx=none->dx≠x->sp (.ref x :: (vs++dvs)) (upd (upd H dx (.own x)) x (.ins C dx [])) (fun v H2=>v=.non/\Q (.ref x) H2) E) :
 wpAny (NR X.prog X.w) X.A (call (.ref C) us) (EP X pins σ Q) X.xe s:=by
 have hq:=h (s.heap.objs.size+1) s.heap.objs.size (I.hok.fresh (Ox _)) (I.hok.fresh (Nu _)) (NV (OW _))
 have I2:=Inv.made (C:=C) I
 have r2:au (V.ref (s.heap.objs.size+1) :: (vs++dvs)) (On (s.heap.objs.size+1) :: (us++ds)):=.cons rfl (r.append hd)
 have hl:(On (s.heap.objs.size+1) :: us++ds).length=ps.length:=by
  have e:=r2.length
  rw[F.len _ _ _ _ hq] at e
  exact e.symm
 refine QJ (wk (f:=f) I.kIn M.makes M.init (beq_iff_eq.mp M.fn) (codeAny_mono (F.run _ X.stack _ _ ⟨On (s.heap.objs.size+1) :: us,[]⟩ (On (s.heap.objs.size+1) :: (us++ds)) _ _ E (hr.make C us [])
  (I2.DQ.make C us []) (hb _ (On (s.heap.objs.size+1) :: us) I2.kIn hl) r2 hq) fun r s' hq'=>?_))
 cases r with
 | error e=>exact hx pins σ _ _ e s' I2 hq'
 | ok fl =>
  cases fl with
  | ret u =>
   obtain ⟨v,H',I3,rv,ev,q3⟩:=I2.after hq'
   subst ev
   exact ⟨rv,⟨V.ref (s.heap.objs.size+1),H',I3,rfl,q3⟩⟩
  | next=>exact Of hq'
  | brk=>exact Of hq'
  | cont=>exact Of hq'
theorem Ai (M:Mk X.K C f) (F:fT X.prog X.w X.K X.mg X.base CX k f fd ps sp) (hr:bR (k+1) X.A) (hg:Gl X x) (hm:X.mg x=some (.ref C)) (hb:Binds X.K fd ps ds) (hd:au dvs ds) (hx:fU CX X E)
 (ha:PA X (e :: es) t) (hdb:(x==("__debug__":Str))=false:=by decide) (he:NZ (e :: es) X.env=(false,eval e X.env) :: NZ es X.env:=by rfl) (hpl:(Po pos (NZ es X.env)).any (·.1)=false:=by rfl) :
 PE X (.Call (.Name x p) (e :: es) [] pos) (wA C sp dvs E t):=by
 intro pins s σ H Q I h
 refine O2 (iQ I hg hm ?_ hdb)
 refine PB (h₀:=X.base) I.ok.mod.kin M.kp (thn (ha pos pins s σ H _ I h) fun us s1 ⟨vs,H1,I1,r,q⟩=>⟨I1.kIn,?_⟩) he hpl
 exact oW M F hr hb hd hx I1 r q
theorem wD (M:Mk X.K C f) (F:fT X.prog X.w X.K X.mg X.base CX k f fd ps sp) (hr:bR (k+1) X.A) (hg:Gl X x) (hm:X.mg x=some (.ref C)) (hb:Binds X.K fd ps ds) (hd:au dvs ds) (hx:fU CX X E)
 (hdb:(x==("__debug__":Str))=false:=by decide):PE X (.Call (.Name x p) [] [] pos) (wA C sp dvs E wm):=by
 intro pins s σ H Q I h
 refine O2 (iQ I hg hm ?_ hdb)
 exact QU I.kIn M.kp (oW (us:=[]) M F hr hb hd hx I .nil h)
end
section
variable {X:Cx}{CX:CXT}{k:Nat}{f C:Addr}{fd:OY}{ps ks:List Str}{sp:Sp}{E:XK}{x m:Str}{p pos apos kpos:Pos}{e o:P7}{es:List P7}{kws:List RE}{te ta:TE}{t tk:TA}{nm:Option Str}
variable {g:List Np->List Np->List Np}{gV:List V->List V->List V}
end
structure cI (N P:List Str) (sc:NO):Prop where
 kind:sc.kind=.function
 co:sc.isCoroutine=false
 gen:sc.isGenerator=false
 nd:N.Nodup
 pre:N.take P.length=P
 par:∀ x∈P,sc.names.lookup x=some .local\/sc.names.lookup x=some .cell
 nofree:∀ y∈sc.names,y.2≠.free
theorem mF {kindOf:Str->Option Pw}{x:Str}:∀ {binds:List (Str×Np)}{m:Str->Option Np},(∀ v,(x,v)∉binds)->bindL kindOf binds m x=m x
 | [],_,_=>rfl
 | (n,v) :: r,m,h=>by
  unfold bindL
  rw[mF fun w hw=>h w (NC _ hw)]
  split
  ·have:x≠n:=by rintro rfl;exact h v NI
   simp[this]
  ·rfl
theorem mG {kindOf:Str->Option Pw}{x:Str}:∀ {binds:List (Str×Np)}{m:Str->Option Np},(∀ v,(x,v)∉binds)->bindC kindOf binds m x=m x
 | [],_,_=>rfl
 | (n,v) :: r,m,h=>by
  unfold bindC
  rw[mG fun w hw=>h w (NC _ hw)]
  split
  ·rfl
  ·have:x≠n:=by rintro rfl;exact h v NI
   simp[this]
theorem mH {kindOf:Str->Option Pw}{x:Str}{v:Np}:∀ {P:List Str}{vs:List Np}{i:Nat}{m:Str->Option Np},P.Nodup->P[i]?=some x->vs[i]?=some v->kindOf x=some .local →
 bindL kindOf (P.zip vs) m x=some v
 | [],_,_,_,_,h,_,_=>by simp at h
 | _ :: _,[],_,_,_,_,h,_=>by simp at h
 | p :: P,w :: vs,0,m,nd,h1,h2,hk=>by
  simp at h1 h2;subst h1;subst h2
  show bindL kindOf ((p,w) :: P.zip vs) m p=_
  unfold bindL
  rw[mF fun v hv=>(List.nodup_cons.mp nd).1 (QM hv).1,if_pos hk]
  simp
 | p :: P,w :: vs,i+1,m,nd,h1,h2,hk=>by
  show bindL kindOf ((p,w) :: P.zip vs) m x=_
  unfold bindL
  exact mH (i:=i) (List.nodup_cons.mp nd).2 (by simpa using h1) (by simpa using h2) hk
theorem mJ {kindOf:Str->Option Pw}{x:Str}{v:Np}:∀ {P:List Str}{vs:List Np}{i:Nat}{m:Str->Option Np},P.Nodup->P[i]?=some x->vs[i]?=some v->kindOf x≠some .local →
 bindC kindOf (P.zip vs) m x=some v
 | [],_,_,_,_,h,_,_=>by simp at h
 | _ :: _,[],_,_,_,_,h,_=>by simp at h
 | p :: P,w :: vs,0,m,nd,h1,h2,hk=>by
  simp at h1 h2;subst h1;subst h2
  show bindC kindOf ((p,w) :: P.zip vs) m p=_
  unfold bindC
  rw[mG fun v hv=>(List.nodup_cons.mp nd).1 (QM hv).1,if_neg hk]
  simp
 | p :: P,w :: vs,i+1,m,nd,h1,h2,hk=>by
  show bindC kindOf ((p,w) :: P.zip vs) m x=_
  unfold bindC
  exact mJ (i:=i) (List.nodup_cons.mp nd).2 (by simpa using h1) (by simpa using h2) hk
noncomputable def start (N:List Str) (vs:List V):St:=vs.map some++NQ (N.length - vs.length) none
noncomputable def qD (CX:CXT) (P:NG) (w:N2) (K:Nl) (mg:Str->Option Np) (base:Heap) (N:List Str) (qual:Str) (scope:NO) (f:Addr) (cd:Np) (A:Oz) (outer:List Env) (s:Nr) (H:Hp) (E:XK):Cx where
 prog:=P
 w:=w
 K:=K
 mg:=mg
 base:=base
 A:=A.deeper (SI qual scope s.heap.objs.size f cd)
 N:=N
 s₀:=s
 H₀:=H
 env:=SI qual scope s.heap.objs.size f cd
 outer:=outer
 stack:=SI qual scope s.heap.objs.size f cd :: outer
 ex:=[]
 calm:=true
 fn:=fun _=>true
 pn:=[]
 xe:=fun e s'=>wpAny (NR P w) (A.deeper (SI qual scope s.heap.objs.size f cd)) (leaving (SI qual scope s.heap.objs.size f cd) e) (fun _ s''=>CX outer H s E e s'') (fun e' s''=>CX outer H s E e' s'') s'
theorem oX {sc:NO}{n:Nat}{x:Str} (h:sc.names.lookup x=some .cell):∃ c,(cellsFrom n sc.names []).lookup x=some c:=by
 have q:=Sn sc.names n [] (.inl h)
 exact Option.isSome_iff_exists.mp q
theorem uL {CX:CXT}{P:NG}{w:N2}{K:Nl}{mg:Str->Option Np}{base:Heap}{N ps:List Str}{qual:Str}{scope:NO}{f:Addr}{cd:Np}{A:Oz}{outer:List Env}{s s1:Nr}{H:Hp}{E:XK}{us:List Np}{vs:List V}
 (S:cI N ps scope) (hd:A.handled=none) (e0:lN P w K mg base A outer s H) (hl:vs.length=ps.length) (r:au vs us)
 (x:InCallC s s.heap.objs.size (bindL (SI qual scope s.heap.objs.size f cd).kindOf (ps.zip us) fun _=>none) (cellsFrom (s.heap.objs.size+1) scope.names []) (bindC (SI qual scope s.heap.objs.size f cd).kindOf (ps.zip us) fun _=>none) s1) :
 Inv (qD CX P w K mg base N qual scope f cd A outer s H E) [] (start N vs) H s1:=by
 have hpl:ps.length<=N.length:=by have:=congrArg QC S.pre;rw[RI] at this;omega
 obtain ⟨h1,tk,rfl,hk⟩:=x.done
 have noA:∀ b:Addr,b∉(qD CX P w K mg base N qual scope f cd A outer s H E).ex:=fun b z=>absurd (show b∈([]:List Addr) from z) (by simp)
 refine ⟨⟨e0.mod,S.kind,rfl,rfl,Nu _,fun y z c h1 h2=>?_,fun y hy=>?_,fun y c _ h=>?_,fun _=>hd,SS e0.frames,.inr ⟨rfl,rfl⟩,fun b z=>absurd z (noA b),e0.bs,e0.bsz,fun b _ _=>noA b,fun b z=>absurd z (noA b),e0.iw,e0.frf⟩,
  rfl,e0.bare,Un.kept hk,⟨_,x.toInCall.ns,fun i y v h1 h2 h3=>?_⟩,fun y c h=>⟨_,x.cell y c h⟩,e0.hok.fresh (Nu _),fun y c h=>?_,fun p hp=>absurd (show p∈([]:List (Addr×Obj)) from hp) (by simp),e0.hok.kept hk,?_⟩
 ·exact name_of_addr x.apart (OP h1) (OP h2)
 ·have hy:scope.names.lookup y=some .cell\/scope.names.lookup y=some .free:=hy
  rcases hy with hy | hy
  ·exact oX hy
  ·exact absurd rfl (S.nofree _ (OP hy))
 ·exact OI (x.above y c (OP h))
 ·have hi:i < vs.length:=by
   unfold start at h2
   by_cases hi:i < vs.length
   ·exact hi
   ·rw[NY (by simpa using hi)] at h2
    rw[PM] at h2
    split at h2<;>cases h2
  have ha:vs[i]?=some v:=by
   unfold start at h2
   rw[Ny (by simpa using hi),N1] at h2
   cases e:vs[i]? with
   | none=>rw[e] at h2;cases h2
   | some a=>rw[e] at h2;cases h2;rfl
  obtain ⟨u,hu,rv⟩:=r.get ha
  have hp:ps[i]?=some y:=by
   rw[← S.pre,PF (by omega)];exact h1
  have ndP:ps.Nodup:=by rw[← S.pre];exact S.nd.sublist (List.take_sublist _ _)
  refine ⟨u,rv,?_⟩
  rcases S.par y (NJ hp) with k | k
  ·exact .inl ⟨k,mH ndP hp hu k⟩
  ·obtain ⟨c,e⟩:=oX (n:=s.heap.objs.size+1) k
   refine .inr ⟨.inl k,c,e,?_⟩
   have q:=x.cell y c e
   rw[mJ ndP hp hu (by show scope.names.lookup y≠_;rw[k];decide)] at q
   exact q
 ·exact e0.hok.fresh (OI (x.above y c (OP h)))
 ·unfold start
  show _=N.length
  rw[NT,NP,PY]
  omega
theorem G4 {CX:CXT}{P:NG}{w:N2}{K:Nl}{mg:Str->Option Np}{base:Heap}{k:Nat}{f:Addr}{name qual:Str}{params:Pe}{body:List Sk}{scope:NO}{dV kV doc pm cdv ct oc:Np}{an od:Option Addr}
 {osl:Array (Option Np)}{N ps:List Str}{sp:Sp} (lk:K.lookup f=some ⟨oc,od,.func (OS name qual params body scope dV kV doc pm an cdv ct),osl⟩) (hcd:QL K cdv qual=true) (S:cI N ps scope)
 (len:∀ vs H Q E,sp vs H Q E->vs.length=ps.length)
 (hbody:∀ (A:Oz) (outer:List Env) (s:Nr) (H:Hp) (vs:List V) (Q:VK) (E:XK),bR k (A.deeper (SI qual scope s.heap.objs.size f cdv))->sp vs H Q E →
  ∃ t,PSs (qD CX P w K mg base N qual scope f cdv A outer s H E) body t/\t { nx:=fun _ H'=>Q .non H',rt:=Q } (start N vs) H) :
 fT P w K mg base CX (k+1) f (OS name qual params body scope dV kV doc pm an cdv ct) ps sp:=by
 refine ⟨len,fun A outer s H args us vs Q E hr e0 hb r hsp=>?_⟩
 have hl:=len _ _ _ _ hsp
 have KX:K.In s.heap:=e0.mod.kin.keeps fun b o e=>(e0.bs b o e).1
 have lim:s.heap.NoLimit:=e0.mod.nolimit.keeps fun b o e=>(e0.bs b o e).1
 have hkind:∀ y∈ps.zip us,scope.names.lookup y.1=some .local\/(scope.names.lookup y.1=some .cell/\((cellsFrom (s.heap.objs.size+1) scope.names []).lookup y.1).isSome=true):=fun ⟨n,v⟩ hy=>by
  rcases S.par n (QM hy).1 with q | q
  ·exact .inl q
  ·exact .inr ⟨q,Sn _ _ _ (.inl q)⟩
 refine codeAny_call_function hr.depth (KX _ _ lk) rfl S.co S.gen rfl (PySem.W.codeRec_of KX hcd) (hb _ _ _ _ ?_)
 refine wpAny_newFunctionEnv_cells S.kind hkind fun env he s1 x=>?_
 subst he
 refine ⟨lim.keeps x.toInCall.keep,codeAny_func ?_⟩
 obtain ⟨t,ht,hq⟩:=hbody A outer s H vs Q E (hr.deeper _) hsp
 have I:Inv (qD CX P w K mg base N qual scope f cdv A outer s H E) [] (start N vs) H s1:=uL S hr.hd e0 hl r x
 refine wpAny_mono (ht [] s1 (start N vs) H _ I hq) (fun fl s' hs=>?_) fun e s' hs=>hs
 have fin:∀ {σ':St}{H':Hp}{v:V}{u:Np},Inv (qD CX P w K mg base N qual scope f cdv A outer s H E) [] σ' H' s'->RelV v u->Q v H'->CE outer P w H s Q u s' :=
  fun {σ' H' v u} J rv q=>⟨v,H',J.os,J.bare,J.base,J.hok,rv,q⟩
 cases fl with
 | ret u =>
  obtain ⟨v,σ',H',J,rv,q⟩:=hs
  exact fin J rv q
 | next =>
  obtain ⟨σ',H',J,q⟩:=hs
  exact fin (v:=V.non) (u:=P9) J rfl q
 | brk =>
  obtain ⟨_,_,_,q⟩:=hs
  exact Of q
 | cont =>
  obtain ⟨_,_,_,q⟩:=hs
  exact Of q
end L2
namespace L2
open PySem PySem.Spec PyProof.Rows
section
variable {X:Cx}{x:Str}{p pos:Pos}{e:P7}{es:List P7}{t:TA}{id T:String}{r:List V->Hp->VK->Prop}
noncomputable def tCB (r:List V->Hp->VK->Prop) (t:TA):TE:=fun σ H Q=>t σ H fun vs H1=>r vs H1 Q
theorem dY (hc:cC X (.builtin id) r) (hg:Gl X x) (hm:X.mg x=none) (hv:QB x=some (.builtin id)) (ha:PA X (e :: es) t) (hn:x≠"__name__":=by decide) (hdb:(x==("__debug__":Str))=false:=by decide)
 (he:NZ (e :: es) X.env=(false,eval e X.env) :: NZ es X.env:=by rfl) (hpl:(Po pos (NZ es X.env)).any (·.1)=false:=by rfl):PE X (.Call (.Name x p) (e :: es) [] pos) (tCB r t):=by
 intro pins s σ H Q I h
 refine O2 (dX I hg hm hv ?_ hn hdb)
 exact QV (thn (ha pos pins s σ H _ I h) fun us s1 ⟨vs,H1,I1,r1,q1⟩=>hc pins s1 σ H1 vs us Q I1 r1 q1) he hpl
theorem gK (hc:cC X (.type T) r) (hg:Gl X x) (hm:X.mg x=none) (hv:QB x=some (.type T)) (ha:PA X (e :: es) t) (hn:x≠"__name__":=by decide) (hdb:(x==("__debug__":Str))=false:=by decide)
 (he:NZ (e :: es) X.env=(false,eval e X.env) :: NZ es X.env:=by rfl) (hpl:(Po pos (NZ es X.env)).any (·.1)=false:=by rfl):PE X (.Call (.Name x p) (e :: es) [] pos) (tCB r t):=by
 intro pins s σ H Q I h
 refine O2 (dX I hg hm hv ?_ hn hdb)
 exact N8 (thn (ha pos pins s σ H _ I h) fun us s1 ⟨vs,H1,I1,r1,q1⟩=>hc pins s1 σ H1 vs us Q I1 r1 q1) he hpl
end
end L2
namespace HT
open PySem PyProof.Rows
section
open PySem.SeqAt
open PySem.AutoSeq1 (wpAny_loadPart')
open PySem.MeetsSeq PySem.MeetsSeq2 PySem.MeetsSeq3
end
section
variable {prog:NG}{w:N2}{A:Oz}{E:Np->Nr->Prop}{s:Nr}
theorem Aj {t b:Addr}{vs ws:List Np}{Q:Np->Nr->Prop} (ht:IsTup s.heap t vs.toArray) (hb:IsTup s.heap b ws.toArray) (hv:vs≠[])
 (h1:ws=[]->Q (.ref t) s) (h2:ws≠[]->Q (.ref s.heap.objs.size) { s with heap:=s.heap.push { cls:=.type "tuple",data:=.seq (vs++ws).toArray } })
 (hsz:vs.length+ws.length<=sizeLine):wpAny (NR prog w) A (OR .Add (.ref t) (.ref b)) Q E s:=by
 obtain ⟨⟨cls,dd,data,sl⟩,ho,hc,n,hd⟩:=id ht
 obtain ⟨⟨cls2,dd2,data2,sl2⟩,ho2,hc2,n2,hd2⟩:=id hb
 simp only at hc hd hc2 hd2
 subst hc hd hc2 hd2
 have e:vs.toArray++ws.toArray=(vs++ws).toArray:=by simp
 by_cases hw:ws=[]
 ·exact concat_meets ⟨_,ho,rfl⟩ ⟨_,ho2,rfl⟩ Sv Tw Qz Qv (Qm _ _)
   (tuple_addW1 t b vs.toArray ws.toArray n n2 dd dd2 sl sl2 (by simpa using hv) (by simp[hw])) ⟨ho,ho2,h1 hw⟩
 ·refine concat_meets ⟨_,ho,rfl⟩ ⟨_,ho2,rfl⟩ Sv Tw Qz Qv (Qm _ _)
   (tuple_addW2 t b vs.toArray ws.toArray n n2 dd dd2 sl sl2 (by simpa using hv) (by simpa using hw) (by rw[Nv,Nv];exact hsz)) ⟨ho,ho2,?_⟩
  rw[e]
  exact h2 hw
noncomputable def sIx (n d:Nat):Option Int->Nat
 | none=>d
 | some v=>if v < 0 then (v+(n:Int)).toNat else min v.toNat n
theorem DR (n d:Nat) (hd:d<=n) (o:Option Int):sIx n d o<=n:=by
 cases o with
 | none=>exact hd
 | some v =>
  show (if v < 0 then (v+(n:Int)).toNat else min v.toNat n)<=n
  by_cases hv:v < 0
  ·rw[if_pos hv];omega
  ·rw[if_neg hv];exact Nat.min_le_right _ _
theorem rV (v:Int) (n d:Nat):(if v < 0 then max (v+(n:Int)) 0 else min v (n:Int))=((sIx n d (some v):Nat):Int):=by
 show (if v < 0 then max (v+(n:Int)) 0 else min v (n:Int))=(((if v < 0 then (v+(n:Int)).toNat else min v.toNat n):Nat):Int)
 by_cases hv:v < 0
 ·simp only[if_pos hv];omega
 ·simp only[if_neg hv];omega
theorem qE (lo hi:Option Int) (n:Nat):P0 lo hi 1 (n:Int)=(((sIx n 0 lo:Nat):Int),((sIx n n hi:Nat):Int)):=by
 have h1:¬ ((1:Int) < 0):=by omega
 unfold P0
 simp only[h1,if_false]
 refine Prod.ext ?_ ?_
 ·cases lo with
  | none=>rfl
  | some v=>exact rV v n 0
 ·cases hi with
  | none=>rfl
  | some v=>exact rV v n n
theorem qF (i j:Nat):Pb (i:Int) (j:Int) 1=j - i:=by
 unfold Pb
 have h1:(1:Int) > 0:=by omega
 simp only[h1,if_true,Int.ediv_one]
 split<;>omega
theorem kD {v:Np}{o:Option Int}{Q:Option Int->Nr->Prop} (p:Su v o) (h:Q o s):wpAny (NR prog w) A (Builtin.Slice.slicePartIndex v) Q E s:=by
 cases p with
 | none=>exact slicePart_none h
 | int i t=>exact slicePart_int h
theorem fz {sl:Addr}{vl vu:Np}{lo hi:Option Int}{n:Nat}{Q:Int×Int×Nat->Nr->Prop} (hs:s.heap.IsSliceOf sl vl vu .none) (pl:Su vl lo) (pu:Su vu hi)
 (h:Q (((sIx n 0 lo:Nat):Int),1,sIx n n hi - sIx n 0 lo) s):wpAny (NR prog w) A (Q5 (.ref sl) (pure (n:Int))) Q E s:=by
 obtain ⟨os,hos,hcs,hds⟩:=id hs
 unfold Q5 Builtin.Slice.sliceFields
 refine wpAny_bind (wpAny_bind (wpAny_field hos hds (x:=vl) rfl (wpAny_bind (wpAny_field hos hds (x:=vu) rfl (wpAny_bind (wpAny_field hos hds (x:=.none) rfl (wpAny_pure ?_)))))))
 refine wpAny_bind (slicePart_none ?_)
 show wpAny _ _ (if ((1:Int)==0)=true then _ else _) _ _ s
 rw[if_neg (by decide)]
 refine wpAny_bind (kD pl (wpAny_bind (kD pu (wpAny_bind (wpAny_pure ?_)))))
 show wpAny _ _ (match P0 lo hi 1 (n:Int) with | (lo,hi)=>pure (lo,(1:Int),Pb lo hi 1)) _ _ s
 rw[qE lo hi n]
 show wpAny _ _ (pure (((sIx n 0 lo:Nat):Int),(1:Int),Pb ((sIx n 0 lo:Nat):Int) ((sIx n n hi:Nat):Int) 1)) _ _ s
 rw[qF]
 exact wpAny_pure h
theorem wF (xs:Array Np) (i k:Nat):((ND k).filterMap fun (m:Nat)=>xs[((i:Int)+(m:Int)*1).toNat]?).toArray=((xs.toList.drop i).take k).toArray:=by
 have e:(fun (m:Nat)=>xs[((i:Int)+(m:Int)*1).toNat]?)=fun m=>xs[i+m]?:=by
  funext m
  have:((i:Int)+(m:Int)*1).toNat=i+m:=by omega
  rw[this]
 rw[e]
 have:=pick_run xs i k
 rw[List.filterMap_map] at this
 have e2:((fun x=>xs[x]?) ∘ fun x=>i+x)=fun m=>xs[i+m]?:=rfl
 rw[e2] at this
 rw[this]
theorem iU {t sl:Addr}{items:Array Np}{vl vu:Np}{lo hi:Option Int}{Q:Np->Nr->Prop} (ht:IsTup s.heap t items) (hs:s.heap.IsSliceOf sl vl vu .none) (pl:Su vl lo) (pu:Su vu hi)
 (hw:¬ (sIx items.size 0 lo=0/\sIx items.size items.size hi=items.size))
 (h:Q (.ref s.heap.objs.size) { s with heap:=s.heap.push { cls:=.type "tuple",data:=.seq ((items.toList.drop (sIx items.size 0 lo)).take (sIx items.size items.size hi - sIx items.size 0 lo)).toArray } })
 (hsz:items.size<=sizeLine):wpAny (NR prog w) A (R8 (.ref t) (.ref sl)) Q E s:=by
 have htake:sizeOk (.seq ((items.toList.drop (sIx items.size 0 lo)).take (sIx items.size items.size hi - sIx items.size 0 lo)).toArray):=by
  show ((items.toList.drop (sIx items.size 0 lo)).take (sIx items.size items.size hi - sIx items.size 0 lo)).toArray.size<=sizeLine
  rw[Nv,RI,List.length_drop,OF]
  omega
 have hj:sIx items.size items.size hi<=items.size:=DR _ _ (Nu _) hi
 obtain ⟨os,hos,hcs,hds⟩:=id hs
 have hTs:s.TypeIs (.ref sl) "slice":=⟨os,hos,hcs⟩
 unfold R8
 try with_reducible refine OL ?_
 first | refine wpAny_bind (wpAny_pure ?_) | skip
 refine wpAny_bind (wpAny_sequenceKey ht.typeIs (by decide) ?_)
 refine wpAny_bind (Pa (name:=NN "__getitem__") ht.typeIs OT
  (PL OT ht.typeIs entry_tuple_getitem ?_ (args_tuple_getitem _ _)))
 show wpAny _ _ (Q4 (.ref t) >>= _) _ _ s
 refine wpAny_bind (tupleItemsOf_ ht ?_)
 refine wpAny_bind (Qc hTs ?_)
 rw[if_pos (by decide)]
 refine wpAny_bind (fz hs pl pu ?_)
 have hno:¬ ((((sIx items.size 0 lo:Nat):Int)==0&&(1:Int)==1&&(sIx items.size items.size hi - sIx items.size 0 lo)==items.size)=true):=by
  intro q
  rw[Nt,Nt] at q
  have q1:((sIx items.size 0 lo:Nat):Int)=0:=eq_of_beq q.1.1
  have q2:sIx items.size items.size hi - sIx items.size 0 lo=items.size:=eq_of_beq q.2
  exact hw ⟨by omega,by omega⟩
 show wpAny _ _ (if (((sIx items.size 0 lo:Nat):Int)==0&&(1:Int)==1&&(sIx items.size items.size hi - sIx items.size 0 lo)==items.size)=true then _ else _) _ _ s
 rw[if_neg hno,wF]
 first
  | exact wpAny_bind (m:=Pk _) (Oc (wpAny_pure ⟨_,rfl,wpAny_pure h⟩) htake)
  | exact wpAny_bind (m:=Pk _) (Oc (wpAny_bind (wpAny_pure (wpAny_pure ⟨_,rfl,wpAny_pure h⟩))) htake)
  | exact wpAny_bind (wpAny_bind (m:=Pk _) (Oc (wpAny_pure (wpAny_pure ⟨_,rfl,wpAny_pure h⟩)) htake))
  | exact wpAny_bind (wpAny_bind (m:=Pk _) (Oc (wpAny_pure ⟨_,rfl,wpAny_pure h⟩) htake))
end
end HT
namespace L2
open PySem PySem.Spec PyProof.Rows
noncomputable abbrev TO:=St->Hp->(Option Int->Hp->Prop)->Prop
noncomputable def PO (X:Cx) (e:Option P7) (t:TO):Prop :=
 ∀ (pins:List (Addr×Obj)) (s:Nr) (σ:St) (H:Hp) (Q:Option Int->Hp->Prop),Inv X pins σ H s->t σ H Q →
  wpAny (NR X.prog X.w) X.A (evalPart e X.env) (fun u s'=>∃ o H',Inv X pins σ H' s'/\Su u o/\Q o H') X.xe s
noncomputable def Ak:TO:=fun _ H Q=>Q none H
noncomputable def G5 (t:TE):TO:=fun σ H Q=>t σ H fun x H1=>∃ i,x=.int i/\Q (some i) H1
theorem intsAre_of {ns:List Int}:∀ {us:List Np},au (ns.map V.int) us->Qw us ns:=by
 induction ns with
 | nil=>intro us r;rw[Pi] at r;cases r;exact .nil
 | cons n ns ih =>
  intro us r
  rw[NW] at r
  cases r with
  | cons r1 r2 =>
   obtain ⟨t,e⟩:=r1
   subst e
   exact .cons n t (ih r2)
section
variable {X:Cx}{e:P7}{te:TE}{lo hi:Option P7}{tl th:TO}{pos p2:Pos}
theorem Al:PO X none Ak:=by
 intro pins s σ H Q I h
 rw[Tz]
 exact wpAny_pure ⟨none,H,I,.none,h⟩
theorem Am (h:PE X e te):PO X (some e) (G5 te):=by
 intro pins s σ H Q I hw
 rw[evalPart_some]
 refine thn (h pins s σ H _ I hw) fun u s1 zq=>?_
 obtain ⟨x,H1,I1,r1,q1⟩:=zq
 obtain ⟨i,rfl,q⟩:=q1
 obtain ⟨t,rfl⟩:=r1
 exact ⟨some i,H1,I1,.int i t,q⟩
noncomputable def SlR (X:Cx) (r:V->Option Int->Option Int->Hp->VK->Prop):Prop :=
 ∀ (pins:List (Addr×Obj)) (s:Nr) (σ:St) (H:Hp) (x:V) (v vl vu:Np) (lo hi:Option Int) (sl:Addr) (Q:VK),Inv X pins σ H s->RelV x v->s.heap.IsSliceOf sl vl vu .none->Su vl lo->Su vu hi->r x lo hi H Q →
  ∃ T id,typeLookup (.type T) "__getitem__"=pure (some (.builtin id))/\s.TypeIs v T/\wpAny (NR X.prog X.w) X.A (R8 v (.ref sl)) (EP X pins σ Q) X.xe s
noncomputable def tSl (r:V->Option Int->Option Int->Hp->VK->Prop) (te:TE) (tl th:TO):TE:=fun σ H Q=>te σ H fun x H1=>tl σ H1 fun l H2=>th σ H2 fun u H3=>r x l u H3 Q
theorem wG {r:V->Option Int->Option Int->Hp->VK->Prop} (hr:SlR X r) (he:PE X e te) (hl:PO X lo tl) (hu:PO X hi th):PE X (.Subscript e (.Slice lo hi none p2) pos) (tSl r te tl th):=by
 intro pins s σ H Q I h
 refine Subscript_ (thn (he pins s σ H _ I h) fun v s1 zq=>?_)
 obtain ⟨x,H1,I1,r1,q1⟩:=zq
 refine wpAny_Slice (thn (hl pins s1 σ H1 _ I1 q1) fun vl s2 ⟨l,H2,I2,pl,q2⟩=>thn (hu pins s2 σ H2 _ I2 q2) fun vu s3 zq=>?_)
 obtain ⟨u,H3,I3,pu,q3⟩:=zq
 rw[Tz]
 refine wpAny_pure ?_
 have I4:Inv X pins σ H3 { s3 with heap:=s3.heap.push { cls:=.type "slice",data:=.fields #[vl,vu,.none] } }:=I3.kept (t':=s3.toks) fun b ob q=>Nq _ q
 obtain ⟨T,id,hT,ht,hg⟩:=hr pins { s3 with heap:=s3.heap.push { cls:=.type "slice",data:=.fields #[vl,vu,.none] } } σ H3 x v vl vu l u s3.heap.objs.size Q I4 r1 (RQ ..) pl pu q3
 show wpAny (NR X.prog X.w) X.A (Tv e (.Slice lo hi none p2) v (.ref s3.heap.objs.size)) (EP X pins σ Q) X.xe { s3 with heap:=s3.heap.push { cls:=.type "slice",data:=.fields #[vl,vu,.none] } }
 exact tail_any (ops:=[.ref s3.heap.objs.size,v]) ht hT hg (by with_unfolding_all rfl)
noncomputable def oY (xs:List V) (lo hi:Option Int):List V:=(xs.drop (HT.sIx xs.length 0 lo)).take (HT.sIx xs.length xs.length hi - HT.sIx xs.length 0 lo)
theorem jK (xs:List V) (lo hi:Option Int):(oY xs lo hi).length<=xs.length:=by
 unfold oY
 rw[RI,List.length_drop]
 omega
noncomputable def K4 (K:Nl):V->Option Int->Option Int->Hp->VK->Prop:=fun x lo hi H Q=>∃ a xs,x=.ref a/\SqT K H a xs ∧
 ¬ (HT.sIx xs.length 0 lo=0/\HT.sIx xs.length xs.length hi=xs.length)/\∀ p,H p=none->Q (.ref p) (upd H p (.tup (oY xs lo hi)))
theorem DS:SlR X (K4 X.K):=by
 intro pins s σ H x v vl vu lo hi sl Q I rx hs pl pu h
 obtain ⟨a,xs,rfl,hx,hw,q⟩:=h
 cases rx
 obtain ⟨its,r,ht,hz⟩:=I.tuple hx
 have hlen:its.toArray.size=xs.length:=by rw[Nv];exact r.length.symm
 refine ⟨"tuple",_,PyProof.Rows.slot_tuple_getitem.lookup,ht.typeIs,?_⟩
 refine HT.iU ht hs pl pu (by rw[hlen];exact hw) ?_ (by rw[hlen];exact hz)
 rw[hlen]
 refine ⟨.ref s.heap.objs.size,_,I.laid (t':=s.toks) (o:=.tup (oY xs lo hi)) (fun b ob q=>Nq _ q) (Nu _) ?_,rfl,q _ (I.hok.fresh (Nu _))⟩
 exact ⟨Oj (jK xs lo hi) hz,_,(r.drop (HT.sIx xs.length 0 lo)).take (HT.sIx xs.length xs.length hi - HT.sIx xs.length 0 lo),IsTup.new _ _⟩
noncomputable def G6 (K:Nl):R2:=fun x y H Q=>∃ a b xs ys,x=.ref a/\y=.ref b/\SqT K H a xs/\SqT K H b ys/\xs≠[]/\xs.length+ys.length<=sizeLine ∧
 (ys=[]->Q (.ref a) H)/\(ys≠[]->∀ p,H p=none->Q (.ref p) (upd H p (.tup (xs++ys))))
theorem au.iV {xs:List V}{us:List Np} (r:au xs us):us=[]↔xs=[]:=by
 cases r with
 | nil=>simp
 | cons _ _=>simp
theorem An:OpR X (OR .Add) (G6 X.K):=by
 intro pins s σ H x y v u Q I rx ry h
 obtain ⟨a,b,xs,ys,rfl,rfl,ha,hb,hx,hz,q1,q2⟩:=h
 cases rx
 cases ry
 obtain ⟨its,r1,p1,_⟩:=I.tuple ha
 obtain ⟨its2,r2,p2,_⟩:=I.tuple hb
 refine HT.Aj p1 p2 (fun z=>hx (r1.iV.mp z)) (fun z=>⟨.ref a,H,I,rfl,q1 (r2.iV.mp z)⟩) (fun z=>?_) (by rw[← r1.length,← r2.length];exact hz)
 refine ⟨.ref s.heap.objs.size,_,I.laid (t':=s.toks) (o:=.tup (xs++ys)) (fun b ob q=>Nq _ q) (Nu _) ?_,rfl,q2 (fun w=>z (r2.iV.mpr w)) _ (I.hok.fresh (Nu _))⟩
 exact ⟨by rw[NT];exact hz,_,r1.append r2,IsTup.new _ _⟩
end
end L2
namespace L2
open PySem PySem.Spec PyProof.Rows
noncomputable def ixN (n:Nat) (i:Int):Option Nat:=if 0<=i then (if i < n then some i.toNat else none) else if -(n:Int)<=i then some (i+n).toNat else none
noncomputable def atI {α:Type} (xs:List α) (i:Int):Option α:=(ixN xs.length i).bind fun j=>xs[j]?
theorem rW {n:Nat}{i:Int}{j:Nat} (h:ixN n i=some j):seqIndex? i n=some j/\j < n/\-(n:Int)<=i/\i < n:=by
 unfold ixN at h
 by_cases h0:0<=i
 ·rw[if_pos h0] at h
  by_cases h1:i < n
  ·rw[if_pos h1] at h
   have e:i.toNat=j:=NH h
   exact ⟨by rw[seqIndex_of h0 h1,e],by omega,by omega,h1⟩
  ·rw[if_neg h1] at h;cases h
 ·rw[if_neg h0] at h
  by_cases h1:-(n:Int)<=i
  ·rw[if_pos h1] at h
   have e:(i+n).toNat=j:=NH h
   exact ⟨by rw[seqIndex_neg (by omega) h1,e],by omega,h1,by omega⟩
  ·rw[if_neg h1] at h;cases h
theorem nq {α:Type}{xs:List α}{i:Int}{v:α} (h:atI xs i=some v):∃ j,seqIndex? i xs.length=some j/\xs[j]?=some v/\j < xs.length/\-(xs.length:Int)<=i/\i < xs.length:=by
 unfold atI at h
 cases e:ixN xs.length i with
 | none=>rw[e] at h;cases h
 | some j =>
  rw[e] at h
  obtain ⟨h1,h2,h3,h4⟩:=rW e
  exact ⟨j,h1,h,h2,h3,h4⟩
noncomputable def rX (b:P7):Prop:=∀ o i,subscripted b false o i=operate [o,i] (R8 o i)
noncomputable def IxR (X:Cx) (r:R2):Prop :=
 ∀ (value slice:P7) (pins:List (Addr×Obj)) (s:Nr) (σ:St) (H:Hp) (x y:V) (v u:Np) (Q:VK),Inv X pins σ H s->RelV x v->RelV y u->r x y H Q →
  subscripted slice false v u=operate [v,u] (R8 v u)->wpAny (NR X.prog X.w) X.A (Tv value slice v u) (EP X pins σ Q) X.xe s
noncomputable def MtR (X:Cx) (id:String) (r:V->List V->Hp->VK->Prop):Prop :=
 ∀ (pins:List (Addr×Obj)) (s:Nr) (σ:St) (H:Hp) (x:V) (xs:List V) (v:Np) (us:List Np) (Q:VK),Inv X pins σ H s->RelV x v->au xs us->r x xs H Q →
  wpAny (NR X.prog X.w) X.A (call (.builtin id) (v :: us)) (EP X pins σ Q) X.xe s
section
variable {X:Cx}{a b:P7}{ta tb:TE}{pos:Pos}
theorem G7 {r:R2} (hr:IxR X r) (ha:PE X a ta) (hb:PE X b tb) (hs:rX b):PE X (.Subscript a b pos) (tOp r ta tb):=by
 intro pins s σ H Q I h
 exact Subscript_ (DF ha hb I h fun v u s2 x y H2 I2 rx ry q=>hr a b pins s2 σ H2 x y v u Q I2 rx ry q (hs _ _))
noncomputable def K5 (K:Nl):R2:=fun x y H Q=>∃ p xs i v,x=.ref p/\y=.int i/\SqL K H p xs/\atI xs i=some v/\Q v H
noncomputable def K6 (K:Nl):R2:=fun x y H Q=>∃ p xs i v,x=.ref p/\y=.int i/\SqT K H p xs/\atI xs i=some v/\Q v H
noncomputable def K7:R2:=fun x y H Q=>∃ z i c,x=.str z/\y=.int i/\z.length<=sizeLine/\atI z.cps.toList i=some c/\Q (.str ⟨#[c]⟩) H
theorem Ao:IxR X (K5 X.K):=by
 intro value slice pins s σ H x y v u Q I rx ry h hs
 obtain ⟨p,xs,i,z,rfl,rfl,hq,he,q⟩:=h
 cases rx
 obtain ⟨t,rfl⟩:=ry
 obtain ⟨its,r,pl,hz⟩:=I.list hq
 obtain ⟨j,h1,h2,h3,h4,h5⟩:=nq he
 obtain ⟨w,ew,rw'⟩:=r.get h2
 have hl:=r.length
 have hn:=jt
 have fin:EP X pins σ Q w s:=⟨z,H,I,rw',q⟩
 by_cases h0:0<=i
 ·have hj:i.toNat=j:=by
   rw[seqIndex_of h0 h5] at h1
   exact NH h1
  exact item_listR pl.isList h0 (by omega) (by rw[hj];simpa using ew) fin hs
 ·have hj:(i+(its.toArray.size:Int)).toNat=j:=by
   rw[seqIndex_neg (by omega) h4] at h1
   rw[Nv,← hl]
   exact NH h1
  exact subscriptTail_builtinR (x:=w) pl.isList.typeIs slot_list_getitem.lookup
   (wpAny_getItem_list_neg (Q:=fun r s'=>r=w/\EP X pins σ Q r s') pl.isList (by omega) (by rw[Nv]<;>omega) (by omega) (by rw[hj];simpa using ew) ⟨rfl,fin⟩) hs
theorem DT:IxR X (K6 X.K):=by
 intro value slice pins s σ H x y v u Q I rx ry h hs
 obtain ⟨p,xs,i,z,rfl,rfl,hq,he,q⟩:=h
 cases rx
 obtain ⟨t,rfl⟩:=ry
 obtain ⟨its,r,pl,hz⟩:=I.tuple hq
 obtain ⟨j,h1,h2,h3,h4,h5⟩:=nq he
 obtain ⟨w,ew,rw'⟩:=r.get h2
 have hl:=r.length
 have hn:=jt
 have fin:EP X pins σ Q w s:=⟨z,H,I,rw',q⟩
 exact subscriptTail_builtinR (x:=w) pl.typeIs slot_tuple_getitem.lookup
  (getItem_tuple (j:=j) (Q:=fun r s'=>r=w/\EP X pins σ Q r s') pl (by omega) (by omega) (by rw[Nv,← hl];exact h1) (by simpa using ew) ⟨rfl,fin⟩) hs
theorem DU:IxR X K7:=by
 intro value slice pins s σ H x y v u Q I rx ry h hs
 obtain ⟨z,i,c,rfl,rfl,hz,he,q⟩:=h
 obtain ⟨t,rfl⟩:=rx
 obtain ⟨t',rfl⟩:=ry
 obtain ⟨j,h1,h2,h3,h4,h5⟩:=nq he
 have hl:z.cps.toList.length=z.length:=by simp[Str.length]
 rw[hl] at h1 h4 h5
 have hn:=jt
 exact tail_any (typeIs_str s z t) slot_str_getitem.lookup (getItem_str (c:=c) (by
  have e1:decide (i < -(2 ^ 63:Int))=false:=decide_eq_false (by omega)
  have e2:decide (i ≥ 2 ^ 63)=false:=decide_eq_false (by omega)
  rw[e1,e2,Ro]) (by rw[h1];simpa using h2) ⟨.str ⟨#[c]⟩,H,I.tok _,⟨_,rfl⟩,q⟩) hs
theorem qG (its:List Np) (n j:Nat) (u:Np):Pr (·.setIfInBounds j u) { cls:=.type "list",data:=.seq its.toArray n }={ cls:=.type "list",data:=.seq (its.set j u).toArray n }:=by
 simp[Pr]
theorem Inv.lst {pins:List (Addr×Obj)}{σ:St}{H:Hp}{s:Nr}{p:Addr}{xs:List V} (I:Inv X pins σ H s) (h:H p=some (.lst xs)) :
 ∃ (its:List Np) (n:Nat),au xs its/\s.heap.get? p=some { cls:=.type "list",data:=.seq its.toArray n }/\xs.length<=sizeLine:=by
 obtain ⟨z,its,n,r,e⟩:=I.hok p _ h
 exact ⟨its,n,r,e,z⟩
theorem Inv.DV {pins:List (Addr×Obj)}{σ:St}{H:Hp}{s:Nr}{p:Addr}{xs ys:List V}{its its':List Np}{n n':Nat}{f:Obj->Obj} (I:Inv X pins σ H s) (h:H p=some (.lst xs))
 (ho:s.heap.get? p=some { cls:=.type "list",data:=.seq its.toArray n }) (hf:f { cls:=.type "list",data:=.seq its.toArray n }={ cls:=.type "list",data:=.seq its'.toArray n' }) (r:au ys its') (hz:ys.length<=sizeLine) (t:Nat) :
 Inv X pins σ (upd H p (.lst ys)) { s with heap:=s.heap.update p f,toks:=t }:=by
 have e:(s.heap.update p f).get? p=some { cls:=.type "list",data:=.seq its'.toArray n' }:=by
  rw[Od f ho (by rw[hf]<;>rfl),hf]
 refine I.write (x:=p) (e:=p) (by rw[h];trivial) (.inl rfl) (fun b u hb q=>(O8 _ _ (Os hb)).trans q) ⟨_,e⟩ ?_
 exact ⟨hz,its',n',r,e⟩
noncomputable def CW:V->V->V->Hp->(Hp->Prop)->Prop:=fun o i v H Q=>∃ p xs k j,o=.ref p/\i=.int k/\H p=some (.lst xs)/\ixN xs.length k=some j/\Q (upd H p (.lst (xs.set j v)))
theorem set_list:GO X CW:=by
 intro pins s σ H o i v ov iv u Q I ro ri rv h
 obtain ⟨p,xs,k,j,rfl,rfl,hp,hj,q⟩:=h
 cases ro
 obtain ⟨t,rfl⟩:=ri
 obtain ⟨its,n,r,ho,hz⟩:=I.lst hp
 obtain ⟨h1,h2,h3,h4⟩:=rW hj
 have hl:=r.length
 have hn:=jt
 have I':Inv X pins σ (upd H p (.lst (xs.set j v))) { s with heap:=s.heap.update p (Pr (·.setIfInBounds j u)) } :=
  I.DV hp ho (qG its n j u) (r.set rv j) (by rw[List.length_set];exact hz) s.toks
 by_cases h0:0<=k
 ·have hk:k.toNat=j:=by
   rw[seqIndex_of h0 h4] at h1
   exact NH h1
  exact PySem.W.ki_setAt ho h0 (by omega) (by rw[Nv,← hl];exact h4) (by rw[hk];exact ⟨_,I',q⟩)
 ·have hk:(k+(its.toArray.size:Int)).toNat=j:=by
   rw[seqIndex_neg (by omega) h3] at h1
   rw[Nv,← hl]
   exact NH h1
  exact PySem.W.ki_setBack ho (by omega) (by rw[Nv,← hl];exact h3) (by omega) (by rw[hk];exact ⟨_,I',q⟩)
theorem nu (lo hi:Option Int) (n:Nat):(N4 lo hi none n).1=((HT.sIx n 0 lo:Nat):Int)/\(N4 lo hi none n).2.1=((HT.sIx n n hi:Nat):Int)/\(N4 lo hi none n).2.2=1:=by
 refine ⟨?_,?_,rfl⟩
 ·cases lo with
  | none=>simp[N4,HT.sIx]
  | some i =>
   simp only[N4,HT.sIx,TQ,show (1:Int) > 0 by decide,if_true]
   by_cases h:i < 0
   ·simp only[h,if_true]<;>omega
   ·simp only[h,if_false]<;>omega
 ·cases hi with
  | none=>simp[N4,HT.sIx]
  | some i =>
   simp only[N4,HT.sIx,TQ,show (1:Int) > 0 by decide,if_true]
   by_cases h:i < 0
   ·simp only[h,if_true]<;>omega
   ·simp only[h,if_false]<;>omega
theorem lO (its:List Np) (lo hi:Option Int):slicePick its.toArray lo hi none=((its.drop (HT.sIx its.length 0 lo)).take (HT.sIx its.length its.length hi - HT.sIx its.length 0 lo)).toArray:=by
 obtain ⟨h1,h2,h3⟩:=nu lo hi its.toArray.size
 unfold slicePick
 rw[h1,h2,h3]
 simp only[sliceRange_one,pick_run,Nv]<;>rfl
noncomputable def K8 (K:Nl):V->Option Int->Option Int->Hp->VK->Prop:=fun x lo hi H Q=>∃ a xs,x=.ref a/\SqL K H a xs/\∀ p,H p=none->Q (.ref p) (upd H p (.lst (oY xs lo hi)))
theorem Aq:SlR X (K8 X.K):=by
 intro pins s σ H x v vl vu lo hi sl Q I rx hs pl pu h
 obtain ⟨a,xs,rfl,hx,q⟩:=h
 cases rx
 obtain ⟨its,r,ht,hz⟩:=I.list hx
 have hlen:=r.length
 refine ⟨"list",_,slot_list_getitem.lookup,ht.isList.typeIs,?_⟩
 refine Tg ht.isList hs pl pu .none (by simp) ?_ (by rw[Nv]<;>omega)
 rw[lO,← hlen]
 refine ⟨.ref s.heap.objs.size,_,I.laid (t':=s.toks) (o:=.lst (oY xs lo hi)) (fun b ob q=>Nq _ q) (Nu _) ?_,rfl,q _ (I.hok.fresh (Nu _))⟩
 exact ⟨Oj (jK xs lo hi) hz,_,0,(r.drop (HT.sIx xs.length 0 lo)).take (HT.sIx xs.length xs.length hi - HT.sIx xs.length 0 lo),Nz _ rfl⟩
theorem iW:cC X (.builtin "len") (fun xs H Q=>∃ p ys,xs=[.ref p]/\(SqL X.K H p ys\/SqT X.K H p ys)/\Q (.int ys.length) H):=by
 intro pins s σ H xs us Q I r h
 obtain ⟨p,ys,rfl,hq,q⟩:=h
 obtain ⟨u,rfl,rx⟩:=vals1 r
 cases rx
 have hn:=jt
 rcases hq with hq | hq
 ·obtain ⟨its,r',pl,hz⟩:=I.list hq
  have hlen:=r'.length
  exact Calls.call_len_list pl.isList (by simp only[Nv]<;>omega) ⟨.int ys.length,H,I.tok _,⟨s.toks+1,by rw[Nv,hlen]⟩,q⟩
 ·obtain ⟨its,r',pl,hz⟩:=I.tuple hq
  have hlen:=r'.length
  exact len_tuple pl (by simp only[Nv]<;>omega) ⟨.int ys.length,H,I.tok _,⟨s.toks+1,by rw[Nv,hlen]⟩,q⟩
theorem nv:cC X (.builtin "len") (fun xs H Q=>∃ z,xs=[.str z]/\z.length<=sizeLine/\Q (.int z.length) H):=by
 intro pins s σ H xs us Q I r h
 obtain ⟨z,rfl,hz,q⟩:=h
 obtain ⟨u,rfl,t,rfl⟩:=vals1 r
 have hn:=jt
 exact len_str (by omega) ⟨.int z.length,H,I.tok _,⟨_,rfl⟩,q⟩
theorem iX:cC X (.type "list") (fun xs H Q=>∃ p ys,xs=[.ref p]/\(SqL X.K H p ys\/SqT X.K H p ys)/\∀ l,H l=none->Q (.ref l) (upd H l (.lst ys))):=by
 intro pins s σ H xs us Q I r h
 obtain ⟨p,ys,rfl,hq,q⟩:=h
 obtain ⟨u,rfl,rx⟩:=vals1 r
 cases rx
 have fin:∀ (its:List Np),au ys its->ys.length<=sizeLine->∀ (h':Heap) (c':Nat),(∀ b o',s.heap.get? b=some o'->h'.get? b=some o') →
  h'.get? s.heap.objs.size=some { cls:=.type "list",dict:=none,data:=.seq its.toArray c',slots:=#[] }->EP X pins σ Q (.ref s.heap.objs.size) { s with heap:=h' }:=fun its r' hz h' c' kp e =>
  ⟨.ref s.heap.objs.size,_,I.laid (t':=s.toks) kp (Nu _) (show dW X.prog X.w _ h' _ (.lst ys) from ⟨hz,its,c',r',e⟩),rfl,q _ (I.hok.fresh (Nu _))⟩
 rcases hq with hq | hq
 ·obtain ⟨its,r',pl,hz⟩:=I.list hq
  have hlen:=r'.length
  obtain ⟨o,ho,hc,n,hd⟩:=pl.isList
  exact call_list_seq p (.inl rfl) ho hc hd (fun h' c' kp e=>fin its r' hz h' c' kp e) (by simp only[Nv]<;>omega)
 ·obtain ⟨its,r',pl,hz⟩:=I.tuple hq
  have hlen:=r'.length
  obtain ⟨o,ho,hc,n,hd⟩:=pl
  exact call_list_seq p (.inr rfl) ho hc hd (fun h' c' kp e=>fin its r' hz h' c' kp e) (by simp only[Nv]<;>omega)
theorem gX:cC X (.type "tuple") (fun xs H Q=>∃ p ys,xs=[.ref p]/\((SqL X.K H p ys/\∀ l,H l=none->Q (.ref l) (upd H l (.tup ys)))\/(SqT X.K H p ys/\Q (.ref p) H))):=by
 intro pins s σ H xs us Q I r h
 obtain ⟨p,ys,rfl,h⟩:=h
 obtain ⟨u,rfl,rx⟩:=vals1 r
 cases rx
 rcases h with ⟨hq,q⟩ | ⟨hq,q⟩
 ·obtain ⟨its,r',pl,hz⟩:=I.list hq
  have hlen:=r'.length
  refine call_tuple_list pl.isList (fun h' kp=>?_) (by simp only[Nv]<;>omega)
  have I1:Inv X pins σ H { s with heap:=h' }:=I.kept (t':=s.toks) kp
  have I2:Inv X pins σ (upd H h'.objs.size (.tup ys)) { s with heap:=h'.push { cls:=.type "tuple",data:=.seq its.toArray } } :=
   I1.laid (t':=s.toks) (fun b o e=>Nq _ e) (Nu _) (show dW X.prog X.w _ _ _ (.tup ys) from ⟨hz,its,r',IsTup.new _ _⟩)
  exact ⟨.ref h'.objs.size,_,I2,rfl,q _ (I1.hok.fresh (Nu _))⟩
 ·obtain ⟨its,r',pl,hz⟩:=I.tuple hq
  exact call_tuple_same pl ⟨.ref p,H,I,rfl,q⟩
noncomputable def tyV (K:Nl) (T:String) (x:V) (H:Hp):Prop:=match x with
 | .str _=>T="str"
 | .int _=>T="int"
 | .ref p=>(T="list"/\∃ xs,SqL K H p xs)\/(T="tuple"/\∃ o,K.lookup p=some o/\o.cls=.type "tuple"/\o.dict=none) ∨
  (T="dict"/\((∃ kvs,H p=some (.dK kvs))\/∃ kvs,H p=some (.dT kvs)))\/(T="set"/\∃ S n,H p=some (.set S n))
 | _=>False
theorem wH {pins:List (Addr×Obj)}{σ:St}{H:Hp}{s:Nr}{T:String}{x:V}{v:Np} (I:Inv X pins σ H s) (r:RelV x v) (ty:tyV X.K T x H) :
 s.TypeIs v T/\∀ a,v=.ref a->∃ ob,s.heap.get? a=some ob/\ob.dict=none:=by
 cases x with
 | str z =>
  obtain ⟨t,rfl⟩:=r
  cases (show T="str" from ty)
  exact ⟨typeIs_str s z t,fun _ e=>nomatch e⟩
 | int i =>
  obtain ⟨t,rfl⟩:=r
  cases (show T="int" from ty)
  exact ⟨typeIs_int s i t,fun _ e=>nomatch e⟩
 | ref p =>
  cases r
  rcases ty with ⟨rfl,xs,hq⟩ | ⟨rfl,o,hk,hc,hd⟩ | ⟨rfl,hk⟩ | ⟨rfl,S,n,hk⟩
  ·obtain ⟨its,_,pl,_⟩:=I.list hq
   refine ⟨pl.isList.typeIs,fun a e=>?_⟩
   cases e
   obtain ⟨o,n,e,c,hd,_⟩:=pl
   exact ⟨o,e,hd⟩
  ·refine ⟨⟨o,I.kIn p o hk,hc⟩,fun a e=>?_⟩
   cases e
   exact ⟨o,I.kIn _ o hk,hd⟩
  ·have z:∃ o,s.heap.get? p=some o/\o.ExactDict:=by
    rcases hk with ⟨kvs,hk⟩ | ⟨kvs,hk⟩
    ·obtain ⟨_,_,_,_,o,_,_,e,ex,_⟩:=I.hok p _ hk
     exact ⟨o,e,ex⟩
    ·obtain ⟨_,_,_,_,o,_,_,e,ex,_⟩:=I.hok p _ hk
     exact ⟨o,e,ex⟩
   obtain ⟨o,e,ex⟩:=z
   refine ⟨⟨o,e,ex.1⟩,fun a e2=>?_⟩
   cases e2
   exact ⟨o,e,ex.2.1⟩
  ·obtain ⟨o,_,_,_,e,ex,_⟩:=I.hok p _ hk
   refine ⟨⟨o,e,ex.1⟩,fun a e2=>?_⟩
   cases e2
   exact ⟨o,e,ex.2.1⟩
 | _=>exact Of ty
noncomputable def K9 (K:Nl) (T:String) (r:V->List V->Hp->VK->Prop) (to:TE):TE:=fun σ H Q=>to σ H fun x H1=>tyV K T x H1/\r x [] H1 Q
noncomputable def tBM (K:Nl) (T:String) (r:V->List V->Hp->VK->Prop) (to:TE) (t:TA):TE:=fun σ H Q=>to σ H fun x H1=>tyV K T x H1/\t σ H1 fun xs H2=>r x xs H2 Q
variable {o e:P7}{es:List P7}{to:TE}{t:TA}{name:Str}{apos cpos:Pos}{T id:String}{r:V->List V->Hp->VK->Prop}
theorem DW (pa:PlainAttrs T) (slot:Slot T name id) (hty:typeOf (.builtin id)=pure (.type "method_descriptor")) (hm:MtR X id r) (ho:PE X o to)
 (hbase:QO o name X.env (eval o X.env)=eval o X.env:=by rfl) (hline:(apos.endLine==cpos.line)=true:=by rfl):PE X (.Call (.Attribute o name apos) [] [] cpos) (K9 X.K T r to):=by
 intro pins s σ H Q I h
 refine wpAny_Call_method0_late hbase hline (thn (ho pins s σ H _ I h) fun v s1 zq=>?_)
 obtain ⟨x,H1,I1,r1,ty,q1⟩:=zq
 obtain ⟨h1,h2⟩:=wH I1 r1 ty
 exact ⟨T,id,pa,slot,hty,h1,h2,SD rfl (PySem.evalArgs_none (hm pins s1 σ H1 x [] v [] Q I1 r1 .nil q1))⟩
theorem CY (pa:PlainAttrs T) (slot:Slot T name id) (hty:typeOf (.builtin id)=pure (.type "method_descriptor")) (hm:MtR X id r) (ho:PE X o to) (ha:PA X (e :: es) t)
 (hbase:QO o name X.env (eval o X.env)=eval o X.env:=by rfl)
 (hfew:((Po cpos (NZ (e :: es) X.env)).all (fun x=>!x.1)&&(Rk cpos (P1 [] X.env)).all (fun x=>x.1.isSome)
 &&decide ((e :: es).length+([]:List RE).length+(if ([]:List RE).isEmpty then 0 else 1) < 30))=true:=by rfl)
 (hline:(apos.endLine==cpos.line)=true:=by rfl) (hs:NZ (e :: es) X.env=(false,eval e X.env) :: NZ es X.env:=by rfl) (hplain:(Po cpos (NZ es X.env)).any (·.1)=false:=by rfl) :
 PE X (.Call (.Attribute o name apos) (e :: es) [] cpos) (tBM X.K T r to t):=by
 intro pins s σ H Q I h
 refine wpAny_Call_method_late hbase hfew hline rfl (thn (ho pins s σ H _ I h) fun v s1 zq=>?_)
 obtain ⟨x,H1,I1,r1,ty,q1⟩:=zq
 obtain ⟨h1,h2⟩:=wH I1 r1 ty
 refine ⟨T,id,pa,slot,hty,h1,h2,?_⟩
 have hA:=ha cpos pins s1 σ H1 _ I1 q1
 rw[hs] at hA ⊢
 refine SD (by show (false||(Po cpos (NZ es X.env)).any (·.1))=false;rw[hplain]<;>rfl) (Calls.evalArgs_plain ?_)
 exact thn hA fun us s2 ⟨vs,H2,I2,r2,q2⟩=>hm pins s2 σ H2 x vs v us Q I2 r1 r2 q2
/- xs.append(e),list.index on a module's tuple .. are MtR facts of 06m -/
end
end L2
namespace L2
open PySem PySem.Spec PyProof.Rows
noncomputable def MtM (X:Cx) (id:String) (r:V->List V->Hp->VK->Prop):Prop :=
 ∀ (pins:List (Addr×Obj)) (s:Nr) (σ:St) (H:Hp) (x:V) (xs:List V) (v:Np) (us:List Np) (Q:VK),Inv X pins σ H s->RelV x v->au xs us->r x xs H Q →
  wpAny (NR X.prog X.w) X.A (call (.builtin id) (v :: us)) (EP X pins σ Q) X.xe s
theorem au.one {x:V}{us:List Np} (h:au [x] us):∃ u,us=[u]/\RelV x u:=by
 cases h with | cons r t=>cases t;exact ⟨_,rfl,r⟩
theorem au.two {x y:V}{us:List Np} (h:au [x,y] us):∃ u v,us=[u,v]/\RelV x u/\RelV y v:=by
 cases h with | cons r t=>obtain ⟨v,rfl,q⟩:=au.one t;exact ⟨_,v,rfl,r,q⟩
theorem au.zero:∀ {us:List Np},au [] us->us=[]
 | _,.nil=>rfl
theorem au.dropLast {xs:List V}{us:List Np} (h:au xs us):au xs.dropLast us.dropLast:=by
 induction h with
 | nil=>exact .nil
 | cons r t ih =>
  cases t with
  | nil=>exact .nil
  | cons q t'=>exact .cons r ih
theorem au.rep {xs:List V}{us:List Np} (h:au xs us):∀ k:Nat,au (NQ k xs).flatten (NQ k us).flatten
 | 0=>.nil
 | k+1=>by
  rw[OQ,OQ,Pp,Pp]
  exact au.append h (au.rep h k)
theorem qH {α:Type} (l:List α):l.eraseIdx (l.length - 1)=l.dropLast:=by
 induction l with
 | nil=>rfl
 | cons a r ih =>
  cases r with
  | nil=>rfl
  | cons b r =>
   have e:(a :: b :: r).length - 1=((b :: r).length - 1)+1:=by
    have h1:(a :: b :: r).length=r.length+2:=rfl
    have h2:(b :: r).length=r.length+1:=rfl
    omega
   rw[e,List.eraseIdx_cons_succ,ih]
   all_goals rfl
theorem foldl_rep (its:List Np):∀ (k:Nat) (acc:List Np),
 Sy (fun x1 x2=>x1++x2) acc.toArray (NQ k its.toArray)=(acc++(NQ k its).flatten).toArray
 | 0,acc=>by simp
 | k+1,acc=>by
  have e:acc.toArray++its.toArray=(acc++its).toArray:=by simp
  have e2:(acc++its)++(NQ k its).flatten=acc++(NQ (k+1) its).flatten:=by
   rw[OQ,Pp,Ot]
  rw[← e2,← foldl_rep its k (acc++its),← e,OQ,List.foldl_cons]
section
variable {X:Cx}{pins:List (Addr×Obj)}{σ:St}{H:Hp}{s:Nr}{l b:Addr}{xs ys zs:List V}
theorem Inv.Ar {its its':List Np}{n:Nat}{f:Array Np->Array Np}{t':Nat} (I:Inv X pins σ H s) (hH:H l=some (.lst xs))
 (e:s.heap.get? l=some { cls:=.type "list",data:=.seq its.toArray n }) (hf:f its.toArray=its'.toArray) (hv:au ys its') (hz:ys.length<=sizeLine) :
 Inv X pins σ (upd H l (.lst ys)) { s with heap:=s.heap.update l (Pr f),toks:=t' }:=by
 have q:=PySem.IsL.update e f
 rw[hf] at q
 refine I.write (x:=l) (e:=l) (by rw[hH];exact trivial) (.inl rfl) (fun b' u hb hu=>(O8 s.heap (Pr f) (Os hb)).trans hu) ⟨_,q⟩ ?_
 exact ⟨hz,its',_,hv,q⟩
theorem Inv.G8 {its:List Np}{t':Nat} (I:Inv X pins σ H s) (hv:au ys its) (hz:ys.length<=sizeLine) :
 Inv X pins σ (upd H s.heap.objs.size (.lst ys)) { s with heap:=s.heap.push { cls:=.type "list",data:=.seq its.toArray },toks:=t' } :=
 I.laid (fun _ _ q=>Nq _ q) (Nu _) ⟨hz,its,0,hv,Nz _ rfl⟩
theorem Inv.fresh (I:Inv X pins σ H s):H s.heap.objs.size=none:=I.hok.fresh (Nu _)
theorem Inv.As (I:Inv X pins σ H s) (hH:H l=some (.lst xs)):xs.length<=sizeLine/\∃ (its:List Np) (n:Nat),au xs its/\xs.length=its.length/\s.heap.get? l=some { cls:=.type "list",data:=.seq its.toArray n }:=by
 obtain ⟨z,its,n,r,e⟩:=I.hok l _ hH
 exact ⟨z,its,n,r,r.length,e⟩
theorem kE {n:Nat} (h:n<=sizeLine):OE n=false:=by
 unfold OE
 exact decide_eq_false (by omega)
end
section
variable {X:Cx}
noncomputable def Au:V->List V->Hp->VK->Prop:=fun x vs H Q=>∃ l xs y,x=.ref l/\vs=[y]/\H l=some (.lst xs)/\xs.length < sizeLine/\Q .non (upd H l (.lst (xs++[y])))
theorem uM:MtM X "list.append" Au:=by
 intro pins s σ H x vs v us Q I rx rv h
 obtain ⟨l,xs,y,rfl,rfl,hH,hz,q⟩:=h
 cases rx
 obtain ⟨u,rfl,ru⟩:=rv.one
 obtain ⟨z,its,n,r,hl,e⟩:=I.As hH
 refine P5 F.slot_list_append ⟨_,e,rfl⟩ F.entry_list_append (F.args_list_append_2 _ _) (PySem.list_append l its.toArray n u (by rw[Nv];omega)) ⟨e,?_⟩
 refine ⟨.non,_,I.Ar (its':=its++[u]) hH e (by simp) (r.append (.cons ru .nil)) ?_,rfl,q⟩
 rw[NT,Pj]
 omega
noncomputable def La:V->List V->Hp->VK->Prop:=fun x vs H Q=>∃ l xs y,x=.ref l/\vs=[]/\H l=some (.lst xs)/\xs[xs.length - 1]?=some y/\Q y (upd H l (.lst xs.dropLast))
theorem DX:MtM X "list.pop" La:=by
 intro pins s σ H x vs v us Q I rx rv h
 obtain ⟨l,xs,y,rfl,rfl,hH,hy,q⟩:=h
 cases rx
 have hus:=rv.zero
 subst hus
 obtain ⟨z,its,n,r,hl,e⟩:=I.As hH
 obtain ⟨u,hu,ru⟩:=r.get hy
 have hy':its.toArray[its.toArray.size - 1]?=some u:=by
  show its.toArray[its.length - 1]?=some u
  rw[← SR,← hl]
  exact hu
 refine P5 F.slot_list_pop ⟨_,e,rfl⟩ F.entry_list_pop (F.args_list_pop_1 _) (MeetsSeq.list_pop_last l its.toArray n u hy' (by rw[Nv];omega)) ⟨e,?_⟩
 refine ⟨y,_,I.Ar (its':=its.dropLast) hH e ?_ r.dropLast ?_,ru,q⟩
 ·show its.toArray.eraseIdxIfInBounds (its.toArray.size - 1)=its.dropLast.toArray
  rw[Nv,List.eraseIdxIfInBounds_toArray,qH]
 ·rw[Td]
  omega
theorem len_rep {α:Type} (xs:List α) (k:Nat):(NQ k xs).flatten.length=k*xs.length:=by
 induction k with
 | zero=>simp
 | succ k ih=>rw[OQ,Pp,NT,ih,Nat.succ_mul,Nat.add_comm]
end
section
variable {prog:NG}{w:N2}{A:Oz}{E:Np->Nr->Prop}{s:Nr}
set_option maxRecDepth 100000 in
end
section
variable {X:Cx}
end
end L2
namespace Att
open PySem PySem.W PySem.Calls PyProof.Rows
theorem jP {P:Params}{h:Heap}:∀ (ns:List Int) (vs:List Np),WellAll P h vs (ns.map WData.int)->Qw vs ns:=by
 intro ns
 induction ns with
 | nil =>
  intro vs w
  rw[Pi] at w
  cases w
  exact .nil
 | cons n ns ih =>
  intro vs w
  rw[NW] at w
  cases w with
  | cons a b =>
   cases a
   exact .cons _ _ (ih _ b)
theorem uN {l:OpenLaw}{n:Nat} (hn:l.most=some n) {P:Params}{h:Heap}{args:List WData}{vals:List Np}
 (hpre:l.row.toRowW.claim.pre args=true) (hwl:WellAll P h vals args) :
 ∃ a vs ns,vals=[On a]/\args=[WData.list (ns.map WData.int)]/\h.get? a=some { cls:=.type "list",data:=.seq vs.toArray }/\Qw vs ns/\ns.length<=n:=by
 have hsh:WShape.hasAll [] args [.list .int]=true:=(pre_splitW hpre).1
 have hc:l.pre.holds [] { args:=args }=true:=(pre_splitW hpre).2
 obtain ⟨d,r,rfl,h1,h2⟩:=hasAllW_cons hsh
 obtain rfl:=hasAllW_nil h2
 obtain ⟨xs,rfl,h3⟩:=hasW_list h1
 obtain ⟨ns,rfl⟩:=items_int h3
 have hlen:ns.length<=n:=by
  unfold OpenLaw.pre at hc
  have h4:(WTm.not (.lt (.lit (.int (n:Int))) (.len (.arg 0)))).holds [] { args:=[.list (ns.map .int)] }=true:=by
   have h4:=(holds_andW hc).1
   rw[hn] at h4
   exact h4
  have h5:=condW_of h4 (w_not (w_lt w_lit (w_len_list (w_arg rfl))))
  rw[NP] at h5
  refine Nat.le_of_not_lt fun q=>?_
  have q':(n:Int) < ((ns.length:Nat):Int):=by omega
  first
   | (rw[decide_eq_true q'] at h5;exact absurd h5 (by decide))
   | (simp at h5;omega)
 cases hwl with
 | cons w1 w2 =>
  cases w2
  cases w1 with
  | list ho hall=>exact ⟨_,_,ns,rfl,rfl,ho,jP ns _ hall,hlen⟩
theorem uO (l:OpenLaw) (args:List WData):l.row.toRowW.claim.post args (.bool true) args=true :=
 postW_of (r:=l.row.toRowW) (X:=(true==true))
  (show WShape.has [] (.bool true) .bool=true by first | rfl | decide | simp[WShape.has,WShape.arms,WShape.armsAll])
  (show (WTm.eq .res (.lit (.bool true))).value [] { args:=args,res:=some (.bool true),after:=args }=some (.bool (true==true)) from w_eq_bool (w_res rfl) w_lit) rfl
theorem oZ {l:OpenLaw}{n:Nat}{q:NG}{loose:List Str}{XP:(Str->Option Np)->Heap->Prop}{YP:N2->Heap->Prop}{d:DefRec}
 (hn:l.most=some n) (hdf:d.params.defaults=[])
 (call:∀ (w:N2) (s₀ s₁:Nr) (mg mb:Str->Option Np) (fa:Addr) (o:Obj) (pm cd doc:Np) (a:Addr) (vs:List Np) (ns:List Int),
  Ground q loose [] XP w s₀ mg mb s₁.heap->YP w s₁.heap →
  s₁.heap.get? fa=some o->o.data=.func (docDef d.name d.params d.body d.scope pm cd doc)->s₁.heap.CodeRec cd d.name->mg d.name=some (.ref fa) →
  s₁.heap.get? a=some { cls:=.type "list",data:=.seq vs.toArray }->Qw vs ns->ns.length<=n->s₁.gens=#[] →
  codeAny (NR l.prog w) TH (.call (.ref fa) ⟨[.ref a],[]⟩) (fun r s'=>r=.ok (.ret (.bool true))/\OldK s₁.heap s'.heap/\s'.os=s₁.os/\Sj s'.gens) s₁) :
 WalkO q loose XP YP l.row.toRowW d [] (fun f vs=>TM f vs):=by
 intro w s₀ s₁ mg mb G Y fa o pm cd doc dV kV ho hd hcd hD hmg hg args vals as hpre hlay hrd hwl hlo
 obtain rfl:dV=.none:=Dflts.none hD hdf
 obtain rfl:kV=.none:=Dflts.noKw hD
 obtain ⟨a,vs,ns,rfl,rfl,hobj,hints,hlen⟩:=uN hn hpre hwl
 refine enter_call (codeAny_mono (call w s₀ s₁ mg mb fa o pm cd doc a vs ns G Y ho (fd_plain hd) hcd hmg hobj hints hlen hg) fun r s' hq=>?_)
 obtain ⟨rfl,h2,h3,h4⟩:=hq
 exact ⟨.inl ⟨.bool true,.bool true,[],rfl,fun _=>rfl,.bool true,uO l _,fun _=>⟨List.Pairwise.nil,fun _ hm=>(nomatch hm)⟩⟩,h2,h3,h4⟩
section
variable {prog:NG}{w:N2}{A:Oz}{E:Np->Nr->Prop}{s:Nr}{K:Frag}
noncomputable def ledger (h:Heap) (L d:Addr):List (Addr×Obj):=(ND h.objs.size).filterMap fun a=>if a=L\/a=d then none else (h.get? a).map fun o=>(a,o)
end
end Att
namespace L2
open PySem PySem.Spec PyProof.Rows
theorem gM:∀ {vs:List Np}{ns:List Int},Qw vs ns->au (ns.map V.int) vs
 | _,_,.nil=>.nil
 | _,_,.cons n t h=>.cons ⟨t,rfl⟩ (gM h)
end L2
namespace L2
open PySem PySem.Spec PyProof.Rows
noncomputable abbrev KOf {K:Nl}{h:Heap} (_:K.In h):Nl:=K
end L2
/- THE LAST THEOREM (shape;LID,My.* are yours):
 My.Adr: a structure of the addresses that your layer names (classes,functions);My.Txt K t: a structure (Prop) of the equations over K;
 My.txt_mk:{K}{implicit addresses ..} (e1:nsIn K NL "law"=some (some (.ref f))) (e2:K.lookup f=some ⟨oc,od,.func (fnOf "law" "law" params body scope dV kV doc pm an cdv ct),sl⟩) (e3:codeIn K cdv "law"=true) ..:∃ t,My.Txt K t
set_option maxRecDepth 100000 in
set_option maxHeartbeats 0 in
theorem PySem.Challenge.Av:PySem.Challenge.rw_LID.Holds:=by
 w_on;o_law;k_head;(case hw=>w_witness2)
 k_fill
 refine L2.walk_of (l:=PySem.Challenge.rw_LID) (n:=63) (k:=40) (x:="script") (CX:=fun w=>..) (sp:=fun _=>My.zG) rfl (by decide) rfl ⟨rfl,by decide,by decide⟩ (fun w h Y=>PySem.W.kIn_of Y) ?F ?S ?C
 case F =>
  intro w mg fa h KX G hmg
  have T:∃ t,My.Txt (L2.KOf KX) t:=by
   dsimp only[L2.KOf]                          -- K must stand as «<heap const> w.params» for k_is
   refine' My.txt_mk ?e1 ?e2 ?e3 ..
   (case e1=>PySem.W.k_is)                    -- in the order: a name->its address->its object->its parts
   (case e2=>PySem.W.k_is)
   ..
  obtain ⟨t,T⟩:=T
  have e0:=hmg.symm.trans (Pd KX G T.law)
  cases e0                                       -- fa is the law's own address
  exact ⟨_,fun s u=>.of_eq rfl,fun base kb nb=>My.law_fn T kb nb⟩     -- if «.of_eq rfl» comes too early: refine' ⟨_,?b,fun base kb nb=>My.law_fn T kb nb⟩;exact fun s u=>.of_eq rfl
 case S=>exact fun w H a ns hl hO hS=>..
 case C=>exact ..
(the tactic k_is has no namespace: write k_is) -/
namespace L2
open PySem PySem.Spec PyProof.Rows
noncomputable abbrev CX0:CXT:=fun _ _ _ _ _ _=>False
noncomputable abbrev E0:XK:=fun _ _ _=>False
theorem kF {X:Cx}:fU CX0 X E0:=fun _ _ _ _ _ _ _ h=>h.elim
structure Fun (K:Nl) (x qual:Str) (st:Sk) (f:Addr) (fd:OY):Prop where
 ex:∃ (oc:Np) (od:Option Addr) (kV doc pm:Np) (an:Option Addr) (cdv ct:Np) (osl:Array (Option Np)),
  fd=OS x qual (cG st) (aI st) (aq st) .none kV doc pm an cdv ct/\K.lookup f=some ⟨oc,od,.func fd,osl⟩/\QL K cdv qual=true
 kp:OD K (.ref f)=true
section
variable {P:NG}{w:N2}{K:Nl}{mg:Str->Option Np}{base:Heap}
theorem Fun.binds {x qual:Str}{st:Sk}{f:Addr}{fd:OY}{ps:List Str} (F:Fun K x qual st f fd)
 (h:∀ (kV doc pm:Np) (an:Option Addr) (cdv ct:Np) (us:List Np),us.length=ps.length->SA (OS x qual (cG st) (aI st) (aq st) .none kV doc pm an cdv ct) ⟨us,[]⟩=pure (ps.zip us)):Binds K fd ps []:=by
 obtain ⟨oc,od,kV,doc,pm,an,cdv,ct,osl,rfl,lk,hcd⟩:=F.ex
 exact .all (h kV doc pm an cdv ct)
theorem DY {x qual:Str}{st:Sk}{f:Addr}{oc:Np}{od an:Option Addr}{osl:Array (Option Np)}{kV doc pm cdv ct:Np} (l:K.lookup f=some ⟨oc,od,.func (OS x qual (cG st) (aI st) (aq st) .none kV doc pm an cdv ct),osl⟩)
 (c:QL K cdv qual=true) (k:OD K (.ref f)=true):Fun K x qual st f (OS x qual (cG st) (aI st) (aq st) .none kV doc pm an cdv ct):=⟨⟨oc,od,kV,doc,pm,an,cdv,ct,osl,rfl,l,c⟩,k⟩
end
theorem uP {n:Nat} (h:n<=1000):n < sizeLine:=Rt h (by decide)
section
variable {X:Cx}
end
end L2
end
section
namespace L2
open PySem PySem.Spec PyProof.Rows
section
variable {κ:Type} [DecidableEq κ]
noncomputable def putK (kvs:List (κ×V)) (k:κ) (v:V):List (κ×V) :=
 if (kvs.any fun kv=>decide (kv.1=k))=true then kvs.map (fun kv=>if kv.1=k then (kv.1,v) else kv) else kvs++[(k,v)]
end
section
variable {P:NG}{w:N2}{H:Hp}{h:Heap}{a:Addr}
end
section
variable {X:Cx}{pins:List (Addr×Obj)}{σ:St}{H:Hp}{s:Nr}{a:Addr}{y v:V}{u r:Np}{o:Option V}{A:Oz}{E:Np->Nr->Prop}
end
end L2
end
section
namespace BX
open PySem PyProof.Rows
noncomputable def Ri (xs:Array Nat):Prop:=∀ i j a b:Nat,i < j->xs[i]?=some a->xs[j]?=some b->a < b
theorem wI {xs:Array Nat} (h:Ri xs) (j:Nat):∀ (fuel lo hi:Nat),lo<=hi->hi<=xs.size->hi - lo<=fuel->(∀ i a,i < lo->xs[i]?=some a->a < j)->(∀ i a,hi<=i->xs[i]?=some a->j<=a) →
 (∀ i a,i < SetTable.below.go xs j fuel lo hi->xs[i]?=some a->a < j)/\(∀ i a,SetTable.below.go xs j fuel lo hi<=i->xs[i]?=some a->j<=a)/\SetTable.below.go xs j fuel lo hi<=xs.size:=by
 intro fuel
 induction fuel with
 | zero =>
  intro lo hi h1 h2 h3 h4 h5
  have:lo=hi:=by omega
  subst this
  exact ⟨h4,h5,h2⟩
 | succ fuel ih =>
  intro lo hi h1 h2 h3 h4 h5
  by_cases c:lo < hi
  ·have hm:(lo+hi) / 2 < xs.size:=by omega
   have em:xs[(lo+hi) / 2]?=some xs[(lo+hi) / 2]:=N7 hm
   have eg:xs.getD ((lo+hi) / 2) j=xs[(lo+hi) / 2]:=by simp[Array.getD,hm]
   have e:SetTable.below.go xs j (fuel+1) lo hi=if xs.getD ((lo+hi) / 2) j < j then SetTable.below.go xs j fuel ((lo+hi) / 2+1) hi else SetTable.below.go xs j fuel lo ((lo+hi) / 2):=by
    show (if lo < hi then _ else lo)=_
    rw[if_pos c]
   rw[e,eg]
   by_cases d:xs[(lo+hi) / 2] < j
   ·rw[if_pos d]
    refine ih _ _ (by omega) h2 (by omega) (fun i a hi' ea=>?_) h5
    rcases NK i ((lo+hi) / 2) with z | z
    ·have:=h i _ a _ z ea em;omega
    ·have:i=(lo+hi) / 2:=by omega
     subst this
     rw[em] at ea;cases ea;exact d
   ·rw[if_neg d]
    refine ih _ _ (by omega) (by omega) (by omega) h4 (fun i a hi' ea=>?_)
    rcases NK ((lo+hi) / 2) i with z | z
    ·have:=h _ i _ a z em ea;omega
    ·have:i=(lo+hi) / 2:=by omega
     subst this
     rw[em] at ea;cases ea;omega
  ·have e:SetTable.below.go xs j (fuel+1) lo hi=lo:=by
    show (if lo < hi then _ else lo)=_
    rw[if_neg c]
   have:lo=hi:=by omega
   subst this
   rw[e]
   exact ⟨h4,h5,h2⟩
theorem iy {xs:Array Nat} (h:Ri xs) (j:Nat):(∀ i a,i < SetTable.below xs j->xs[i]?=some a->a < j)/\(∀ i a,SetTable.below xs j<=i->xs[i]?=some a->j<=a)/\SetTable.below xs j<=xs.size :=
 wI h j xs.size 0 xs.size (N5 _) (Nu _) (by omega) (fun i a z=>absurd z (QW _)) (fun i a z e=>by
  have:xs[i]?=none:=OB z
  rw[this] at e;cases e)
theorem iT {α:Type} (xs:Array α) {p:Nat} (hp:p<=xs.size) (x:α) (i:Nat):(SetTable.insertAt xs p x)[i]?=if i < p then xs[i]? else if i=p then some x else xs[i - 1]?:=by
 unfold SetTable.insertAt
 have s1:((xs.extract 0 p).push x).size=p+1:=by simp;omega
 by_cases c:i < p
 ·rw[if_pos c,RY (by omega),Tf,if_neg (by simp;omega),SG]
  simp;omega
 ·rw[if_neg c]
  by_cases d:i=p
  ·subst d
   rw[if_pos rfl,RY (by omega),Tf,if_pos (by simp;omega)]
  ·rw[if_neg d,Array.getElem?_append_right (by omega),s1,SG]
   simp
   split
   ·congr 1;omega
   ·rename_i z
    symm
    exact OB (by omega)
theorem DZ {xs:Array Nat} (h:Ri xs) {j:Nat} (hn:xs[SetTable.below xs j]?≠some j):Ri (SetTable.insertAt xs (SetTable.below xs j) j):=by
 obtain ⟨b1,b2,b3⟩:=iy h j
 intro i k a b hik ea eb
 rw[iT xs b3] at ea eb
 generalize SetTable.below xs j=p at *
 have gt:∀ i a,p<=i->xs[i]?=some a->j < a:=fun i a hi e=>by
  have:=b2 i a hi e
  rcases NK j a with z | z
  ·exact z
  ·have:a=j:=by omega
   subst this
   rcases NK p i with q | q
   ·cases ep:xs[p]? with
    | none =>
     have:xs.size<=p:=by
      rcases NK p xs.size with w | w
      ·rw[N7 w] at ep;cases ep
      ·exact w
     rw[OB (by omega)] at e;cases e
    | some y =>
     have h1:=h p i y a q ep e
     have h2:=b2 p y (Nu _) ep
     omega
   ·have:i=p:=by omega
    subst this
    exact absurd e hn
 by_cases c1:k < p
 ·rw[if_pos c1] at eb
  rw[if_pos (by omega)] at ea
  exact h i k a b hik ea eb
 ·rw[if_neg c1] at eb
  by_cases c2:k=p
  ·rw[if_pos c2] at eb
   cases eb
   rw[if_pos (by omega)] at ea
   exact b1 i a (by omega) ea
  ·rw[if_neg c2] at eb
   have hb:=gt (k - 1) b (by omega) eb
   by_cases d1:i < p
   ·rw[if_pos d1] at ea
    have:=b1 i a d1 ea
    omega
   ·rw[if_neg d1] at ea
    by_cases d2:i=p
    ·rw[if_pos d2] at ea;cases ea;exact hb
    ·rw[if_neg d2] at ea
     exact h (i - 1) (k - 1) a b (by omega) ea eb
theorem wJ (n:Nat):Ri (Array.range n):=by
 intro i j a b hij ea eb
 rw[Array.getElem?_range] at ea eb
 split at ea
 ·split at eb
  ·cases ea;cases eb;exact hij
  ·cases eb
 ·cases ea
theorem Aw {l:List Nat} (h:l.Pairwise (· < ·)):Ri l.toArray:=by
 intro i j a b hij ea eb
 simp only[List.getElem?_toArray] at ea eb
 obtain ⟨hi,rfl⟩:=List.getElem?_eq_some_iff.mp ea
 obtain ⟨hj,rfl⟩:=List.getElem?_eq_some_iff.mp eb
 exact List.pairwise_iff_getElem.mp h i j hi hj hij
structure Tb (bt:Bool) (t:SetTable):Prop where
 led:t.led=!bt
 ri:Ri t.place
theorem wK (bt:Bool):Tb bt (SetTable.fresh 0 0 (!bt)):=⟨rfl,fun i j a b _ e=>by simp[SetTable.fresh] at e⟩
theorem iY {bt:Bool}{t:SetTable} (h:Tb bt t) (n:Nat):Tb bt (SetTable.standIn t n):=⟨h.led,wJ n⟩
noncomputable def Fre (t:SetTable) (j:Nat):Prop:=t.place[SetTable.below t.place j]?≠some j
theorem o4 {t:SetTable}{j:Nat} (h:t.slot j=.empty\/t.slot j=.dummy):Fre t j:=by
 intro z
 have e:t.slot j=.live (SetTable.below t.place j):=by
  unfold SetTable.slot
  simp[z]
 rw[e] at h
 rcases h with h | h<;>cases h
theorem wL (t:SetTable) (g:Nat->Int) (h:Int):∀ (fuel:Nat) (p:SetTable.Probe) (j:Nat) (d:Option Nat),(∀ x,p.dummy=some x->Fre t x)->SetTable.probe.go t g h fuel p=some (.empty j d)->Fre t j/\∀ x,d=some x->Fre t x:=by
 intro fuel
 induction fuel with
 | zero=>intro p j d _ e;cases e
 | succ fuel ih =>
  intro p j d hp e
  have e':SetTable.probe.go t g h (fuel+1) p=(match t.slot p.j with
   | .empty=>some (.empty p.j p.dummy)
   | .dummy=>SetTable.probe.go t g h fuel (SetTable.advance t { p with dummy:=some p.j })
   | .live i=>if (g i==h)=true then some (.candidate p.j i (SetTable.advance t p)) else SetTable.probe.go t g h fuel (SetTable.advance t p)):=rfl
  rw[e'] at e
  have adv:∀ q:SetTable.Probe,(SetTable.advance t q).dummy=q.dummy:=fun q=>by
   unfold SetTable.advance
   split<;>rfl
  cases s:t.slot p.j with
  | empty =>
   rw[s] at e
   cases e
   exact ⟨o4 (.inl s),hp⟩
  | dummy =>
   rw[s] at e
   exact ih _ j d (fun x hx=>by rw[adv] at hx;cases hx;exact o4 (.inr s)) e
  | live i =>
   rw[s] at e
   simp only at e
   split at e
   ·cases e
   ·exact ih _ j d (fun x hx=>by rw[adv] at hx;exact hp x hx) e
theorem wM {t:SetTable}{h:Int}{j:Nat}{b:Bool} (e:SetTable.freeSlot t h=some (j,b)):Fre t j:=by
 unfold SetTable.freeSlot at e
 split at e
 ·rename_i j' d hp
  cases e
  obtain ⟨h1,h2⟩:=wL t _ h _ _ j' d (fun x hx=>by simp[SetTable.probeStart] at hx) hp
  cases d with
  | none=>exact h1
  | some x=>exact h2 x rfl
 ·cases e
theorem D0 {bt:Bool}{t:SetTable} (h:Tb bt t) (es:Array (Int×Np)) (k:Int) (x:Np):Tb bt (layNew t es k x).2.1:=by
 unfold layNew
 split
 ·rename_i slot wd e
  have hf:=wM e
  have hp:Tb bt (SetTable.put t slot).1:=⟨h.led,DZ h.ri hf⟩
  simp only
  show Tb bt (SetTable.orStandIn _ _)
  unfold SetTable.orStandIn
  split
  ·exact hp
  ·exact iY hp _
 ·exact iY h _
theorem wN {bt:Bool}{t:SetTable} (h:Tb bt t) (es:Array (Int×Np)) (n:Nat):Tb bt (relayAll t es n).2.1:=by
 unfold relayAll
 split
 ·rename_i t' order e
  have ht:Tb bt t':=by
   unfold SetTable.relaid SetTable.laid at e
   cases g:SetTable.layClean (SetTable.sizeAbove n - 1) (es.map fun x=>x.1) with
   | none=>rw[g] at e;cases e
   | some owner =>
    rw[g] at e
    cases e
    refine ⟨h.led,Aw ?_⟩
    rw[List.pairwise_map]
    refine List.Pairwise.filterMap _ (fun a b hab x hx y hy=>?_) List.pairwise_lt_range
    obtain ⟨_,_,rfl⟩:=Option.map_eq_some_iff.mp hx
    obtain ⟨_,_,rfl⟩:=Option.map_eq_some_iff.mp hy
    exact hab
  simp only
  split
  ·exact ht
  ·exact iY h _
 ·exact iY h _
section
variable {prog:NG}{w:N2}{A:Oz}{E:Np->Nr->Prop}{s:Nr}
noncomputable def lP (prog:NG) (w:N2) (bt:Bool) (h:Heap) (a:Addr) (S:Int->Bool) (n:Nat):Prop :=
 ∃ o es ep t,h.get? a=some o/\o.ExactSet/\o.data=.set es ep t/\ElemsOf (intKind prog w) es.toList/\(∀ k,S k=true↔∃ e∈es.toList,(intKind prog w).is k e.2=true)/\es.size < Qd/\t.fits es.size=true/\es.size=n/\Tb bt t
theorem Na {g:Bool->Sem Unit} (hg:∀ (b:Bool) (s₁:Nr) (Q:Unit->Nr->Prop),Q () s₁->wpAny (NR prog w) A (g b) Q E s₁) {b:Bool}{α:Type}{f:Unit->Sem α}{Q:α->Nr->Prop} (h:wpAny (NR prog w) A (f ()) Q E s):wpAny (NR prog w) A (g b >>= f) Q E s :=
 wpAny_bind (hg b s _ h)
theorem add_int {bt:Bool}{a:Addr}{S:Int->Bool}{n:Nat}{k:Int}{tk:Tok}{Q:Bool->Nr->Prop} (hs:lP prog w bt s.heap a S n) (hn:n+1 < Qd)
 (hQ:∀ b h',Ou a s.heap h'->lP prog w bt h' a (fun k'=>S k'||decide (k'=k)) (if S k=true then n else n+1)->Q b { s with heap:=h' }) :
 wpAny (NR prog w) A (setAddHashed a (.int k tk) ((intKind prog w).hash k)) Q E s:=by
 obtain ⟨o,es,ep,t,ho,hx,hd,he,hm,hb,hf,rfl,ht⟩:=hs
 have ik:=intKind_is prog w k tk
 unfold setAddHashed
 refine OL ?_
 rw[setAddHashedIn.eq_def]
 show wpAny _ _ (setState a >>= _) _ _ s
 refine wpAny_bind (O7 ho hd hf ?_)
 simp only
 rw[if_pos (byScan_of (knd:=intKind prog w) rfl hb he)]
 refine wpAny_bind ?_
 unfold setAddByScan
 refine wpAny_bind (RZ ?_)
 refine wpAny_bind ?_
 show wpAny _ _ (setScanFrom a (.int k tk) ((intKind prog w).hash k) true es.toList 0) _ _ s
 refine wpAny_setScanFrom_of (knd:=intKind prog w) ik ho hd hf es.toList 0 he ?_
 cases g:es.toList.findIdx? fun e=>(intKind prog w).is k e.2 with
 | some j =>
  have hk:S k=true:=by
   obtain ⟨hj,h1,_⟩:=List.findIdx?_eq_some_iff_getElem.mp g
   exact (hm k).mpr ⟨_,QF hj,h1⟩
  refine wpAny_pure (wpAny_pure (hQ _ _ (QN _ _) ?_))
  rw[if_pos hk]
  refine ⟨o,es,ep,t,ho,hx,hd,he,fun k'=>?_,hb,hf,rfl,ht⟩
  rw[← hm k']
  by_cases c:k'=k
  ·subst c;simp[hk]
  ·simp[c]
 | none =>
  have hk:¬ S k=true:=fun z=>by
   obtain ⟨e,h1,h2⟩:=(hm k).mp z
   have:=List.findIdx?_eq_none_iff.mp g e h1
   rw[h2] at this;cases this
  rw[if_neg hk] at hQ
  have q1:=layNew_fits t es ((intKind prog w).hash k) (.int k tk)
  have q2:=layNew_perm t es ((intKind prog w).hash k) (.int k tk)
  have q3:=D0 ht es ((intKind prog w).hash k) (.int k tk)
  dsimp only
  generalize layNew t es ((intKind prog w).hash k) (.int k tk)=r at q1 q2 q3 ⊢
  obtain ⟨es1,t1,wd,gv⟩:=r
  simp only at q1 q2 q3 ⊢
  have q2':es1.toList.Perm (es.toList++[((intKind prog w).hash k,.int k tk)]):=by simpa using q2
  have sz:es1.size=es.size+1:=by
   have:=q2'.length_eq
   simpa using this
  have e1:=(he.push ik rfl).perm q2'
  have m1:=mem_push_iff ik hm q2'
  have z1:es1.size < Qd:=by omega
  have fin:wpAny (NR prog w) A (RK a es1 t1 >>= fun _=>if (!wd&&t1.tooFull)=true then (match relayAll t1 es1 (SetTable.grown es1.size) with | (es2,t2,gv2)=>(match gv2 with | true=>rule "set.scan.the-table-gave-way" | false=>pure ()) >>= fun _=>RK a es2 t2 >>= fun _=>pure (some true)) else pure (some true))
   (fun a_1 s'=>wpAny (NR prog w) A (match a_1 with | some added=>pure added | none=>SZ a (.int k tk) ((intKind prog w).hash k) 99999) Q E s') E s:=by
   obtain ⟨ob,_⟩:=SetOf_store ho hx hd e1 m1 z1 q1
   refine wpAny_bind (wpAny_storeSet_of ho hd ?_ (by rw[sz];exact P4 hn))
   by_cases c:(!wd&&t1.tooFull)=true
   ·rw[if_pos c]
    have p1:=relayAll_fits t1 es1 (SetTable.grown es1.size)
    have p2:=relayAll_perm t1 es1 (SetTable.grown es1.size)
    have p3:=wN q3 es1 (SetTable.grown es1.size)
    generalize relayAll t1 es1 (SetTable.grown es1.size)=r at p1 p2 p3 ⊢
    obtain ⟨es2,t2,gv2⟩:=r
    simp only at p1 p2 p3 ⊢
    have sz2:es2.size=es.size+1:=by
     have:=p2.length_eq
     simp at this;omega
    have e2:=e1.perm p2
    have m2:∀ k',(S k'||decide (k'=k))=true↔∃ e∈es2.toList,(intKind prog w).is k' e.2=true:=fun k'=>(m1 k').trans ⟨fun ⟨e,h1,h2⟩=>⟨e,p2.mem_iff.mpr h1,h2⟩,fun ⟨e,h1,h2⟩=>⟨e,p2.mem_iff.mp h1,h2⟩⟩
    have nx:wpAny (NR prog w) A (RK a es2 t2 >>= fun _=>pure (some true)) (fun a_1 s'=>wpAny (NR prog w) A (match a_1 with | some added=>pure added | none=>SZ a (.int k tk) ((intKind prog w).hash k) 99999) Q E s') E { s with heap:=s.heap.update a (Obj.putSet es1 t1) }:=by
     obtain ⟨ob2,_⟩:=SetOf_store (h:=s.heap.update a (Obj.putSet es1 t1)) ob ⟨hx.1,hx.2.1,hx.2.2⟩ rfl e2 m2 (by omega) p1
     refine wpAny_bind (wpAny_storeSet_of (s:={ s with heap:=s.heap.update a (Obj.putSet es1 t1) }) ob rfl ?_ (by rw[sz2];exact P4 hn))
     refine wpAny_pure (wpAny_pure (hQ true _ ((Og ..).trans (Og ..)) ?_))
     exact ⟨_,es2,_,t2,ob2,⟨hx.1,hx.2.1,hx.2.2⟩,rfl,e2,m2,by omega,p1,sz2,p3⟩
    refine wpAny_bind ?_
    cases gv2 with
    | true=>exact RZ nx
    | false=>exact wpAny_pure nx
   ·rw[if_neg c]
    refine wpAny_pure (wpAny_pure (hQ true _ (Og ..) ?_))
    exact ⟨_,es1,_,t1,ob,⟨hx.1,hx.2.1,hx.2.2⟩,rfl,e1,m1,z1,q1,sz,q3⟩
  refine wpAny_bind ?_
  have nx:wpAny (NR prog w) A (if t1.plain=true then hashByValue 8 (.int k tk) >>= fun bv=>RK a es1 (if bv=true then t1 else { t1 with plain:=false }) >>= fun _=>if (!wd&&(if bv=true then t1 else { t1 with plain:=false }).tooFull)=true then (match relayAll (if bv=true then t1 else { t1 with plain:=false }) es1 (SetTable.grown es1.size) with | (es2,t2,gv2)=>(match gv2 with | true=>rule "set.scan.the-table-gave-way" | false=>pure ()) >>= fun _=>RK a es2 t2 >>= fun _=>pure (some true)) else pure (some true) else
   (pure true >>= fun bv=>RK a es1 (if bv=true then t1 else { t1 with plain:=false }) >>= fun _=>if (!wd&&(if bv=true then t1 else { t1 with plain:=false }).tooFull)=true then (match relayAll (if bv=true then t1 else { t1 with plain:=false }) es1 (SetTable.grown es1.size) with | (es2,t2,gv2)=>(match gv2 with | true=>rule "set.scan.the-table-gave-way" | false=>pure ()) >>= fun _=>RK a es2 t2 >>= fun _=>pure (some true)) else pure (some true)))
   (fun a_1 s'=>wpAny (NR prog w) A (match a_1 with | some added=>pure added | none=>SZ a (.int k tk) ((intKind prog w).hash k) 99999) Q E s') E s:=by
   by_cases c:t1.plain=true
   ·rw[if_pos c]
    refine wpAny_bind ?_
    rw[hashByValue.eq_def]
    exact wpAny_pure fin
   ·rw[if_neg c]
    exact wpAny_bind (wpAny_pure fin)
  cases gv with
  | true=>refine RZ ?_;exact nx
  | false=>refine wpAny_pure ?_;exact nx
end
section
variable {prog:NG}{w:N2}{A:Oz}{E:Np->Nr->Prop}{R:SK->Nr->Prop}
theorem wO {bt:Bool} (hh:A.handled=none) {l it S:Addr}{items:Array Np}{ns:List Int} (hi:Qw items.toList ns) (hSi:S≠it) (hSl:S≠l) (hil:it≠l) (hb:items.size+1 < Qd) :
 ∀ (k i:Nat) (s:Nr),items.size - i=k->i<=items.size->s.heap.IsListIter it l i->s.heap.IsList l items->lP prog w bt s.heap S (fun k'=>(O3 (fun i=>ns.getD i 0) i).any (·==k')) (O3 (fun i=>ns.getD i 0) i).length →
  (∀ h' tk,(∀ b o,b≠S->b≠it->s.heap.get? b=some o->h'.get? b=some o)->lP prog w bt h' S (fun k'=>(O3 (fun i=>ns.getD i 0) items.size).any (·==k')) (O3 (fun i=>ns.getD i 0) items.size).length->R (.ok (.ret .none)) { s with heap:=h',toks:=tk }) →
  codeAny (NR prog w) A (.builtin "set.update.loop" ⟨[.ref S,.ref it],[]⟩) R s:=by
 intro k
 induction k with
 | zero =>
  intro i s hk hi' h1 h2 h3 hR
  have:i=items.size:=by omega
  subst this
  refine codeAny_builtin F.entry_set_update_loop ?_
  rw[O1 F.plain_set_update_loop _]
  show wpAny _ A.in1 (RL (.ref it) >>= _) _ _ _
  refine wpAny_bind (wpAny_pyNext_list_end (A:=A.in1) hh h1 h2 (OB (Nu _)) fun h' hx=>?_)
  refine wpAny_pure (hR h' s.toks (fun b o _ n2 e=>hx b o n2 e) ?_)
  obtain ⟨o,es,ep,t,g1,g2⟩:=h3
  exact ⟨o,es,ep,t,hx S o hSi g1,g2⟩
 | succ k ih =>
  intro i s hk hi' h1 h2 h3 hR
  have hlt:i < items.size:=by omega
  have hx:items[i]?=some items[i]:=N7 hlt
  obtain ⟨tk,ex⟩:=hi.int_at i items[i] (by simpa using hx)
  refine codeAny_builtin F.entry_set_update_loop ?_
  rw[O1 F.plain_set_update_loop _]
  show wpAny _ A.in1 (RL (.ref it) >>= _) _ _ _
  refine wpAny_bind (wpAny_pyNext_list_item h1 h2 hx fun h' g1 g2=>?_)
  rw[ex]
  have hS':lP prog w bt h' S (fun k'=>(O3 (fun i=>ns.getD i 0) i).any (·==k')) (O3 (fun i=>ns.getD i 0) i).length:=by
   obtain ⟨o,es,ep,t,q1,q2⟩:=h3
   exact ⟨o,es,ep,t,(g2.2 S hSi).trans q1,q2⟩
  have ln:(O3 (fun i=>ns.getD i 0) i).length<=i:=firstMet_length_le _ _
  refine wpAny_bind (OL ?_)
  unfold setAdd
  refine OL (wpAny_bind (wpAny_pyHash_int ?_))
  refine add_int (bt:=bt) (s:={ s with heap:=h',toks:=s.toks+1 }) hS' (by omega) fun b h2' k1 k2=>?_
  have k2':lP prog w bt h2' S (fun k'=>(O3 (fun i=>ns.getD i 0) (i+1)).any (·==k')) (O3 (fun i=>ns.getD i 0) (i+1)).length:=by
   have e1:(fun k'=>(O3 (fun i=>ns.getD i 0) (i+1)).any (·==k'))=fun k'=>(O3 (fun i=>ns.getD i 0) i).any (·==k')||decide (k'=ns.getD i 0):=by
    funext k'
    rw[firstMet_succ,step_any]
   rw[e1,firstMet_succ,step_length]
   exact k2
  have old:∀ c o,c≠S->c≠it->s.heap.get? c=some o->h2'.get? c=some o:=fun c o n1 n2 e=>(k1.2 c n1).trans ((g2.2 c n2).trans e)
  refine wpAny_pure ⟨plainId_quiet F.plain_set_update_loop _,ih (i+1) { s with heap:=h2',toks:=s.toks+1 } (by omega) hlt ?_ ?_ k2' fun h'' tk' q1 q2=>?_⟩
  ·obtain ⟨o,e1,e2⟩:=g1
   exact ⟨o,(k1.2 it (Os hSi)).trans e1,e2⟩
  ·obtain ⟨o,e1,e2⟩:=h2
   exact ⟨o,old l o (Os hSl) (Os hil) e1,e2⟩
  ·exact hR h'' tk' (fun c o n1 n2 e=>q1 c o n1 n2 (old c o n1 n2 e)) q2
end
section
variable {prog:NG}{w:N2}{A:Oz}{E:Np->Nr->Prop}{s:Nr}
theorem iZ {Q:Bool->Nr->Prop} (h:Q (w.params.followText "set-order") s):wpAny (NR prog w) A setsByText Q E s:=by
 unfold setsByText
 exact wpAny_bind (wpAny_askSetting (wpAny_pure h))
theorem wQ {l S:Addr}{items:Array Np}{ns:List Int}{R:SK->Nr->Prop} (hh:A.handled=none) (hl:s.heap.IsList l items) (hi:Qw items.toList ns) (hb:items.size+1 < Qd) (hSl:S≠l)
 (hS:s.heap.get? S=some { cls:=.type "set",data:=.set #[] 0 (SetTable.fresh 0 0 (!w.params.followText "set-order")) })
 (hR:∀ h' tk,(∀ b o,b≠S->s.heap.get? b=some o->h'.get? b=some o)->lP prog w (w.params.followText "set-order") h' S (fun k'=>(O3 (fun i=>ns.getD i 0) items.size).any (·==k')) (O3 (fun i=>ns.getD i 0) items.size).length->R (.ok (.ret .none)) { s with heap:=h',toks:=tk }) :
 wpAny (NR prog w) A.in1 (Builtin.«set.__init__» ⟨[.ref S,.ref l],[]⟩)
  (fun fin s'=>match fin with | .done f=>R (.ok f) s' | .again c'=>c'.quiet=true/\codeAny (NR prog w) A c' R s') (fun e s'=>R (.error e) s') s:=by
 have hT:s.TypeIs (.ref S) "set":=⟨_,hS,rfl⟩
 unfold Builtin.«set.__init__»
 refine wpAny_bind (wpAny_pure ?_)
 dsimp only
 refine wpAny_bind ?_
 unfold typeNameOfCut shownTypeOf
 refine wpAny_bind ?_
 refine wpAny_bind (Qc hT ?_)
 rw[if_neg (by decide)]
 refine wpAny_pure ?_
 show wpAny _ _ (typeName (.type "set")) _ _ s
 refine wpAny_pure ?_
 refine wpAny_bind (wpAny_pure ?_)
 refine wpAny_bind (wpAny_pure ?_)
 refine wpAny_bind ?_
 unfold setUsed
 refine wpAny_bind (O7 hS rfl rfl (wpAny_pure ?_))
 rw[if_neg (show ¬ ((SetTable.fresh 0 0 (!w.params.followText "set-order")).fill != 0)=true from Ob)]
 refine wpAny_bind ?_
 unfold Builtin.Frozenset.updateFrom
 refine wpAny_bind ?_
 have hL:s.TypeIs (.ref l) "list":=hl.typeIs
 unfold Builtin.Frozenset.isAnySet
 refine wpAny_bind (Qi (b:=false) hL (isSubtype_of_subB (by decide +kernel)) ?_)
 show wpAny _ _ (isInstance (.ref l) (.type "frozenset")) _ _ s
 refine Qi (b:=false) hL (isSubtype_of_subB (by decide +kernel)) ?_
 rw[if_neg Ob]
 refine wpAny_bind (Qc hL ?_)
 rw[if_neg (by decide)]
 refine wpAny_bind (wpAny_pyIter_list hl ?_)
 refine wpAny_bind (wpAny_runValue ?_)
 have lS:S < s.heap.objs.size:=Nx hS
 have ll:l < s.heap.objs.size:=by obtain ⟨o,e,_⟩:=hl;exact Nx e
 have up:∀ b o,s.heap.get? b=some o->(s.heap.push { cls:=.type "list_iterator",data:=.fields #[.ref l,.int 0 0] }).get? b=some o:=fun b o e=>Nq _ e
 refine wO (bt:=w.params.followText "set-order") (A:=A.in1) hh hi (NV lS) hSl (O6 ll) hb items.size 0 _ rfl (N5 _) ⟨_,Nz _ rfl,rfl,rfl⟩ ?_ ?_ fun h' tk k1 k2=>?_
 ·obtain ⟨o,e,r⟩:=hl
  exact ⟨o,up _ _ e,r⟩
 ·refine ⟨_,#[],0,_,up _ _ hS,⟨rfl,rfl,rfl⟩,rfl,fun e he=>(by simp at he),fun k=>⟨fun z=>by simp[firstMet_zero] at z,fun ⟨e,he,_⟩=>by simp at he⟩,by decide,rfl,by simp[firstMet_zero],wK _⟩
 ·refine wpAny_pure (wpAny_pure (hR h' tk (fun b o n1 e=>k1 b o n1 (NV (Nx e)) (up b o e)) k2))
theorem Ax (v:Np) {Q₁:Np->Nr->Prop} (h:Q₁ (.ref s.heap.objs.size) { s with heap:=s.heap.push { cls:=.type "set",data:=.set #[] 0 (SetTable.fresh 0 0 (!w.params.followText "set-order")) } }) :
 codeAny (NR prog w) A (.call (.builtin "set.__new__") { pos:=[.type "set",v] }) (wants Q₁ E) s:=by
 refine codeAny_call_builtin (by decide +kernel) PySem.F.entry_set_new ?_
 rw[PySem.F.newCall_set_1]
 refine wpAny_pure ?_
 unfold Builtin.«set.__new__»
 refine wpAny_bind (wpAny_pure ?_)
 refine wpAny_bind ?_
 unfold newSet
 refine wpAny_bind (iZ ?_)
 refine Oc ?_ (by size_fits)
 exact wpAny_pure h
theorem wR {l:Addr}{items:Array Np}{ns:List Int}{Q:Np->Nr->Prop} (hh:A.handled=none) (hl:s.heap.IsList l items) (hi:Qw items.toList ns) (hb:items.size+1 < Qd)
 (hQ:∀ h' tk,lP prog w (w.params.followText "set-order") h' s.heap.objs.size (fun k'=>(O3 (fun i=>ns.getD i 0) items.size).any (·==k')) (O3 (fun i=>ns.getD i 0) items.size).length->(∀ b o,s.heap.get? b=some o->h'.get? b=some o)->Q (.ref s.heap.objs.size) { s with heap:=h',toks:=tk }) :
 wpAny (NR prog w) A (call (.type "set") [.ref l]) Q E s:=by
 have ll:l < s.heap.objs.size:=by obtain ⟨o,e,_⟩:=hl;exact Nx e
 have up:∀ b o,s.heap.get? b=some o->(s.heap.push { cls:=.type "set",data:=.set #[] 0 (SetTable.fresh 0 0 (!w.params.followText "set-order")) }).get? b=some o:=fun b o e=>Nq _ e
 have hS:(s.heap.push { cls:=.type "set",data:=.set #[] 0 (SetTable.fresh 0 0 (!w.params.followText "set-order")) }).get? s.heap.objs.size=some { cls:=.type "set",data:=.set #[] 0 (SetTable.fresh 0 0 (!w.params.followText "set-order")) }:=Nz _ rfl
 refine QJ (codeAny_of_tree ?_)
 show wpAny _ _ (pure (Fin.again (.builtin "type.__call__" ⟨[.type "set",.ref l],[]⟩))) _ _ s
 refine wpAny_pure ⟨Code.quiet_builtin _ (by decide +kernel),codeAny_builtin PySem.F.entry_type_call ?_⟩
 rw[Around.under_plain (weight_type_call_type "set" [.ref l] []) rfl]
 unfold Builtin.«type.__call__»
 dsimp only
 rw[if_neg (by rw[PySem.F.called_set.notType];exact Ob)]
 rw[if_neg (by rw[PySem.F.called_set.canCreate];exact Ob)]
 rw[PySem.F.typeCall_set_1]
 refine wpAny_bind (wpAny_pure ?_)
 obtain ⟨c,tl,hm⟩:=PySem.F.called_set.mro
 rw[hm]
 refine wpAny_bind (wpAny_pure ?_)
 rw[if_neg (by simp)]
 rw[PySem.F.called_set.made]
 refine wpAny_bind (wpAny_pure ?_)
 refine wpAny_bind (wpAny_pure ?_)
 refine wpAny_bind (OL (QJ ?_))
 refine codeAny_mono (Ax (E:=E) (Q₁:=fun obj s₁=>obj=.ref s.heap.objs.size/\s₁={ s with heap:=s.heap.push { cls:=.type "set",data:=.set #[] 0 (SetTable.fresh 0 0 (!w.params.followText "set-order")) } }) _ ⟨rfl,rfl⟩) fun r s' h=>?_
 cases r with
 | error e=>exact h
 | ok fl =>
  cases fl with
  | ret v =>
   obtain ⟨rfl,rfl⟩:=(show _/\_ from h)
   have hT:({ s with heap:=s.heap.push { cls:=.type "set",data:=.set #[] 0 (SetTable.fresh 0 0 (!w.params.followText "set-order")) } }:Nr).TypeIs (.ref s.heap.objs.size) "set":=⟨_,hS,rfl⟩
   refine wpAny_bind (Qi (b:=true) hT PySem.F.called_set.sub ?_)
   rw[if_neg (by decide)]
   refine wpAny_bind (OL (Pa hT PySem.F.slot_set_init (QJ ?_)))
   have key:∀ R:SK->Nr->Prop,(∀ h' tk,(∀ b o,b≠s.heap.objs.size->(s.heap.push { cls:=.type "set",data:=.set #[] 0 (SetTable.fresh 0 0 (!w.params.followText "set-order")) }).get? b=some o->h'.get? b=some o)->lP prog w (w.params.followText "set-order") h' s.heap.objs.size (fun k'=>(O3 (fun i=>ns.getD i 0) items.size).any (·==k')) (O3 (fun i=>ns.getD i 0) items.size).length->R (.ok (.ret .none)) { s with heap:=h',toks:=tk }) →
    codeAny (NR prog w) A.in1 (.call (.builtin "set.__init__") ⟨[.ref s.heap.objs.size,.ref l],[]⟩) R { s with heap:=s.heap.push { cls:=.type "set",data:=.set #[] 0 (SetTable.fresh 0 0 (!w.params.followText "set-order")) } }:=fun R hR =>
    codeAny_call_builtin (by decide +kernel) PySem.F.entry_set_init (check_set_init_1 hT (wQ (prog:=prog) (w:=w) (s:={ s with heap:=s.heap.push { cls:=.type "set",data:=.set #[] 0 (SetTable.fresh 0 0 (!w.params.followText "set-order")) } }) (A:=A.in1) hh (let ⟨o,e,r⟩:=hl;⟨o,up _ _ e,r⟩) hi hb (O6 ll) hS hR))
   refine key _ fun h' tk k1 k2=>?_
   show wpAny _ _ (if (P9 != P9)=true then _ else PySem.ret (.ref s.heap.objs.size)) _ _ _
   rw[if_neg (by decide)]
   exact wpAny_pure (hQ h' tk k2 fun b o e=>k1 b o (NV (Nx e)) (up b o e))
  | next=>exact h
  | brk=>exact h
  | cont=>exact h
end
theorem i6:Slot "set_iterator" (NN "__next__") "set_iterator.__next__":=Slot.of (owner:="set_iterator") (n:="__next__") (by rw[typeLookup_type,builtinLookup_eq_fast];kernel_rfl) (by kernel_rfl) (by kernel_rfl) (by kernel_rfl) (.inl (by kernel_rfl)) (by rw[isSubtype_type];kernel_rfl) (by decide +kernel)
theorem o5:entryFor table "set_iterator.__next__"=some Builtin.«set_iterator.__next__»:=by kernel_rfl
theorem qI:entryFor table "set.__iter__"=some Builtin.«frozenset.__iter__»:=by kernel_rfl
theorem rY (a:Np):argsOk "set_iterator.__next__" { pos:=[a] }:=by kernel_rfl
noncomputable def itO (first:Np) (i n ep:Nat) (a:Addr):Obj:={ cls:=.type "set_iterator",data:=.fields #[first,.int i 0,.ref a,.int n 0,.int ep 0] }
noncomputable def slotAt (pl:Array Nat):Nat->Nat
 | 0=>0
 | i+1=>match pl[i]? with
  | some j=>j+1
  | none=>0
inductive Md (w:N2) (h:Heap) (a:Addr) (es:Array (Int×Np)) (ep:Nat) (t:SetTable):Np->List Np->Nat->Prop where
 | A {z:Int}{i:Nat} (hb:w.params.followText "set-order"=true):Md w h a es ep t (.int z 0) ((Qp (w.params.setOrder a ep) es).toList.map (·.2)) i
 | B {T:Addr}{pl:List Nat}{i:Nat} (hT:h.IsTuple T (pl.map fun (p:Nat)=>Qt p 0).toArray) (hp:∀ p∈pl,p < es.size):Md w h a es ep t (.ref T) (pl.filterMap fun p=>es[p]?.map (·.2)) i
 | C {i:Nat} (hb:w.params.followText "set-order"=false) (hd:(!t.plain&&decide (es.size > 1))=false) (ht:Tb false t):Md w h a es ep t (.int (slotAt t.place i) 0) (es.toList.map (·.2)) i
structure NX (w:N2) (h:Heap) (it a:Addr) (ord:List Np) (i:Nat):Prop where
 ex:∃ o es ep t first,h.get? a=some o/\o.data=.set es ep t/\t.fits es.size=true/\h.get? it=some (itO first i es.size ep a)/\Md w h a es ep t first ord i
theorem Md.at {w:N2}{h h':Heap}{a:Addr}{es:Array (Int×Np)}{ep:Nat}{t:SetTable}{first:Np}{ord:List Np}{i:Nat} (m:Md w h a es ep t first ord i) (k:∀ b o,(∃ xs n,o.data=.seq xs n)->h.get? b=some o->h'.get? b=some o):Md w h' a es ep t first ord i:=by
 cases m with
 | A hb=>exact .A hb
 | B hT hp =>
  obtain ⟨o,e,c,n,d⟩:=hT
  exact .B ⟨o,k _ o ⟨_,n,d⟩ e,c,n,d⟩ hp
 | C hb hd ht=>exact .C hb hd ht
theorem bI {α β:Type} (f:α->Option β):∀ (l:List α),(∀ x∈l,(f x).isSome=true)->∀ i:Nat,(l.filterMap f)[i]?=(l[i]?).bind f
 | [],_,i=>by simp
 | x :: l,h,i=>by
  obtain ⟨y,hy⟩:=Option.isSome_iff_exists.mp (h x NI)
  rw[N3,hy]
  cases i with
  | zero=>simp[hy]
  | succ i=>simpa using bI f l (fun z hz=>h z (NC _ hz)) i
section
variable {prog:NG}{w:N2}{A:Oz}{E:Np->Nr->Prop}{s:Nr}
theorem o6 {t:SetTable}{n i:Nat} (h:Ri t.place) (hn:t.place.size=n) (hi:i < n):SetTable.below t.place (slotAt t.place i)=i/\∃ j,t.place[i]?=some j/\slotAt t.place (i+1)=j+1:=by
 obtain ⟨b1,b2,b3⟩:=iy h (slotAt t.place i)
 have hp:t.place[i]?=some t.place[i]:=N7 (by omega)
 refine ⟨?_,t.place[i],hp,by show (match t.place[i]? with | some j=>j+1 | none=>0)=_;rw[hp]⟩
 have lo:∀ k v,k < i->t.place[k]?=some v->v < slotAt t.place i:=fun k v hk ev=>by
  cases i with
  | zero=>omega
  | succ i =>
   have hq:t.place[i]?=some t.place[i]:=N7 (by omega)
   have e:slotAt t.place (i+1)=t.place[i]+1:=by show (match t.place[i]? with | some j=>j+1 | none=>0)=_;rw[hq]
   rw[e]
   rcases NK k i with z | z
   ·have:=h k i v _ z ev hq;omega
   ·have:k=i:=by omega
    subst this
    rw[hq] at ev;cases ev;omega
 have hi2:slotAt t.place i<=t.place[i]:=by
  cases i with
  | zero=>exact N5 _
  | succ i =>
   have hq:t.place[i]?=some t.place[i]:=N7 (by omega)
   have e:slotAt t.place (i+1)=t.place[i]+1:=by show (match t.place[i]? with | some j=>j+1 | none=>0)=_;rw[hq]
   rw[e]
   have:=h i (i+1) _ _ (OW _) hq hp
   omega
 rcases Nat.lt_trichotomy (SetTable.below t.place (slotAt t.place i)) i with z | z | z
 ·have hq:t.place[SetTable.below t.place (slotAt t.place i)]?=some t.place[SetTable.below t.place (slotAt t.place i)]:=N7 (by omega)
  have h1:=lo _ _ z hq
  have h2:=b2 _ _ (Nu _) hq
  omega
 ·exact z
 ·have:=b1 i _ z hp
  omega
theorem wU {t:SetTable}{n:Nat} (h:Ri t.place) (hn:t.place.size=n):n<=SetTable.below t.place (slotAt t.place n):=by
 obtain ⟨b1,b2,b3⟩:=iy h (slotAt t.place n)
 cases n with
 | zero=>exact N5 _
 | succ n =>
  have hq:t.place[n]?=some t.place[n]:=N7 (by omega)
  have e:slotAt t.place (n+1)=t.place[n]+1:=by show (match t.place[n]? with | some j=>j+1 | none=>0)=_;rw[hq]
  rw[e] at b1 b2 ⊢
  rcases NK n (SetTable.below t.place (t.place[n]+1)) with z | z
  ·exact z
  ·have:=b2 n _ z hq
   omega
theorem wV {h:Heap}{it:Addr}{first f':Np}{i n ep:Nat}{a:Addr} (e:h.get? it=some (itO first i n ep a)):((h.update it (OG fun x=>x.setIfInBounds 0 f')).update it (OG fun x=>x.setIfInBounds 1 (.int ((i:Int)+1) 0))).get? it=some (itO f' (i+1) n ep a):=by
 have e1:=Od (OG fun x=>x.setIfInBounds 0 f') e rfl
 have e2:=Od (OG fun x=>x.setIfInBounds 1 (.int ((i:Int)+1) 0)) e1 rfl
 rw[e2]
 rfl
theorem Ay {h:Heap}{it:Addr}{first:Np}{i n ep:Nat}{a:Addr} (e:h.get? it=some (itO first i n ep a)):(h.update it (OG fun x=>x.setIfInBounds 1 (.int ((i:Int)+1) 0))).get? it=some (itO first (i+1) n ep a):=by
 have e2:=Od (OG fun x=>x.setIfInBounds 1 (.int ((i:Int)+1) 0)) e rfl
 rw[e2]
 rfl
theorem wW {a:Addr}{o:Obj}{es:Array (Int×Np)}{ep:Nat}{t:SetTable}{sl g:Nat}{Q:Option (Np×Nat)->Nr->Prop} (ho:s.heap.get? a=some o) (hd:o.data=.set es ep t) (hf:t.fits es.size=true) (hb:w.params.followText "set-order"=true)
 (h:Q ((Qp (w.params.setOrder a ep) es)[g]?.map fun e=>(e.2,sl)) s):wpAny (NR prog w) A (setNext a sl g ep) Q E s:=by
 unfold setNext
 refine wpAny_bind (O7 ho hd hf ?_)
 dsimp only
 refine wpAny_bind (iZ ?_)
 rw[if_pos hb,if_neg (by simp)]
 refine wpAny_bind ?_
 unfold setWalk
 refine wpAny_bind (O7 ho hd hf ?_)
 dsimp only
 refine wpAny_bind (iZ ?_)
 rw[if_pos hb]
 refine wpAny_bind (wpAny_askSetting (wpAny_pure (wpAny_pure ?_)))
 exact h
theorem wX {a:Addr}{o:Obj}{es:Array (Int×Np)}{ep:Nat}{t:SetTable}{sl g:Nat}{Q:Option (Np×Nat)->Nr->Prop} (ho:s.heap.get? a=some o) (hd:o.data=.set es ep t) (hf:t.fits es.size=true) (hb:w.params.followText "set-order"=false)
 (hdr:(!t.plain&&decide (es.size > 1))=false) (ht:Tb false t) (h:Q (match es[SetTable.below t.place sl]?,t.place[SetTable.below t.place sl]? with | some (_,x),some j=>some (x,j+1) | _,_=>none) s):wpAny (NR prog w) A (setNext a sl g ep) Q E s:=by
 unfold setNext
 refine wpAny_bind (O7 ho hd hf ?_)
 dsimp only
 refine wpAny_bind (iZ ?_)
 rw[hb,if_neg Ob]
 show wpAny _ _ (if (!t.plain&&decide (es.size > 1))=true then _ else _) _ _ s
 rw[hdr,if_neg Ob]
 refine wpAny_bind ?_
 show wpAny _ _ (if (!t.led&&!es.isEmpty)=true then unsupported "set:maker-not-led" else pure ()) _ _ s
 rw[ht.led]
 show wpAny _ _ (if (!(!false)&&!es.isEmpty)=true then unsupported "set:maker-not-led" else pure ()) _ _ s
 rw[if_neg (by simp)]
 exact wpAny_pure (wpAny_pure h)
theorem D3 {a:Addr}{o:Obj}{es:Array (Int×Np)}{ep:Nat}{t:SetTable}{p:Nat}{e:Int×Np}{Q:Np->Nr->Prop} (ho:s.heap.get? a=some o) (hd:o.data=.set es ep t) (hf:t.fits es.size=true) (he:es[p]?=some e) (h:Q e.2 s):wpAny (NR prog w) A (setNextDrawn a p ep) Q E s:=by
 unfold setNextDrawn
 refine wpAny_bind (O7 ho hd hf ?_)
 dsimp only
 rw[if_neg (by simp),he]
 exact wpAny_pure h
theorem Az {it a:Addr}{ord:List Np}{i:Nat}{x:Np}{Q:SN->Nr->Prop} (N:NX w s.heap it a ord i) (hne:it≠a) (hx:ord[i]?=some x) (hQ:∀ h',NX w h' it a ord (i+1)->Ou it s.heap h'->Q (.done (.ret x)) { s with heap:=h' }) :
 wpAny (NR prog w) A (Builtin.«set_iterator.__next__» { pos:=[.ref it] }) Q E s:=by
 obtain ⟨o,es,ep,t,first,ho,hd,hf,hi,m⟩:=N.ex
 have keep:∀ {h':Heap},Ou it s.heap h'->∀ b o,(∃ xs n,o.data=Data.seq xs n)->s.heap.get? b=some o->h'.get? b=some o:=fun {h'} sb b ob hs e=>(sb.2 b (fun z=>by
  subst z
  rw[hi] at e;cases e
  obtain ⟨xs,n,hs⟩:=hs
  cases hs)).trans e
 unfold Builtin.«set_iterator.__next__»
 refine wpAny_bind (wpAny_pure ?_)
 refine wpAny_bind (wpAny_fieldsOf hi rfl ?_)
 dsimp only
 refine wpAny_bind (Rx ho hd hf ?_)
 rw[if_neg (by simp)]
 cases m with
 | @A z _ hb =>
  have hg:(Qp (w.params.setOrder a ep) es)[i]?.map (fun e=>(e.2,z.toNat))=some (x,z.toNat):=by
   rw[N1] at hx
   obtain ⟨e,e1,e2⟩:=Option.map_eq_some_iff.mp hx
   have e1':(Qp (w.params.setOrder a ep) es)[i]?=some e:=by simpa using e1
   rw[e1',← e2];rfl
  refine wpAny_bind (wW ho hd hf hb ?_)
  show wpAny _ _ (match (Qp (w.params.setOrder a ep) es)[i]?.map (fun e=>(e.2,z.toNat)) with | some (x,next)=>_ | none=>_) _ _ s
  rw[hg]
  refine wpAny_bind (PK hi rfl (by simp) ?_)
  refine wpAny_bind (PK (Od _ hi rfl) rfl (by simp) ?_)
  have sb:Ou it s.heap ((s.heap.update it (OG fun y=>y.setIfInBounds 0 (.int (z.toNat:Int) 0))).update it (OG fun y=>y.setIfInBounds 1 (.int ((i:Int)+1) 0))):=(Og ..).trans (Og ..)
  exact wpAny_pure (hQ _ ⟨⟨o,es,ep,t,_,(sb.2 a (Os hne)).trans ho,hd,hf,wV hi,.A hb⟩⟩ sb)
 | @B T pl _ hT hp =>
  have hs:∀ p∈pl,((fun p:Nat=>es[p]?.map (·.2)) p).isSome=true:=fun p hm=>by
   have:=hp p hm
   simp[this]
  rw[bI _ pl hs] at hx
  obtain ⟨p,e1,e2⟩:=Option.bind_eq_some_iff.mp hx
  obtain ⟨e,e3,e4⟩:=Option.map_eq_some_iff.mp e2
  subst e4
  obtain ⟨oT,g1,g2,nT,g3⟩:=id hT
  show wpAny _ _ (seqItems? (.ref T) >>= _) _ _ s
  refine wpAny_bind (wpAny_seqItems g1 g3 ?_)
  have e5:((pl.map fun (p:Nat)=>Qt p 0).toArray)[i]?=some (.int p 0):=by simp[e1]
  dsimp only
  rw[Pu,e5]
  dsimp only
  refine wpAny_bind (D3 ho hd hf (by rw[Pu];exact e3) ?_)
  refine wpAny_bind (PK hi rfl (by simp) ?_)
  have sb:Ou it s.heap (s.heap.update it (OG fun y=>y.setIfInBounds 1 (.int ((i:Int)+1) 0))):=Og ..
  refine wpAny_pure (hQ _ ⟨⟨o,es,ep,t,_,(sb.2 a (Os hne)).trans ho,hd,hf,Ay hi,?_⟩⟩ sb)
  exact (Md.B (i:=i+1) hT hp).at (keep sb)
 | C hb hdr ht =>
  have hn:t.place.size=es.size:=by
   unfold SetTable.fits at hf
   simp only[Nt,beq_iff_eq] at hf
   exact hf.1
  rw[N1] at hx
  obtain ⟨e,e1,e2⟩:=Option.map_eq_some_iff.mp hx
  have e1':es[i]?=some e:=by simpa using e1
  have hlt:i < es.size:=by
   rcases NK i es.size with q | q
   ·exact q
   ·rw[OB q] at e1';cases e1'
  obtain ⟨p1,j,p2,p3⟩:=o6 ht.ri hn hlt
  subst e2
  refine wpAny_bind (wX ho hd hf hb hdr ht ?_)
  rw[Pu,p1,e1',p2]
  refine wpAny_bind (PK hi rfl (by simp) ?_)
  refine wpAny_bind (PK (Od _ hi rfl) rfl (by simp) ?_)
  have sb:Ou it s.heap ((s.heap.update it (OG fun y=>y.setIfInBounds 0 (.int ((j+1:Nat):Int) 0))).update it (OG fun y=>y.setIfInBounds 1 (.int ((i:Int)+1) 0))):=(Og ..).trans (Og ..)
  refine wpAny_pure (hQ _ ⟨⟨o,es,ep,t,_,(sb.2 a (Os hne)).trans ho,hd,hf,wV hi,?_⟩⟩ sb)
  rw[← p3]
  exact .C hb hdr ht
theorem ny {it:Addr}{f:Nat}{first:Np}{i n ep:Nat}{a:Addr}{Q:SN->Nr->Prop} (hh:A.handled=none) {h0:Heap} (sb0:Ou it h0 s.heap) (hi:∃ o vs,s.heap.get? it=some o/\o.data=.fields vs/\vs.size=5) (hf:f < 5)
 (hE:∀ h' e,RV it h0 h'->(∃ o,h'.get? e=some o/\o.cls=.type "StopIteration")->E (.ref e) { s with heap:=h' }) :
 wpAny (NR prog w) A (setField (.ref it) f .none >>= fun _=>newExc (.type "StopIteration") [] >>= fun e=>(raiseNew e:Sem SN)) Q E s:=by
 obtain ⟨o,vs,ho,hd,hv⟩:=hi
 refine wpAny_bind (PK ho hd (by omega) ?_)
 refine wpAny_bind ?_
 simp only[newExc,newTuple]
 refine wpAny_bind (Oc ?_ (by size_fits))
 refine wpAny_bind (m:=firstArgMember _ _) (wpAny_of_eq (a:=P9) (by first | rfl | (simp only[firstArgMember];rfl)) ?_)
 refine Oc ?_ (by size_fits)
 simp only[raiseNew]
 refine wpAny_bind (wpAny_handled ?_)
 rw[hh]
 refine wpAny_throw ?_
 exact hE _ _ (((sb0.trans (Og ..)).extBut.push _).push _) ⟨_,Nz _ rfl,rfl⟩
theorem D4 {it a:Addr}{ord:List Np}{i:Nat}{Q:SN->Nr->Prop} (hh:A.handled=none) (N:NX w s.heap it a ord i) (hx:i=ord.length) (hn:∀ o es ep t,s.heap.get? a=some o->o.data=.set es ep t->ord.length=es.size)
 (hE:∀ h' e,RV it s.heap h'->(∃ o,h'.get? e=some o/\o.cls=.type "StopIteration")->E (.ref e) { s with heap:=h' }) :
 wpAny (NR prog w) A (Builtin.«set_iterator.__next__» { pos:=[.ref it] }) Q E s:=by
 obtain ⟨o,es,ep,t,first,ho,hd,hf,hi,m⟩:=N.ex
 have hn':=hn o es ep t ho hd
 unfold Builtin.«set_iterator.__next__»
 refine wpAny_bind (wpAny_pure ?_)
 refine wpAny_bind (wpAny_fieldsOf hi rfl ?_)
 dsimp only
 refine wpAny_bind (Rx ho hd hf ?_)
 rw[if_neg (by simp)]
 cases m with
 | @A z _ hb =>
  have hg:(Qp (w.params.setOrder a ep) es)[i]?.map (fun e=>(e.2,z.toNat))=none:=by
   rw[hx,NP,OF,OB (Nu _)];rfl
  refine wpAny_bind (wW ho hd hf hb ?_)
  show wpAny _ _ (match (Qp (w.params.setOrder a ep) es)[i]?.map (fun e=>(e.2,z.toNat)) with | some (x,next)=>_ | none=>_) _ _ s
  rw[hg]
  exact ny (first:=.none) (i:=0) (n:=0) (ep:=0) (a:=a) hh (QN _ _) ⟨_,_,hi,rfl,rfl⟩ (by decide) hE
 | @B T pl _ hT hp =>
  have hs:∀ p∈pl,((fun p:Nat=>es[p]?.map (·.2)) p).isSome=true:=fun p hm=>by
   have:=hp p hm
   simp[this]
  have hl:i=pl.length:=by
   have h1:=bI _ pl hs pl.length
   have h2:=List.length_filterMap_le (fun p:Nat=>es[p]?.map (·.2)) pl
   rcases NK i pl.length with q | q
   ·have h3:=bI _ pl hs i
    rw[hx,NF (Nu _),NB (by omega)] at h3
    have:=hs pl[(List.filterMap (fun p:Nat=>es[p]?.map (·.2)) pl).length] (QF _)
    rw[OJ] at h3
    dsimp only at this
    rw[← h3] at this
    cases this
   ·omega
  obtain ⟨oT,g1,g2,nT,g3⟩:=id hT
  show wpAny _ _ (seqItems? (.ref T) >>= _) _ _ s
  refine wpAny_bind (wpAny_seqItems g1 g3 ?_)
  have e5:((pl.map fun (p:Nat)=>Qt p 0).toArray)[i]?=none:=by simp[hl]
  dsimp only
  rw[Pu,e5]
  dsimp only
  refine wpAny_bind (PK hi rfl (by simp) ?_)
  exact ny (s:={ s with heap:=s.heap.update it (OG fun y=>y.setIfInBounds 0 (Pc 0)) }) (first:=.none) (i:=0) (n:=0) (ep:=0) (a:=a) hh (Og ..) ⟨_,_,Od _ hi rfl,rfl,rfl⟩ (by decide) hE
 | C hb hdr ht =>
  have hns:t.place.size=es.size:=by
   unfold SetTable.fits at hf
   simp only[Nt,beq_iff_eq] at hf
   exact hf.1
  have hie:i=es.size:=by rw[hx,NP,OF]
  have hb2:=wU ht.ri hns
  refine wpAny_bind (wX ho hd hf hb hdr ht ?_)
  have e1:es[SetTable.below t.place (slotAt t.place i)]?=none:=OB (by rw[hie];exact hb2)
  rw[Pu,e1]
  exact ny (first:=.none) (i:=0) (n:=0) (ep:=0) (a:=a) hh (QN _ _) ⟨_,_,hi,rfl,rfl⟩ (by decide) hE
theorem AA {it a:Addr}{ord:List Np}{i:Nat}{x:Np}{Q:Option Np->Nr->Prop} (N:NX w s.heap it a ord i) (hne:it≠a) (hx:ord[i]?=some x) (hQ:∀ h',NX w h' it a ord (i+1)->Ou it s.heap h'->Q (some x) { s with heap:=h' }) :
 wpAny (NR prog w) A (RL (.ref it)) Q E s:=by
 have hT:s.TypeIs (.ref it) "set_iterator":=by
  obtain ⟨o,es,ep,t,first,ho,hd,hf,hi,m⟩:=N.ex
  exact ⟨_,hi,rfl⟩
 unfold RL
 exact wpAny_bind (wpAny_attempt (Pa (name:=NN "__next__") hT i6 (PL i6 hT o5 (Az N hne hx fun h' k1 k2=>⟨x,rfl,wpAny_pure (hQ h' k1 k2)⟩) (rY _))))
theorem D5 {it a:Addr}{ord:List Np}{i:Nat}{Q:Option Np->Nr->Prop} (hh:A.handled=none) (N:NX w s.heap it a ord i) (hx:i=ord.length) (hn:∀ o es ep t,s.heap.get? a=some o->o.data=.set es ep t->ord.length=es.size) (hQ:∀ h',RV it s.heap h'->Q none { s with heap:=h' }) :
 wpAny (NR prog w) A (RL (.ref it)) Q E s:=by
 have hT:s.TypeIs (.ref it) "set_iterator":=by
  obtain ⟨o,es,ep,t,first,ho,hd,hf,hi,m⟩:=N.ex
  exact ⟨_,hi,rfl⟩
 unfold RL
 refine wpAny_bind (wpAny_attempt (Pa (name:=NN "__next__") hT i6 (PL i6 hT o5 (D4 (A:=A.in1) hh N hx hn fun h' e k1 k2=>?_) (rY _))))
 obtain ⟨o,ho,hc⟩:=k2
 refine wpAny_bind (Qi (T:="StopIteration") (b:=true) ⟨o,ho,hc⟩ isSubtype_stop ?_)
 exact wpAny_pure (hQ _ k1)
theorem iz {α:Type}:∀ {l:List α}{i:Nat} (h:i < l.length),(l[i] :: l.eraseIdx i).Perm l
 | x :: l,0,_=>.refl _
 | x :: l,i+1,h=>by
  have hl:i < l.length:=by simpa using h
  have:=iz hl
  show (l[i] :: x :: l.eraseIdx i).Perm (x :: l)
  exact (List.Perm.swap _ _ _).trans (this.cons x)
theorem wp_choose {src:Source}{n:Nat}{Q:Nat->Nr->Prop} (hn:n≠0) (h:∀ i d,i < n->Q i { s with drawn:=d }):wpAny (NR prog w) A (choose src n) Q E s:=by
 intro Γ p _
 unfold choose
 rw[Sem.wp_choose]
 exact ⟨hn,h _ _ (QY _ (by omega))⟩
theorem uQ {α:Type}:∀ (n:Nat) (xs:List α) (s:Nr) {Q:List α->Nr->Prop},xs.length=n->(∀ ys d,ys.Perm xs->Q ys { s with drawn:=d })->wpAny (NR prog w) A (drawOrder n xs) Q E s:=by
 intro n
 induction n with
 | zero =>
  intro xs s Q hl h
  have:=List.length_eq_zero_iff.mp hl
  subst this
  exact wpAny_pure (h [] s.drawn .nil)
 | succ n ih =>
  intro xs s Q hl h
  cases xs with
  | nil=>cases hl
  | cons x r =>
   show wpAny _ _ (choose Source.order (x :: r).length >>= fun i=>match (x :: r)[i]? with
    | some y=>drawOrder n ((x :: r).eraseIdx i) >>= fun l=>pure (y :: l)
    | none=>unsupported "internal:drawOrder") _ _ s
   refine wpAny_bind (wp_choose (by simp) fun i d hi=>?_)
   rw[NB hi]
   dsimp only
   refine wpAny_bind (ih _ _ (by rw[Sh hi];omega) fun ys d' hp=>?_)
   refine wpAny_pure (h _ d' ?_)
   exact (hp.cons _).trans (iz hi)
theorem AB {α:Type} (next:Nat->Nat):∀ (fuel k:Nat) (left:List α) (out:Array α),left.length<=fuel->(P8 next fuel k left out).toList.Perm (out.toList++left):=by
 intro fuel
 induction fuel with
 | zero =>
  intro k left out h
  have:=List.length_eq_zero_iff.mp (Nat.le_zero.mp h)
  subst this
  show out.toList.Perm _
  rw[Oa]
 | succ fuel ih =>
  intro k left out h
  cases left with
  | nil =>
   have e:P8 next (fuel+1) k ([]:List α) out=out:=by
    show (match ([]:List α)[next k % 0]? with | some x=>P8 next fuel (k+1) (([]:List α).eraseIdx (next k % 0)) (out.push x) | none=>out)=out
    rfl
   rw[e,Oa]
  | cons x r =>
   have hi:next k % (x :: r).length < (x :: r).length:=QY _ (by simp)
   have e:P8 next (fuel+1) k (x :: r) out=P8 next fuel (k+1) ((x :: r).eraseIdx (next k % (x :: r).length)) (out.push (x :: r)[next k % (x :: r).length]):=by
    show (match (x :: r)[next k % (x :: r).length]? with | some y=>P8 next fuel (k+1) ((x :: r).eraseIdx (next k % (x :: r).length)) (out.push y) | none=>out)=_
    rw[NB hi]
   rw[e]
   refine (ih _ _ _ (by rw[Sh hi];simp at h ⊢;omega)).trans ?_
   rw[Array.toList_push,Ot]
   exact (iz hi).append_left _
theorem uR {α:Type} (next:Nat->Nat) (xs:Array α):(Qp next xs).toList.Perm xs.toList:=by
 have:=AB next xs.size 0 xs.toList #[] (by simp)
 simpa [Qp] using this
theorem wY {a:Addr}{o:Obj}{es:Array (Int×Np)}{ep:Nat}{t:SetTable}{Q:Np->Nr->Prop} (ho:s.heap.get? a=some o) (hx:o.ExactSet) (hd:o.data=.set es ep t) (hf:t.fits es.size=true) (hb:es.size < Qd) (ht:Tb (w.params.followText "set-order") t)
 (hQ:∀ h' d it ord,NX w h' it a ord 0->(∀ b o,s.heap.get? b=some o->h'.get? b=some o)->s.heap.objs.size<=it->s.heap.objs.size<=h'.objs.size->ord.Perm (es.toList.map (·.2))->Q (.ref it) { s with heap:=h',drawn:=d }) :
 wpAny (NR prog w) A (pyIter (.ref a)) Q E s:=by
 have hT:s.TypeIs (.ref a) "set":=⟨o,ho,hx.1⟩
 refine wpAny_pyIter_slot hT Sx (PL Sx hT qI ?_ (PySem.F.args_set_iter_1 _))
 unfold Builtin.«frozenset.__iter__» Builtin.Frozenset.slot0
 refine wpAny_bind (wpAny_bind (wpAny_pure (wpAny_pure ?_)))
 refine wpAny_bind ?_
 unfold Builtin.Frozenset.sizeOf
 refine wpAny_bind (Rx ho hd hf (wpAny_pure ?_))
 refine wpAny_bind ?_
 unfold setDrawn
 refine wpAny_bind (O7 ho hd hf ?_)
 dsimp only
 refine wpAny_bind (iZ (wpAny_pure ?_))
 have nl:typeLookup (.type "set_iterator") (NN "__next__")=pure (some (.builtin "set_iterator.__next__")):=i6.lookup
 show wpAny _ _ (if (!w.params.followText "set-order"&&(!t.plain&&decide (es.size > 1)))=true then _ else _) _ _ s
 have al:a < s.heap.objs.size:=Nx ho
 by_cases c:(!w.params.followText "set-order"&&(!t.plain&&decide (es.size > 1)))=true
 ·rw[if_pos c]
  refine wpAny_bind (uQ es.size (ND es.size) s (by simp) fun ys d hp=>?_)
  refine wpAny_bind ?_
  simp only[newTuple]
  have hsz:ys.length=es.size:=by rw[hp.length_eq,O5]
  refine Oc ?_ (by
   have:=P4 hb
   show (List.map (fun (i:Nat)=>Pc i) ys).toArray.size<=sizeLine
   rw[Nv,NP];omega)
  refine wpAny_bind (wpAny_setEpoch_of (Nq _ ho) hd hf ?_)
  refine wpAny_bind ?_
  unfold newFields
  refine Oc ?_ (by size_fits)
  refine wpAny_pure ⟨_,rfl,"set_iterator",_,⟨_,Nz _ rfl,rfl⟩,nl,?_⟩
  have up:∀ b o,s.heap.get? b=some o->((s.heap.push { cls:=.type "tuple",data:=.seq (ys.map fun (i:Nat)=>Pc i).toArray }).push { cls:=.type "set_iterator",data:=.fields #[.ref s.heap.objs.size,Pc 0,.ref a,Pc es.size,Pc ep] }).get? b=some o:=fun b o e=>Nq _ (Nq _ e)
  have lt:∀ p∈ys,p < es.size:=fun p hm=>List.mem_range.mp (hp.mem_iff.mp hm)
  refine hQ _ d _ _ ⟨⟨o,es,ep,t,_,up _ _ ho,hd,hf,Nz _ rfl,.B (pl:=ys) ⟨_,Nq _ (Nz _ rfl),rfl,_,rfl⟩ lt⟩⟩ up (by rw[OO];exact Ox _) (by rw[OO,OO];exact Nat.le_succ_of_le (Ox _)) ?_
  have h1:=hp.filterMap fun p=>es[p]?.map (·.2)
  refine h1.trans ?_
  have h2:(ND es.size).filterMap (fun p=>es[p]?.map (·.2))=es.toList.map (·.2):=by
   refine List.ext_getElem? fun i=>?_
   rw[bI _ _ (fun p hm=>by have:=List.mem_range.mp hm;simp[this])]
   rcases NK i es.size with q | q
   ·rw[Qh q];simp
   ·rw[NF (by simpa using q),NF (by simpa using q)];rfl
  rw[h2]
 ·rw[if_neg c]
  refine wpAny_bind (wpAny_pure ?_)
  refine wpAny_bind (wpAny_setEpoch_of ho hd hf ?_)
  refine wpAny_bind ?_
  unfold newFields
  refine Oc ?_ (by size_fits)
  refine wpAny_pure ⟨_,rfl,"set_iterator",_,⟨_,Nz _ rfl,rfl⟩,nl,?_⟩
  have up:∀ b o,s.heap.get? b=some o->(s.heap.push { cls:=.type "set_iterator",data:=.fields #[Pc 0,Pc 0,.ref a,Pc es.size,Pc ep] }).get? b=some o:=fun b o e=>Nq _ e
  cases hbt:w.params.followText "set-order" with
  | true =>
   refine hQ _ s.drawn _ _ ⟨⟨o,es,ep,t,_,up _ _ ho,hd,hf,Nz _ rfl,.A (z:=0) hbt⟩⟩ up (Nu _) (by rw[OO];exact Ox _) ?_
   exact (uR _ es).map _
  | false =>
   rw[hbt] at c ht
   have hdr:(!t.plain&&decide (es.size > 1))=false:=by
    cases z:(!t.plain&&decide (es.size > 1)) with
    | false=>rfl
    | true=>rw[z] at c;exact absurd rfl c
   exact hQ _ s.drawn _ _ ⟨⟨o,es,ep,t,_,up _ _ ho,hd,hf,Nz _ rfl,.C (i:=0) hbt hdr ht⟩⟩ up (Nu _) (by rw[OO];exact Ox _) (.refl _)
end
end BX
end
section
namespace BT
open PySem
inductive D where
 | non | bl (b:Bool) | int (i:Int) | str (x:Str) | tup (xs:List D) | lst (xs:List D)
inductive FK where
 | f (x:Str) | m (c x:Str) | l (i:Nat)
 deriving DecidableEq
instance:Coe String FK:=⟨fun s=>.f (NN s)⟩
inductive Cp where
 | p (d:D) | o (n:Nat)
inductive W where
 | p (d:D) | r (n:Nat) | k (kvs:List (Str×D)) | o (n:Nat) | c (f:FK) (cs:List Cp)
noncomputable def Cp.w:Cp->W
 | .p d=>.p d
 | .o n=>.o n
@[simp] theorem Cp.w_p (d:D):Cp.w (.p d)=.p d:=rfl
@[simp] theorem Cp.w_o (n:Nat):Cp.w (.o n)=.o n:=rfl
noncomputable def o7:W->Option Cp
 | .p d=>some (.p d)
 | .o n=>some (.o n)
 | .r _=>none
 | .k _=>none
 | .c _ _=>none
@[simp] theorem JN (d:D):o7 (.p d)=some (.p d):=rfl
@[simp] theorem JO (n:Nat):o7 (.o n)=some (.o n):=rfl
noncomputable abbrev Ky:=Int ⊕ Str
inductive Cl where
 | l (xs:List D) | o (c:Str) (fs:List (Str×W)) | d (kvs:List (Ky×D))
noncomputable abbrev HH:=List Cl
noncomputable abbrev Sl:=List (Option W)
set_option genInjectivity false in
inductive Bin where
 | add | sub | mul | mod | fdiv | pow
set_option genInjectivity false in
inductive Cm where
 | eq | ne | lt | le | gt | ge | isN | notN | mem | nmem
set_option genInjectivity false in
inductive Sr where
 | seq | rng1 | rng2 | rev | enu | zip2
inductive Bi where
 | len | abs | int | str | bool | list | tuple | all | any | isInt | isBool | isStr | isTuple | isList | min2 | max2
 | sum | sorted | max1 | lzip | nset | sset
set_option genInjectivity false in
inductive Me where
 | append | pop | extend | tindex | sindex | dget
set_option genInjectivity false in
mutual
inductive E where
 | var (i:Nat) (x:Str)
 | cst (d:D)
 | glo (x:Str)
 | bin (o:Bin) (a b:E)
 | neg (a:E)
 | not (a:E)
 | and (a b:E)
 | or (a b:E)
 | cmp (o:Cm) (a b:E)
 | chain (o o':Cm) (a b c:E)
 | ite (c a b:E)
 | tup (as:Es)
 | lst (mu:Bool) (as:Es)
 | idx (a i:E)
 | slc (a:E) (lo hi:Es)
 | rvs (a:E)
 | stp (mu:Bool) (k:Int) (a:E)
 | call (f:Str) (as:Es)
 | fld (a:E) (f:Str)
 | meth (o:E) (m:Str) (as:Es)
 | make (c:Str) (as:Es)
 | bi (b:Bi) (mu:Bool) (as:Es)
 | lsr (mu:Bool) (sr:Sr) (as:Es)
 | me (m:Me) (o:E) (as:Es)
 | comp (mu:Bool) (sr:Sr) (sa:Es) (tg:List Str) (fv:List (Nat×Str)) (cond:Es) (elt:E)
 | callv (i:Nat) (x:Str) (as:Es)
 | methL (o:E) (m:Str) (as:Es) (L:Nat) (fv:List (Nat×Str))
 | dnew
 | dgt (o k d:E)
 | dsi (o:E)
 | dli (o:E)
inductive Es where
 | nil
 | cons (a:E) (as:Es)
end
set_option genInjectivity false in
inductive S where
 | nil
 | seq (a b:S)
 | set (i:Nat) (x:Str) (e:E)
 | unp (xs:List (Nat×Str)) (e:E)
 | aug (i:Nat) (x:Str) (o:Bin) (e:E)
 | put (i:Nat) (x:Str) (k e:E)
 | putd (i:Nat) (x:Str) (k e:E)
 | setf (o:E) (f:Str) (e:E)
 | augf (o:E) (f:Str) (op:Bin) (e:E)
 | ex (e:E)
 | ret (e:E)
 | ife (c:E) (a b:S)
 | whl (c:E) (b:S)
 | for (tg:List (Nat×Str)) (sr:Sr) (sa:Es) (b:S)
 | brk | cnt
 | bad
set_option genInjectivity false in
structure Fn where
 ps:List Str
 ns:List Str
 body:S
noncomputable def bnd {α β:Type} (x:Option (α×HH)) (k:α->HH->Option β):Option β :=
 match x with | some (a,h)=>k a h | none=>none
@[simp] theorem bg {α β:Type} (a:α) (h:HH) (k:α->HH->Option β):bnd (some (a,h)) k=k a h:=rfl
@[simp] theorem G9 {α β:Type} (k:α->HH->Option β):bnd none k=none:=rfl
@[simp] noncomputable def lim:Nat:=100000
mutual
@[simp] noncomputable def eqv:D->D->Bool
 | .non,.non=>true
 | .bl a,.bl b=>a==b
 | .bl a,.int j=>(if a then (1:Int) else 0)==j
 | .int i,.bl b=>i==(if b then (1:Int) else 0)
 | .int i,.int j=>i==j
 | .str x,.str y=>x==y
 | .tup xs,.tup ys=>lQ xs ys
 | .lst xs,.lst ys=>lQ xs ys
 | _,_=>false
@[simp] noncomputable def lQ:List D->List D->Bool
 | [],[]=>true
 | x :: xs,y :: ys=>eqv x y&&lQ xs ys
 | _,_=>false
end
noncomputable def nA:Cl->Option (List D)
 | .l xs=>some xs
 | .o _ _=>none
 | .d _=>none
noncomputable def o8:Cl->Option (Str×List (Str×W))
 | .l _=>none
 | .o c fs=>some (c,fs)
 | .d _=>none
noncomputable def uS:Cl->Option (List (Ky×D))
 | .l _=>none
 | .o _ _=>none
 | .d kvs=>some kvs
@[simp] theorem Lb (kvs:List (Ky×D)):nA (.d kvs)=none:=rfl
@[simp] theorem Lc (kvs:List (Ky×D)):o8 (.d kvs)=none:=rfl
@[simp] theorem Ld (kvs:List (Ky×D)):uS (.d kvs)=some kvs:=rfl
@[simp] theorem Lg (xs:List D):uS (.l xs)=none:=rfl
@[simp] theorem Lh (c:Str) (fs:List (Str×W)):uS (.o c fs)=none:=rfl
@[simp] theorem Li (xs:List D):nA (.l xs)=some xs:=rfl
@[simp] theorem Lj (c:Str) (fs:List (Str×W)):nA (.o c fs)=none:=rfl
@[simp] theorem Lk (xs:List D):o8 (.l xs)=none:=rfl
@[simp] theorem D6 (c:Str) (fs:List (Str×W)):o8 (.o c fs)=some (c,fs):=rfl
noncomputable def lat (h:HH) (n:Nat):Option (List D):=(h[n]?).bind nA
noncomputable def oat (h:HH) (n:Nat):Option (Str×List (Str×W)):=(h[n]?).bind o8
noncomputable def dat (h:HH) (n:Nat):Option (List (Ky×D)):=(h[n]?).bind uS
noncomputable def o9:D->Option Ky
 | .non=>none
 | .bl _=>none
 | .int i=>some (.inl i)
 | .str x=>some (.inr x)
 | .tup _=>none
 | .lst _=>none
@[simp] theorem Hf (i:Int):o9 (.int i)=some (.inl i):=rfl
@[simp] theorem Hg (x:Str):o9 (.str x)=some (.inr x):=rfl
noncomputable def qJ:Ky->D
 | .inl i=>.int i
 | .inr x=>.str x
@[simp] theorem Ll (i:Int):qJ (.inl i)=.int i:=rfl
@[simp] theorem Lm (x:Str):qJ (.inr x)=.str x:=rfl
noncomputable def CZ (kvs:List (Ky×D)) (k:Ky):Option D:=(kvs.find? fun kv=>decide (kv.1=k)).map (·.2)
noncomputable def rZ (kvs:List (Ky×D)) (k:Ky) (v:D):List (Ky×D) :=
 if (kvs.any fun kv=>decide (kv.1=k))=true then kvs.map (fun kv=>if kv.1=k then (kv.1,v) else kv) else kvs++[(k,v)]
noncomputable def nB (kvs:List (Ky×D)):List D:=kvs.map fun q=>.tup [qJ q.1,q.2]
noncomputable def rd (w:W) (h:HH):Option D:=match w with
 | .p d=>some d
 | .r n=>(lat h n).map D.lst
 | .k _=>none
 | .o _=>none
 | .c _ _=>none
@[simp] theorem Nb (d:D) (h:HH):rd (.p d) h=some d:=rfl
noncomputable def big (i:Int):Bool:=decide (i.natAbs < 2 ^ 64)
noncomputable def rep (k:Nat) (xs:List D):List D:=(NQ k xs).flatten
noncomputable def jv:Bin->D->D->Option D
 | .add,.int i,.int j=>some (.int (i+j))
 | .add,.str x,.str y=>if x.length+y.length<=lim then some (.str (x++y)) else none
 | .add,.tup xs,.tup ys=>if xs.length+ys.length<=lim then some (.tup (xs++ys)) else none
 | .add,.lst xs,.lst ys=>if xs.length+ys.length<=lim then some (.lst (xs++ys)) else none
 | .sub,.int i,.int j=>some (.int (i - j))
 | .mul,.int i,.int j=>if big i||big j then some (.int (i*j)) else none
 | .mul,.tup xs,.int k=>if 2<=k&&k<=1000&&!xs.isEmpty&&xs.length*k.toNat<=lim then some (.tup (rep k.toNat xs)) else none
 | .mul,.lst xs,.int k=>if -1000<=k&&k<=1000&&xs.length*k.toNat<=lim then some (.lst (rep k.toNat xs)) else none
 | .mod,.int i,.int j=>if 0 < j then some (.int (i % j)) else none
 | .fdiv,.int i,.int j=>if 0 < j&&j < 1073741824 then some (.int (i / j)) else none
 | .pow,.int i,.int j=>if 0<=j&&j<=100&&big i then some (.int (i ^ j.toNat)) else none
 | _,_,_=>none
noncomputable def kG:Bin->D->D->Option D
 | .add,.int i,.int j=>some (.int (i+j))
 | .sub,.int i,.int j=>some (.int (i - j))
 | .mul,.int i,.int j=>if big i||big j then some (.int (i*j)) else none
 | _,_,_=>none
@[simp] theorem Hh (i j:Int):kG .add (.int i) (.int j)=some (.int (i+j)):=rfl
@[simp] theorem Hi (i j:Int):kG .sub (.int i) (.int j)=some (.int (i - j)):=rfl
@[simp] theorem pq (i j:Int):kG .mul (.int i) (.int j)=if big i||big j then some (.int (i*j)) else none:=rfl
@[simp] noncomputable def place (n:Nat) (i:Int):Option Nat :=
 if 0<=i then (if i < n then some i.toNat else none) else if -(n:Int)<=i then some (i+n).toNat else none
@[simp] noncomputable def atP {α:Type} (xs:List α) (i:Int):Option α:=(place xs.length i).bind fun j=>xs[j]?
@[simp] noncomputable def dw (k:Str):List (Str×D)->Option D
 | []=>none
 | (x,d) :: r=>if k=x then some d else dw k r
noncomputable def bM:D->D->Option D
 | .tup xs,.int i=>atP xs i
 | .lst xs,.int i=>atP xs i
 | .str x,.int i=>if x.length<=lim then (atP x.cps.toList i).map fun c=>.str ⟨#[c]⟩ else none
 | _,_=>none
@[simp] noncomputable def clip (n d:Nat):Option Int->Nat
 | none=>d
 | some v=>if v < 0 then (v+(n:Int)).toNat else if v<=(n:Int) then v.toNat else n
@[simp] noncomputable def cut (xs:List D) (lo hi:Option Int):List D:=(xs.drop (clip xs.length 0 lo)).take (clip xs.length xs.length hi - clip xs.length 0 lo)
@[simp] noncomputable def nC:List D->Option (Option Int)
 | []=>some none
 | [.int i]=>some (some i)
 | _=>none
noncomputable def qK (x:D) (lo hi:Option Int):Option D:=match x with
 | .tup xs=>some (.tup (cut xs lo hi))
 | .lst xs=>some (.lst (cut xs lo hi))
 | _=>none
noncomputable def dok:Nat->D->Bool
 | _,.non=>true
 | _,.bl _=>true
 | _,.int _=>true
 | _,.str _=>true
 | 0,.tup _=>false
 | 0,.lst _=>false
 | n+1,.tup xs=>xs.all (dok n)
 | n+1,.lst xs=>xs.all (dok n)
@[simp] theorem JP (n:Nat):dok n .non=true:=by cases n<;>rfl
@[simp] theorem Ln (n:Nat) (b:Bool):dok n (.bl b)=true:=by cases n<;>rfl
@[simp] theorem r8 (n:Nat) (i:Int):dok n (.int i)=true:=by cases n<;>rfl
@[simp] theorem JQ (n:Nat) (x:Str):dok n (.str x)=true:=by cases n<;>rfl
@[simp] theorem sf (n:Nat) (xs:List D):dok (n+1) (.tup xs)=xs.all (dok n):=rfl
@[simp] theorem sj (n:Nat) (xs:List D):dok (n+1) (.lst xs)=xs.all (dok n):=rfl
noncomputable def bw (x y:D):Bool:=dok 100 x||dok 100 y
@[simp] theorem Hj (x:D) (y:Str):bw x (.str y)=true:=by simp[bw]
@[simp] theorem Hl (x:D) (y:Int):bw x (.int y)=true:=by simp[bw]
@[simp] theorem Gd (x:D) (y:Str):bw (.str y) x=true:=by simp[bw]
@[simp] theorem Ge (x:D) (y:Int):bw (.int y) x=true:=by simp[bw]
@[simp] theorem Gf (x:D):bw x (.tup [])=true:=by simp[bw,dok]
@[simp] theorem Gg (x:D):bw x (.lst [])=true:=by simp[bw,dok]
@[simp] theorem JR (x:D) (b:Bool):bw x (.bl b)=true:=by simp[bw]
theorem gi {x y:D} (h:dok 100 y=true):bw x y=true:=by simp[bw,h]
noncomputable def gj:D->Bool
 | .non=>true
 | .bl _=>false
 | .int _=>false
 | .str _=>false
 | .tup _=>false
 | .lst _=>false
@[simp] theorem Gi:gj .non=true:=rfl
@[simp] theorem Ho (z:Bool):gj (.bl z)=false:=rfl
@[simp] theorem Gj (z:Int):gj (.int z)=false:=rfl
@[simp] theorem Gk (z:Str):gj (.str z)=false:=rfl
@[simp] theorem Gm (z:List D):gj (.tup z)=false:=rfl
@[simp] theorem Gn (z:List D):gj (.lst z)=false:=rfl
noncomputable def dO:Cm->D->D->Option Bool
 | .eq,x,y=>if bw x y then some (eqv x y) else none
 | .ne,x,y=>if bw x y then some (!eqv x y) else none
 | .lt,.int i,.int j=>some (decide (i < j))
 | .le,.int i,.int j=>some (decide (i<=j))
 | .gt,.int i,.int j=>some (decide (j < i))
 | .ge,.int i,.int j=>some (decide (j<=i))
 | .isN,x,.non=>some (gj x)
 | .notN,x,.non=>some (!gj x)
 | .mem,x,.tup ys=>if ys.all fun y=>bw y x then some (ys.any fun y=>eqv y x) else none
 | .mem,x,.lst ys=>if ys.all fun y=>bw y x then some (ys.any fun y=>eqv y x) else none
 | .nmem,x,.tup ys=>if ys.all fun y=>bw y x then some (!ys.any fun y=>eqv y x) else none
 | .nmem,x,.lst ys=>if ys.all fun y=>bw y x then some (!ys.any fun y=>eqv y x) else none
 | _,_,_=>none
@[simp] noncomputable def intsOf:List D->Option (List Int)
 | []=>some []
 | .int i :: r=>(intsOf r).map (i :: ·)
 | _=>none
@[simp] noncomputable def allB:List D->Option Bool
 | []=>some true
 | .bl b :: r=>if b then allB r else some false
 | _=>none
@[simp] noncomputable def anyB:List D->Option Bool
 | []=>some false
 | .bl b :: r=>if b then some true else anyB r
 | _=>none
noncomputable def isI:D->Bool
 | .non=>false
 | .bl _=>true
 | .int _=>true
 | .str _=>false
 | .tup _=>false
 | .lst _=>false
@[simp] theorem JS:isI .non=false:=rfl
@[simp] theorem Lo (z:Bool):isI (.bl z)=true:=rfl
@[simp] theorem JT (z:Int):isI (.int z)=true:=rfl
@[simp] theorem JU (z:Str):isI (.str z)=false:=rfl
@[simp] theorem JV (z:List D):isI (.tup z)=false:=rfl
@[simp] theorem JW (z:List D):isI (.lst z)=false:=rfl
noncomputable def isB:D->Bool
 | .non=>false
 | .bl _=>true
 | .int _=>false
 | .str _=>false
 | .tup _=>false
 | .lst _=>false
@[simp] theorem JX:isB .non=false:=rfl
@[simp] theorem Lp (z:Bool):isB (.bl z)=true:=rfl
@[simp] theorem JY (z:Int):isB (.int z)=false:=rfl
@[simp] theorem JZ (z:Str):isB (.str z)=false:=rfl
@[simp] theorem J0 (z:List D):isB (.tup z)=false:=rfl
@[simp] theorem J1 (z:List D):isB (.lst z)=false:=rfl
noncomputable def isS:D->Bool
 | .non=>false
 | .bl _=>false
 | .int _=>false
 | .str _=>true
 | .tup _=>false
 | .lst _=>false
@[simp] theorem J2:isS .non=false:=rfl
@[simp] theorem Lq (z:Bool):isS (.bl z)=false:=rfl
@[simp] theorem J3 (z:Int):isS (.int z)=false:=rfl
@[simp] theorem J4 (z:Str):isS (.str z)=true:=rfl
@[simp] theorem J5 (z:List D):isS (.tup z)=false:=rfl
@[simp] theorem J6 (z:List D):isS (.lst z)=false:=rfl
noncomputable def isT:D->Bool
 | .non=>false
 | .bl _=>false
 | .int _=>false
 | .str _=>false
 | .tup _=>true
 | .lst _=>false
@[simp] theorem J7:isT .non=false:=rfl
@[simp] theorem Lr (z:Bool):isT (.bl z)=false:=rfl
@[simp] theorem J8 (z:Int):isT (.int z)=false:=rfl
@[simp] theorem J9 (z:Str):isT (.str z)=false:=rfl
@[simp] theorem Ka (z:List D):isT (.tup z)=true:=rfl
@[simp] theorem Kc (z:List D):isT (.lst z)=false:=rfl
noncomputable def isL:D->Bool
 | .non=>false
 | .bl _=>false
 | .int _=>false
 | .str _=>false
 | .tup _=>false
 | .lst _=>true
@[simp] theorem Kd:isL .non=false:=rfl
@[simp] theorem Ls (z:Bool):isL (.bl z)=false:=rfl
@[simp] theorem Ke (z:Int):isL (.int z)=false:=rfl
@[simp] theorem Kf (z:Str):isL (.str z)=false:=rfl
@[simp] theorem Kg (z:List D):isL (.tup z)=false:=rfl
@[simp] theorem Kl (z:List D):isL (.lst z)=true:=rfl
noncomputable def sortI (ns:List Int):List Int:=ns.mergeSort fun a b=>decide (a<=b)
noncomputable def Lu:List Int->Option Int
 | []=>none
 | n :: ns=>some (ns.foldl max n)
@[simp] noncomputable def AC:List D->List D->List D
 | x :: xs,y :: ys=>.tup [x,y] :: AC xs ys
 | _,_=>[]
noncomputable def ded (ns:List Int):List Int:=ns.foldl (fun σ v=>if σ.any (·==v) then σ else σ++[v]) []
noncomputable def biD:Bi->List D->Option D
 | .len,[.tup xs]=>some (.int xs.length)
 | .len,[.lst xs]=>some (.int xs.length)
 | .len,[.str x]=>if x.length<=lim then some (.int x.length) else none
 | .abs,[.int i]=>some (.int (if i < 0 then -i else i))
 | .int,[.int i]=>some (.int i)
 | .int,[.bl b]=>some (.int (if b then 1 else 0))
 | .str,[.int i]=>if big i then some (.str (toString i)) else none
 | .tuple,[.lst xs]=>some (.tup xs)
 | .tuple,[.tup xs]=>some (.tup xs)
 | .list,[.lst xs]=>some (.lst xs)
 | .list,[.tup xs]=>some (.lst xs)
 | .all,[.lst xs]=>(allB xs).map .bl
 | .any,[.lst xs]=>(anyB xs).map .bl
 | .isInt,[x]=>some (.bl (isI x))
 | .isBool,[x]=>some (.bl (isB x))
 | .isStr,[x]=>some (.bl (isS x))
 | .isTuple,[x]=>some (.bl (isT x))
 | .isList,[x]=>some (.bl (isL x))
 | .min2,[.int i,.int j]=>some (.int (if j < i then j else i))
 | .max2,[.int i,.int j]=>some (.int (if j > i then j else i))
 | .sorted,[.lst xs]=>(intsOf xs).bind fun ns=>if ns.length < 64 then some (.lst ((sortI ns).map .int)) else none
 | .max1,[.lst xs]=>(intsOf xs).bind fun ns=>(Lu ns).map .int
 | .nset,[.lst xs]=>(intsOf xs).bind fun ns=>if ns.length < 1000 then some (.int ((ded ns).length:Nat)) else none
 | .sset,[.lst xs]=>(intsOf xs).bind fun ns=>if ns.length < 64 then some (.lst ((sortI (ded ns)).map .int)) else none
 | .lzip,[.tup xs,.tup ys]=>if 0 < xs.length/\xs.length=ys.length then some (.lst (AC xs ys)) else none
 | _,_=>none
@[simp] noncomputable def ay:Nat->List D->List D
 | _,[]=>[]
 | k,x :: r=>.tup [.int k,x] :: ay (k+1) r
noncomputable def nE:D->Option (List D)
 | .tup xs=>some xs
 | .lst xs=>some xs
 | _=>none
noncomputable def upto (lo:Int) (n:Nat):List D:=(ND n).map fun (k:Nat)=>D.int (lo+(k:Int))
noncomputable def dZ:Sr->List D->Option (List D)
 | .seq,[x]=>nE x
 | .rng1,[.int n]=>if -100000<=n&&n<=100000 then some (upto 0 n.toNat) else none
 | .rng2,[.int a,.int b]=>if -100000<=a&&a<=100000&&-100000<=b&&b<=100000 then some (upto a (b - a).toNat) else none
 | .rev,[.lst xs]=>some xs.reverse
 | .enu,[.lst xs]=>some (ay 0 xs)
 | .zip2,[.lst xs,.lst ys]=>some (AC xs ys)
 | _,_=>none
@[simp] noncomputable def jw (x:D):List D->Nat->Option Nat
 | [],_=>none
 | y :: r,k=>if eqv y x then some k else jw x r (k+1)
@[simp] noncomputable def Hq (c:Nat):List Nat->Nat->Option Nat
 | [],_=>none
 | y :: r,k=>if y=c then some k else Hq c r (k+1)
@[simp] noncomputable def aV:List W->Option (List D)
 | []=>some []
 | .p d :: r=>(aV r).map (d :: ·)
 | .r _ :: _=>none
 | .k _ :: _=>none
 | .o _ :: _=>none
 | .c _ _ :: _=>none
noncomputable def meD:Me->D->List D->Option D
 | .tindex,.tup xs,[x]=>if xs.all fun y=>bw y x then (jw x xs 0).map fun (q:Nat)=>D.int (q:Int) else none
 | .sindex,.str x,[.str y]=>match Builtin.Str.occurrences x y 0 x.length 1 with
  | i :: _=>some (.int (i:Int))
  | []=>none
 | _,_,_=>none
theorem D7 {xs:List D}{x:D}:meD .tindex (.tup xs) [x]=if xs.all fun y=>bw y x then (jw x xs 0).map fun (q:Nat)=>D.int (q:Int) else none:=rfl
noncomputable def meW (m:Me) (o:W) (as:List W) (h:HH):Option (W×HH):=match m,o,as with
 | .append,.r n,[.p d]=>match lat h n with
  | some xs=>if xs.length < lim then some (.p .non,h.set n (.l (xs++[d]))) else none
  | none=>none
 | .pop,.r n,[]=>match lat h n with
  | some xs=>match xs.getLast? with
   | some d=>some (.p d,h.set n (.l xs.dropLast))
   | none=>none
  | none=>none
 | .extend,.r n,[w]=>match lat h n,(rd w h).bind nE with
  | some xs,some ys=>if xs.length+ys.length<=lim then some (.p .non,h.set n (.l (xs++ys))) else none
  | _,_=>none
 | .dget,.k kvs,[.p (.str x)]=>some (.p ((dw x kvs).getD .non),h)
 | .dget,.k _,[.p .non]=>some (.p .non,h)
 | .dget,.k kvs,[.p (.str x),.p d]=>some (.p ((dw x kvs).getD d),h)
 | m,.p d,as=>match aV as with
  | some ds=>(meD m d ds).map fun x=>(.p x,h)
  | none=>none
 | _,_,_=>none
section
variable (n:Nat) (d:D) (h:HH) (kvs:List (Str×D)) (x:Str) (as:List W)
@[simp] theorem qL:meW .append (.r n) [.p d] h=match lat h n with
 | some xs=>if xs.length < lim then some (.p .non,h.set n (.l (xs++[d]))) else none
 | none=>none:=rfl
@[simp] theorem AD:meW .pop (.r n) [] h=match lat h n with
 | some xs=>match xs.getLast? with
  | some d=>some (.p d,h.set n (.l xs.dropLast))
  | none=>none
 | none=>none:=rfl
@[simp] theorem qM (w:W):meW .extend (.r n) [w] h=match lat h n,(rd w h).bind nE with
 | some xs,some ys=>if xs.length+ys.length<=lim then some (.p .non,h.set n (.l (xs++ys))) else none
 | _,_=>none:=rfl
@[simp] theorem Hr:meW .dget (.k kvs) [.p (.str x)] h=some (.p ((dw x kvs).getD .non),h):=rfl
@[simp] theorem D8:meW .dget (.k kvs) [.p .non] h=some (.p .non,h):=rfl
@[simp] theorem Gp:meW .dget (.k kvs) [.p (.str x),.p d] h=some (.p ((dw x kvs).getD d),h):=rfl
@[simp] theorem kH:meW .tindex (.p d) as h=match aV as with
 | some ds=>(meD .tindex d ds).map fun x=>(.p x,h)
 | none=>none:=rfl
@[simp] theorem D9:meW .sindex (.p d) as h=match aV as with
 | some ds=>(meD .sindex d ds).map fun x=>(.p x,h)
 | none=>none:=rfl
end
noncomputable def new (mu:Bool) (xs:List D) (h:HH):W×HH:=if mu then (.r h.length,h++[.l xs]) else (.p (.lst xs),h)
@[simp] theorem MV (xs:List D) (h:HH):new false xs h=(.p (.lst xs),h):=rfl
@[simp] theorem MW (xs:List D) (h:HH):new true xs h=(.r h.length,h++[.l xs]):=rfl
@[simp] noncomputable def rds (ws:List W) (h:HH):Option (List D):=match ws with
 | []=>some []
 | w :: r=>(rd w h).bind fun d=>(rds r h).map (d :: ·)
noncomputable def Nc:D->Option (List D)
 | .lst xs=>some xs
 | _=>none
noncomputable def unpack (n:Nat):D->Option (List D)
 | .tup xs=>if xs.length=n then some xs else none
 | _=>none
noncomputable def target (n:Nat) (d:D):Option (List D):=if n=1 then some [d] else unpack n d
section
variable (i j k a b:Int) (c:Bool) (x y:Str) (xs ys:List D) (kvs:List (Str×D)) (d e:D) (lo hi:Option Int)
@[simp] theorem fB:jv .add (.int i) (.int j)=some (.int (i+j)):=rfl
@[simp] theorem cV:jv .add (.str x) (.str y)=if x.length+y.length<=lim then some (.str (x++y)) else none:=rfl
@[simp] theorem cW:jv .add (.tup xs) (.tup ys)=if xs.length+ys.length<=lim then some (.tup (xs++ys)) else none:=rfl
@[simp] theorem cX:jv .add (.lst xs) (.lst ys)=if xs.length+ys.length<=lim then some (.lst (xs++ys)) else none:=rfl
@[simp] theorem fC:jv .sub (.int i) (.int j)=some (.int (i - j)):=rfl
@[simp] theorem fD:jv .mul (.int i) (.int j)=if big i||big j then some (.int (i*j)) else none:=rfl
@[simp] theorem cY:jv .mul (.tup xs) (.int k)=if 2<=k&&k<=1000&&!xs.isEmpty&&xs.length*k.toNat<=lim then some (.tup (rep k.toNat xs)) else none:=rfl
@[simp] theorem cZ:jv .mul (.lst xs) (.int k)=if -1000<=k&&k<=1000&&xs.length*k.toNat<=lim then some (.lst (rep k.toNat xs)) else none:=rfl
@[simp] theorem fE:jv .mod (.int i) (.int j)=if 0 < j then some (.int (i % j)) else none:=rfl
@[simp] theorem dP:jv .fdiv (.int i) (.int j)=if 0 < j&&j < 1073741824 then some (.int (i / j)) else none:=rfl
@[simp] theorem fF:jv .pow (.int i) (.int j)=if 0<=j&&j<=100&&big i then some (.int (i ^ j.toNat)) else none:=rfl
@[simp] theorem wZ:bM (.tup xs) (.int i)=atP xs i:=rfl
@[simp] theorem bH:bM (.lst xs) (.int i)=atP xs i:=rfl
@[simp] theorem fu:bM (.str x) (.int i)=if x.length<=lim then (atP x.cps.toList i).map fun c=>.str ⟨#[c]⟩ else none:=rfl
@[simp] theorem xg:qK (.tup xs) lo hi=some (.tup (cut xs lo hi)):=rfl
@[simp] theorem Lv:qK (.lst xs) lo hi=some (.lst (cut xs lo hi)):=rfl
@[simp] theorem nF:dO .eq d e=if bw d e then some (eqv d e) else none:=rfl
@[simp] theorem jW:dO .ne d e=if bw d e then some (!eqv d e) else none:=rfl
@[simp] theorem e9:dO .lt (.int i) (.int j)=some (decide (i < j)):=rfl
@[simp] theorem ff:dO .le (.int i) (.int j)=some (decide (i<=j)):=rfl
@[simp] theorem fh:dO .gt (.int i) (.int j)=some (decide (j < i)):=rfl
@[simp] theorem fj:dO .ge (.int i) (.int j)=some (decide (j<=i)):=rfl
@[simp] theorem dz:dO .isN d .non=some (gj d):=rfl
@[simp] theorem cD:dO .notN d .non=some (!gj d):=rfl
@[simp] theorem bJ:dO .mem d (.tup ys)=if ys.all fun y=>bw y d then some (ys.any fun y=>eqv y d) else none:=rfl
@[simp] theorem aJ:dO .mem d (.lst ys)=if ys.all fun y=>bw y d then some (ys.any fun y=>eqv y d) else none:=rfl
@[simp] theorem bx:dO .nmem d (.tup ys)=if ys.all fun y=>bw y d then some (!ys.any fun y=>eqv y d) else none:=rfl
@[simp] theorem aE:dO .nmem d (.lst ys)=if ys.all fun y=>bw y d then some (!ys.any fun y=>eqv y d) else none:=rfl
@[simp] theorem mK:biD .len [.tup xs]=some (.int xs.length):=rfl
@[simp] theorem Gq:biD .len [.lst xs]=some (.int xs.length):=rfl
@[simp] theorem uT:biD .len [.str x]=if x.length<=lim then some (.int x.length) else none:=rfl
@[simp] theorem Km:biD .abs [.int i]=some (.int (if i < 0 then -i else i)):=rfl
@[simp] theorem Kn:biD .int [.int i]=some (.int i):=rfl
@[simp] theorem Gs:biD .int [.bl c]=some (.int (if c then 1 else 0)):=rfl
@[simp] theorem Ko:biD .str [.int i]=if big i then some (.str (toString i)) else none:=rfl
@[simp] theorem C1:biD .tuple [.lst xs]=some (.tup xs):=rfl
@[simp] theorem C2:biD .tuple [.tup xs]=some (.tup xs):=rfl
theorem kI:biD .sorted [.lst xs]=(intsOf xs).bind fun ns=>if ns.length < 64 then some (.lst ((sortI ns).map .int)) else none:=rfl
theorem pA:biD .sset [.lst xs]=(intsOf xs).bind fun ns=>if ns.length < 64 then some (.lst ((sortI (ded ns)).map .int)) else none:=rfl
theorem sortI_perm (ns:List Int):(sortI ns).Perm ns:=List.mergeSort_perm _ _
theorem kJ (ns:List Int):(sortI ns).Pairwise (·<=·):=by
 have:=List.pairwise_mergeSort (le:=fun (a b:Int)=>decide (a<=b)) (fun a b c h1 h2=>by simp only[decide_eq_true_eq] at *;omega) (fun a b=>by simp only[Pn,decide_eq_true_eq];omega) ns
 exact this.imp fun h=>of_decide_eq_true h
@[simp] theorem Ea:biD .list [.lst xs]=some (.lst xs):=rfl
@[simp] theorem Eb:biD .list [.tup xs]=some (.lst xs):=rfl
@[simp] theorem Kp:biD .all [.lst xs]=(allB xs).map .bl:=rfl
@[simp] theorem Kq:biD .any [.lst xs]=(anyB xs).map .bl:=rfl
@[simp] theorem Gu:biD .isInt [d]=some (.bl (isI d)):=rfl
@[simp] theorem Ec:biD .isBool [d]=some (.bl (isB d)):=rfl
@[simp] theorem Gv:biD .isStr [d]=some (.bl (isS d)):=rfl
@[simp] theorem C3:biD .isTuple [d]=some (.bl (isT d)):=rfl
@[simp] theorem Ed:biD .isList [d]=some (.bl (isL d)):=rfl
@[simp] theorem Kr:biD .min2 [.int i,.int j]=some (.int (if j < i then j else i)):=rfl
@[simp] theorem Ks:biD .max2 [.int i,.int j]=some (.int (if j > i then j else i)):=rfl
@[simp] theorem Ly:nE (.tup xs)=some xs:=rfl
@[simp] theorem Lz:nE (.lst xs)=some xs:=rfl
@[simp] theorem xh:dZ .seq [d]=nE d:=rfl
@[simp] theorem bE:dZ .rng1 [.int a]=if -100000<=a&&a<=100000 then some (upto 0 a.toNat) else none:=rfl
@[simp] theorem gO:dZ .rng2 [.int a,.int b]=if -100000<=a&&a<=100000&&-100000<=b&&b<=100000 then some (upto a (b - a).toNat) else none:=rfl
@[simp] theorem Hs:dZ .rev [.lst xs]=some xs.reverse:=rfl
@[simp] theorem xj:dZ .enu [.lst xs]=some (ay 0 xs):=rfl
@[simp] theorem Hu:dZ .zip2 [.lst xs,.lst ys]=some (AC xs ys):=rfl
@[simp] theorem Ef:meD .tindex (.tup xs) [d]=if xs.all fun y=>bw y d then (jw d xs 0).map fun (q:Nat)=>D.int (q:Int) else none:=rfl
@[simp] theorem xm (n:Nat):unpack n (.tup xs)=if xs.length=n then some xs else none:=rfl
end
@[simp] theorem gk (d:D):target 1 d=some [d]:=rfl
@[simp] theorem Hv (d:D):target 2 d=unpack 2 d:=rfl
noncomputable def su (o:Option D) (out:List D) (h:HH):Option (List D×HH):=some (match o with | some x=>x :: out | none=>out,h)
noncomputable def uU (r:HH->Option (List D×HH)) (o:Option D) (h:HH):Option (List D×HH):=bnd (r h) (su o)
@[simp] theorem kK (o:Option D) (out:List D) (h:HH):su o out h=some (match o with | some x=>x :: out | none=>out,h):=rfl
@[simp] theorem nG (r:HH->Option (List D×HH)) (o:Option D) (h:HH):uU r o h=bnd (r h) (su o):=rfl
noncomputable def aR (f:List D->HH->Option (Option D×HH)) (n:Nat):List D->HH->Option (List D×HH)
 | [],h=>some ([],h)
 | d :: r,h=>match target n d with
  | some ds=>bnd (f ds h) (uU (aR f n r))
  | none=>none
noncomputable def bQ (d:D):Option W:=some (.p d)
noncomputable abbrev EH:=HH->Option (W×HH)
noncomputable abbrev OpW:=W->W->HH->Option (W×HH)
@[simp] noncomputable def k2 (eb:EH) (op:OpW) (x:W) (h:HH):Option (W×HH):=bnd (eb h) (op x)
@[simp] noncomputable def lR (o:Bin) (x y:W) (h:HH):Option (W×HH):=match rd x h,rd y h with
 | some d,some e=>(jv o d e).map fun z=>(.p z,h)
 | _,_=>none
noncomputable def inK (o:Cm) (x:W) (kvs:List (Str×D)):Option Bool:=match o,x with
 | .mem,.p (.str s)=>some (dw s kvs).isSome
 | .nmem,.p (.str s)=>some (!(dw s kvs).isSome)
 | _,_=>none
@[simp] noncomputable def fZ (o:Cm) (x y:W) (h:HH):Option (W×HH):=match y with
 | .k kvs=>(inK o x kvs).map fun z=>(.p (.bl z),h)
 | y=>match rd x h,rd y h with
  | some d,some e=>(dO o d e).map fun z=>(.p (.bl z),h)
  | _,_=>none
noncomputable def atK (kvs:List (Str×D)) (y:W):Option D:=match y with
 | .p (.str s)=>dw s kvs
 | _=>none
@[simp] theorem MX (kvs:List (Str×D)) (x:Str):atK kvs (.p (.str x))=dw x kvs:=rfl
@[simp] theorem MY (kvs:List (Str×D)) (x:Str):inK .mem (.p (.str x)) kvs=some (dw x kvs).isSome:=rfl
@[simp] theorem MZ (kvs:List (Str×D)) (x:Str):inK .nmem (.p (.str x)) kvs=some (!(dw x kvs).isSome):=rfl
@[simp] noncomputable def AE (x y:W) (h:HH):Option (W×HH):=match x with
 | .k kvs=>(atK kvs y).map fun z=>(.p z,h)
 | x=>match rd x h,rd y h with
  | some d,some e=>(bM d e).map fun z=>(.p z,h)
  | _,_=>none
@[simp] noncomputable def AF (x:W) (h:HH):Option (W×HH):=match x with | .p (.int i)=>some (.p (.int (-i)),h) | _=>none
@[simp] noncomputable def AG (x:W) (h:HH):Option (W×HH):=match x with | .p (.bl b)=>some (.p (.bl (!b)),h) | _=>none
@[simp] noncomputable def AH (eb:EH) (x:W) (h:HH):Option (W×HH):=match x with | .p (.bl c)=>if c then eb h else some (.p (.bl false),h) | _=>none
@[simp] noncomputable def kOr (eb:EH) (x:W) (h:HH):Option (W×HH):=match x with | .p (.bl c)=>if c then some (.p (.bl true),h) else eb h | _=>none
@[simp] noncomputable def AI (ea eb:EH) (x:W) (h:HH):Option (W×HH):=match x with | .p (.bl c)=>if c then ea h else eb h | _=>none
@[simp] noncomputable def Hw (o':Cm) (e:D) (z:W) (h:HH):Option (W×HH):=match rd z h with
 | some f=>(dO o' e f).map fun r=>(.p (.bl r),h)
 | none=>none
@[simp] noncomputable def oCh (o o':Cm) (ec:EH) (x y:W) (h:HH):Option (W×HH):=match rd x h,y with
 | some d,.p e=>match dO o d e with
  | some true=>bnd (ec h) (Hw o' e)
  | some false=>some (.p (.bl false),h)
  | none=>none
 | _,_=>none
@[simp] noncomputable def Eg (ws:List W) (h:HH):Option (W×HH):=match aV ws with | some ds=>if ds.length<=lim then some (.p (.tup ds),h) else none | none=>none
@[simp] noncomputable def Eh (mu:Bool) (ws:List W) (h:HH):Option (W×HH):=match aV ws with | some ds=>if ds.length<=lim then some (new mu ds h) else none | none=>none
@[simp] noncomputable def Hx (x:W) (l u:List W) (h:HH):Option (W×HH):=match rd x h,(aV l).bind nC,(aV u).bind nC with
 | some d,some l',some u'=>(qK d l' u').map fun z=>(.p z,h)
 | _,_,_=>none
@[simp] noncomputable def Hy (eu:HH->Option (List W×HH)) (x:W) (l:List W) (h:HH):Option (W×HH):=bnd (eu h) (Hx x l)
@[simp] noncomputable def Hz (el eu:HH->Option (List W×HH)) (x:W) (h:HH):Option (W×HH):=bnd (el h) (Hy eu x)
@[simp] noncomputable def LA (x:W) (h:HH):Option (W×HH):=match rd x h with
 | some (.tup xs)=>some (.p (.tup xs.reverse),h)
 | some (.lst xs)=>some (.p (.lst xs.reverse),h)
 | _=>none
noncomputable def pB (k:Int) (xs:List D):List D:=(Rj (N4 none none (some k) xs.length).1 (N4 none none (some k) xs.length).2.1 (N4 none none (some k) xs.length).2.2).filterMap fun i=>xs[i]?
@[simp] noncomputable def Ei (mu:Bool) (k:Int) (x:W) (h:HH):Option (W×HH):=match rd x h with
 | some (.lst xs)=>some (new mu (pB k xs) h)
 | _=>none
@[simp] noncomputable def kBi (b:Bi) (mu:Bool) (ws:List W) (h:HH):Option (W×HH):=match rds ws h with
 | some ds=>match biD b ds with
  | some d=>if mu then (match d with | .lst xs=>some (new true xs h) | _=>none) else some (.p d,h)
  | none=>none
 | none=>none
noncomputable def pC (x:W) (h:HH):Bool:=match x with
 | .r n=>(lat h n).isSome
 | _=>true
@[simp] theorem LB (n:Nat) (h:HH):pC (.r n) h=(lat h n).isSome:=rfl
@[simp] theorem LC (d:D) (h:HH):pC (.p d) h=true:=rfl
@[simp] theorem LD (d:List (Str×D)) (h:HH):pC (.k d) h=true:=rfl
@[simp] noncomputable def kMe (m:Me) (ea:HH->Option (List W×HH)) (x:W) (h:HH):Option (W×HH):=if pC x h then bnd (ea h) (meW m x) else none
@[simp] noncomputable def kLs (mu:Bool) (sr:Sr) (ws:List W) (h:HH):Option (W×HH):=match (rds ws h).bind (dZ sr) with
 | some ds=>if ds.length<=lim then some (new mu ds h) else none
 | none=>none
@[simp] noncomputable def lT (w:W) (h:HH):Option (Option D×HH):=match w with | .p d=>some (some d,h) | _=>none
noncomputable def sy (ee:EH) (cs:List W) (h:HH):Option (Option D×HH):=match cs with
 | []=>bnd (ee h) lT
 | [.p (.bl true)]=>bnd (ee h) lT
 | [.p (.bl false)]=>some (none,h)
 | _=>none
@[simp] theorem Ku (ee:EH) (h:HH):sy ee [] h=bnd (ee h) lT:=rfl
@[simp] theorem Kv (ee:EH) (h:HH):sy ee [.p (.bl true)] h=bnd (ee h) lT:=rfl
@[simp] theorem Kw (ee:EH) (h:HH):sy ee [.p (.bl false)] h=some (none,h):=rfl
@[simp] noncomputable def cE (ec:Sl->HH->Option (List W×HH)) (ee:Sl->EH) (fs:Sl) (xs:List D) (h:HH):Option (Option D×HH) :=
 bnd (ec (xs.map bQ++fs) h) (sy (ee (xs.map bQ++fs)))
@[simp] noncomputable def kL (mu:Bool) (out:List D) (h:HH):Option (W×HH):=if out.length<=lim then some (new mu out h) else none
noncomputable def bf (f:Str):List (Str×W)->Option W
 | []=>none
 | (x,w) :: r=>if f=x then some w else bf f r
noncomputable def br (f:Str) (w:W):List (Str×W)->List (Str×W)
 | []=>[(f,w)]
 | (x,u) :: r=>if f=x then (f,w) :: r else (x,u) :: br f w r
@[simp] theorem HA (f:Str):bf f []=none:=rfl
@[simp] theorem mL (f x:Str) (w:W) (r:List (Str×W)):bf f ((x,w) :: r)=if f=x then some w else bf f r:=rfl
@[simp] theorem HB (f:Str) (w:W):br f w []=[(f,w)]:=rfl
@[simp] theorem uV (f x:Str) (w u:W) (r:List (Str×W)):br f w ((x,u) :: r)=if f=x then (f,w) :: r else (x,u) :: br f w r:=rfl
noncomputable def attrOk:W->Bool
 | .p _=>true
 | .r _=>true
 | .k _=>false
 | .o _=>true
 | .c _ _=>false
@[simp] theorem HC (d:D):attrOk (.p d)=true:=rfl
@[simp] theorem HD (n:Nat):attrOk (.r n)=true:=rfl
@[simp] theorem HE (n:Nat):attrOk (.o n)=true:=rfl
noncomputable def AJ (f:Str) (x:W) (h:HH):Option (W×HH):=match x with
 | .o n=>match oat h n with
  | some (_,fs)=>(bf f fs).map fun w=>(w,h)
  | none=>none
 | _=>none
@[simp] theorem Ej (f:Str) (n:Nat) (h:HH):AJ f (.o n) h=match oat h n with
 | some (_,fs)=>(bf f fs).map fun w=>(w,h)
 | none=>none:=rfl
noncomputable def qN (F:FK->List W->HH->Option (W×HH)) (q:FK) (n:Nat) (ws:List W) (h:HH):Option (W×HH):=F q (.o n :: ws) h
@[simp] theorem Gw (F:FK->List W->HH->Option (W×HH)) (q:FK) (n:Nat) (ws:List W) (h:HH):qN F q n ws h=F q (.o n :: ws) h:=rfl
noncomputable def xo (F:FK->List W->HH->Option (W×HH)) (m:Str) (ea:HH->Option (List W×HH)) (x:W) (h:HH):Option (W×HH):=match x with
 | .o n=>match oat h n with
  | some (c,fs)=>if (bf m fs).isNone then bnd (ea h) (qN F (.m c m) n) else none
  | none=>none
 | _=>none
@[simp] theorem AK (F:FK->List W->HH->Option (W×HH)) (m:Str) (ea:HH->Option (List W×HH)) (n:Nat) (h:HH):xo F m ea (.o n) h=match oat h n with
 | some (c,fs)=>if (bf m fs).isNone then bnd (ea h) (qN F (.m c m) n) else none
 | none=>none:=rfl
noncomputable def sA (n:Nat) (x:W) (h:HH):Option (W×HH):=match x with
 | .p .non=>some (.o n,h)
 | _=>none
@[simp] theorem Kx (n:Nat) (h:HH):sA n (.p .non) h=some (.o n,h):=rfl
noncomputable def C4 (F:FK->List W->HH->Option (W×HH)) (c:Str) (ws:List W) (h:HH):Option (W×HH):=bnd (F (.m c "__init__") (.o h.length :: ws) (h++[.o c []])) (sA h.length)
@[simp] theorem xq (F:FK->List W->HH->Option (W×HH)) (c:Str) (ws:List W) (h:HH):C4 F c ws h=bnd (F (.m c "__init__") (.o h.length :: ws) (h++[.o c []])) (sA h.length):=rfl
noncomputable def gn:List W->Bool
 | []=>true
 | .p _ :: r=>gn r
 | _=>false
@[simp] noncomputable def xr (mu:Bool) (sr:Sr) (n:Nat) (fs:Option Sl) (ec:Sl->HH->Option (List W×HH)) (ee:Sl->EH) (ws:List W) (h:HH):Option (W×HH) :=
 match (rds ws h).bind (dZ sr),fs with
 | some ds,some fs=>if gn ws then bnd (aR (cE ec ee fs) n ds h) (kL mu) else none
 | _,_=>none
@[simp] noncomputable def iA (w:W) (ws:List W) (h:HH):Option (List W×HH):=some (w :: ws,h)
@[simp] noncomputable def kM (er:HH->Option (List W×HH)) (w:W) (h:HH):Option (List W×HH):=bnd (er h) (iA w)
@[simp] noncomputable def frees (s:Sl):List (Nat×Str)->Option Sl
 | []=>some []
 | q :: r=>match s[q.1]? with
  | some w=>(frees s r).map (w :: ·)
  | none=>none
noncomputable def caps (s:Sl):List (Nat×Str)->Option (List Cp)
 | []=>some []
 | q :: r=>match s[q.1]? with
  | some (some w)=>(o7 w).bind fun x=>(caps s r).map (x :: ·)
  | _=>none
@[simp] theorem HF (s:Sl):caps s []=some []:=rfl
@[simp] theorem uW (s:Sl) (q:Nat×Str) (r:List (Nat×Str)):caps s (q :: r)=match s[q.1]? with
 | some (some w)=>(o7 w).bind fun x=>(caps s r).map (x :: ·)
 | _=>none:=rfl
noncomputable def noC:List W->Bool
 | []=>true
 | .p _ :: r=>noC r
 | .r _ :: r=>noC r
 | .k _ :: r=>noC r
 | .o _ :: r=>noC r
 | .c _ _ :: _=>false
@[simp] theorem Kz:noC []=true:=rfl
@[simp] theorem M0 (d:D) (r:List W):noC (.p d :: r)=noC r:=rfl
@[simp] theorem M1 (d:Nat) (r:List W):noC (.r d :: r)=noC r:=rfl
@[simp] theorem M3 (d:Nat) (r:List W):noC (.o d :: r)=noC r:=rfl
noncomputable def nH (F:FK->List W->HH->Option (W×HH)) (o:Option (Option W)) (ws:List W) (h:HH):Option (W×HH):=match o with
 | some (some (.c k cs))=>if noC ws then F k (ws++cs.map Cp.w) h else none
 | _=>none
@[simp] theorem HG (F:FK->List W->HH->Option (W×HH)) (k:FK) (cs:List Cp) (ws:List W) (h:HH):nH F (some (some (.c k cs))) ws h=if noC ws then F k (ws++cs.map Cp.w) h else none:=rfl
noncomputable def xu (w:W) (h:HH):Option (W×HH):=match w with
 | .c _ _=>none
 | w=>some (w,h)
@[simp] theorem LG (d:D) (h:HH):xu (.p d) h=some (.p d,h):=rfl
@[simp] theorem LH (n:Nat) (h:HH):xu (.r n) h=some (.r n,h):=rfl
@[simp] theorem LJ (n:Nat) (h:HH):xu (.o n) h=some (.o n,h):=rfl
noncomputable def nI (F:FK->List W->HH->Option (W×HH)) (q:FK) (n:Nat) (L:Nat) (cs:Option (List Cp)) (ws:List W) (h:HH):Option (W×HH):=match cs with
 | some cs=>bnd (F q (.o n :: (ws++[.c (.l L) cs])) h) xu
 | none=>none
@[simp] theorem uX (F:FK->List W->HH->Option (W×HH)) (q:FK) (n:Nat) (L:Nat) (cs:List Cp) (ws:List W) (h:HH):nI F q n L (some cs) ws h=bnd (F q (.o n :: (ws++[.c (.l L) cs])) h) xu:=rfl
noncomputable def qO (F:FK->List W->HH->Option (W×HH)) (m:Str) (ea:HH->Option (List W×HH)) (L:Nat) (cs:Option (List Cp)) (x:W) (h:HH):Option (W×HH):=match x with
 | .o n=>match oat h n with
  | some (c,fs)=>if (bf m fs).isNone then bnd (ea h) (nI F (.m c m) n L cs) else none
  | none=>none
 | _=>none
@[simp] theorem xw (F:FK->List W->HH->Option (W×HH)) (m:Str) (ea:HH->Option (List W×HH)) (L:Nat) (cs:Option (List Cp)) (n:Nat) (h:HH):qO F m ea L cs (.o n) h=match oat h n with
 | some (c,fs)=>if (bf m fs).isNone then bnd (ea h) (nI F (.m c m) n L cs) else none
 | none=>none:=rfl
noncomputable def Ek (n:Nat) (y z:W) (h:HH):Option (W×HH):=match y,z with
 | .p k,.p d=>(dat h n).bind fun kvs=>(o9 k).map fun q=>(.p ((CZ kvs q).getD d),h)
 | _,_=>none
@[simp] theorem LK (n:Nat) (k d:D) (h:HH):Ek n (.p k) (.p d) h=(dat h n).bind fun kvs=>(o9 k).map fun q=>(.p ((CZ kvs q).getD d),h):=rfl
noncomputable def El (ed:EH) (n:Nat) (y:W) (h:HH):Option (W×HH):=bnd (ed h) (Ek n y)
@[simp] theorem KA (ed:EH) (n:Nat) (y:W) (h:HH):El ed n y h=bnd (ed h) (Ek n y):=rfl
noncomputable def HJ (ek ed:EH) (x:W) (h:HH):Option (W×HH):=match x with
 | .r n=>if (dat h n).isSome then bnd (ek h) (El ed n) else none
 | _=>none
@[simp] theorem LM (ek ed:EH) (n:Nat) (h:HH):HJ ek ed (.r n) h=if (dat h n).isSome then bnd (ek h) (El ed n) else none:=rfl
noncomputable def HK (x:W) (h:HH):Option (W×HH):=match x with
 | .r n=>(dat h n).bind fun kvs=>if kvs.length<=1 then some (.p (.lst (nB kvs)),h) else none
 | _=>none
@[simp] theorem LN (n:Nat) (h:HH):HK (.r n) h=(dat h n).bind fun kvs=>if kvs.length<=1 then some (.p (.lst (nB kvs)),h) else none:=rfl
noncomputable def HL (x:W) (h:HH):Option (W×HH):=match x with
 | .r n=>(dat h n).bind fun kvs=>if kvs.length<=lim then some (.p (.lst (nB kvs)),h) else none
 | _=>none
@[simp] theorem LO (n:Nat) (h:HH):HL (.r n) h=(dat h n).bind fun kvs=>if kvs.length<=lim then some (.p (.lst (nB kvs)),h) else none:=rfl
section
variable (F:FK->List W->HH->Option (W×HH)) (G:Str->Option W)
mutual
@[simp] noncomputable def ev:E->Sl->HH->Option (W×HH)
 | .var i _,s,h=>match s[i]? with | some (some w)=>some (w,h) | _=>none
 | .cst d,_,h=>some (.p d,h)
 | .glo x,_,h=>(G x).map fun w=>(w,h)
 | .bin o a b,s,h=>bnd (ev a s h) (k2 (ev b s) (lR o))
 | .neg a,s,h=>bnd (ev a s h) AF
 | .not a,s,h=>bnd (ev a s h) AG
 | .and a b,s,h=>bnd (ev a s h) (AH (ev b s))
 | .or a b,s,h=>bnd (ev a s h) (kOr (ev b s))
 | .cmp o a b,s,h=>bnd (ev a s h) (k2 (ev b s) (fZ o))
 | .chain o o' a b c,s,h=>bnd (ev a s h) (k2 (ev b s) (oCh o o' (ev c s)))
 | .ite c a b,s,h=>bnd (ev c s h) (AI (ev a s) (ev b s))
 | .tup as,s,h=>bnd (evs as s h) Eg
 | .lst mu as,s,h=>bnd (evs as s h) (Eh mu)
 | .idx a i,s,h=>bnd (ev a s h) (k2 (ev i s) AE)
 | .slc a lo hi,s,h=>bnd (ev a s h) (Hz (evs lo s) (evs hi s))
 | .rvs a,s,h=>bnd (ev a s h) LA
 | .stp mu k a,s,h=>bnd (ev a s h) (Ei mu k)
 | .call f as,s,h=>bnd (evs as s h) (F (.f f))
 | .fld a f,s,h=>bnd (ev a s h) (AJ f)
 | .meth o m as,s,h=>bnd (ev o s h) (xo F m (evs as s))
 | .make c as,s,h=>bnd (evs as s h) (C4 F c)
 | .bi b mu as,s,h=>bnd (evs as s h) (kBi b mu)
 | .lsr mu sr as,s,h=>bnd (evs as s h) (kLs mu sr)
 | .me m o as,s,h=>bnd (ev o s h) (kMe m (evs as s))
 | .comp mu sr sa tg fv cond elt,s,h=>bnd (evs sa s h) (xr mu sr tg.length (frees s fv) (evs cond) (ev elt))
 | .callv i _ as,s,h=>bnd (evs as s h) (nH F s[i]?)
 | .methL o m as L fv,s,h=>bnd (ev o s h) (qO F m (evs as s) L (caps s fv))
 | .dnew,_,h=>some (.r h.length,h++[.d []])
 | .dgt o k d,s,h=>bnd (ev o s h) (HJ (ev k s) (ev d s))
 | .dsi o,s,h=>bnd (ev o s h) HK
 | .dli o,s,h=>bnd (ev o s h) HL
@[simp] noncomputable def evs:Es->Sl->HH->Option (List W×HH)
 | .nil,_,h=>some ([],h)
 | .cons a as,s,h=>bnd (ev a s h) (kM (evs as s))
end
inductive Fl where
 | nx (s:Sl) (h:HH) | rt (w:W) (h:HH) | bk (s:Sl) (h:HH) | ct (s:Sl) (h:HH)
noncomputable def HM (k:Bool->HH->Option Fl) (w:W) (h:HH):Option Fl:=match w with | .p (.bl b)=>k b h | _=>none
noncomputable def tst (x:Option (W×HH)) (k:Bool->HH->Option Fl):Option Fl:=bnd x (HM k)
@[simp] theorem c5 (b:Bool) (h:HH) (k:Bool->HH->Option Fl):tst (some (.p (.bl b),h)) k=k b h:=rfl
noncomputable def jL (x:Option Fl) (k:Sl->HH->Option Fl):Option Fl:=match x with
 | some (.nx s h)=>k s h
 | y=>y
@[simp] theorem i7 (s:Sl) (h:HH) (k:Sl->HH->Option Fl):jL (some (.nx s h)) k=k s h:=rfl
@[simp] theorem HN (w:W) (h:HH) (k:Sl->HH->Option Fl):jL (some (.rt w h)) k=some (.rt w h):=rfl
@[simp] theorem HP (s:Sl) (h:HH) (k:Sl->HH->Option Fl):jL (some (.bk s h)) k=some (.bk s h):=rfl
@[simp] theorem HQ (s:Sl) (h:HH) (k:Sl->HH->Option Fl):jL (some (.ct s h)) k=some (.ct s h):=rfl
@[simp] theorem Em (k:Sl->HH->Option Fl):jL none k=none:=rfl
noncomputable def fY (x:Option Fl) (k:Sl->HH->Option Fl):Option Fl:=match x with
 | some (.nx s h)=>k s h
 | some (.ct s h)=>k s h
 | some (.bk s h)=>some (.nx s h)
 | y=>y
@[simp] theorem cJ (s:Sl) (h:HH) (k:Sl->HH->Option Fl):fY (some (.nx s h)) k=k s h:=rfl
@[simp] theorem HR (s:Sl) (h:HH) (k:Sl->HH->Option Fl):fY (some (.ct s h)) k=k s h:=rfl
@[simp] theorem HS (s:Sl) (h:HH) (k:Sl->HH->Option Fl):fY (some (.bk s h)) k=some (.nx s h):=rfl
@[simp] theorem xy (w:W) (h:HH) (k:Sl->HH->Option Fl):fY (some (.rt w h)) k=some (.rt w h):=rfl
@[simp] theorem En (k:Sl->HH->Option Fl):fY none k=none:=rfl
@[simp] noncomputable def sets:List (Nat×Str)->List D->Sl->Sl
 | (i,_) :: r,d :: ds,s=>sets r ds (s.set i (some (.p d)))
 | _,_,s=>s
noncomputable def Eo (b:Sl->HH->Option Fl) (again:Sl->HH->Option Fl) (s:Sl) (t:Bool) (h:HH):Option Fl:=if t then fY (b s h) again else some (.nx s h)
@[simp] theorem iB (b again:Sl->HH->Option Fl) (s:Sl) (h:HH):Eo b again s true h=fY (b s h) again:=rfl
@[simp] theorem gq (b again:Sl->HH->Option Fl) (s:Sl) (h:HH):Eo b again s false h=some (.nx s h):=rfl
noncomputable def aZ (c:Sl->HH->Option (W×HH)) (b:Sl->HH->Option Fl):Nat->Sl->HH->Option Fl
 | 0,_,_=>none
 | n+1,s,h=>tst (c s h) (Eo b (aZ c b n) s)
@[simp] noncomputable def bK (b:Sl->HH->Option Fl) (tg:List (Nat×Str)):List D->Sl->HH->Option Fl
 | [],s,h=>some (.nx s h)
 | d :: r,s,h=>match target tg.length d with
  | some ds=>fY (b (sets tg ds s) h) (bK b tg r)
  | none=>none
noncomputable def turns:Nat:=100000
@[simp] noncomputable def qP (s:Sl) (i:Nat) (w:W) (h:HH):Option Fl:=some (.nx (s.set i (some w)) h)
@[simp] noncomputable def LP (s:Sl) (xs:List (Nat×Str)) (w:W) (h:HH):Option Fl:=match w with
 | .p d=>match unpack xs.length d with | some ds=>some (.nx (sets xs ds s) h) | none=>none
 | _=>none
@[simp] noncomputable def HU (s:Sl) (i:Nat) (o:Bin) (w:W) (h:HH):Option Fl:=match s[i]?,w with
 | some (some (.p d)),.p d'=>(kG o d d').map fun z=>.nx (s.set i (some (.p z))) h
 | _,_=>none
@[simp] noncomputable def C6 (s:Sl) (n:Nat) (d:D) (q:W) (h:HH):Option Fl:=match q,lat h n with
 | .p (.int j),some xs=>match place xs.length j with
  | some m=>some (.nx s (h.set n (.l (xs.set m d))))
  | none=>none
 | _,_=>none
@[simp] noncomputable def Ep (ek:EH) (s:Sl) (i:Nat) (w:W) (h:HH):Option Fl:=match w,s[i]? with
 | .p d,some (some (.r n))=>bnd (ek h) (C6 s n d)
 | _,_=>none
noncomputable def qQ (s:Sl) (n:Nat) (d:D) (q:W) (h:HH):Option Fl:=match q with
 | .p k=>(dat h n).bind fun kvs=>(o9 k).bind fun y=>if kvs.length < lim then some (.nx s (h.set n (.d (rZ kvs y d)))) else none
 | _=>none
@[simp] theorem xA (s:Sl) (n:Nat) (d k:D) (h:HH):qQ s n d (.p k) h=(dat h n).bind fun kvs=>(o9 k).bind fun y=>if kvs.length < lim then some (.nx s (h.set n (.d (rZ kvs y d)))) else none:=rfl
noncomputable def sC (ek:EH) (s:Sl) (i:Nat) (w:W) (h:HH):Option Fl:=match w,s[i]? with
 | .p d,some (some (.r n))=>bnd (ek h) (qQ s n d)
 | _,_=>none
@[simp] theorem AL (ek:EH) (s:Sl) (i:Nat) (d:D) (h:HH):sC ek s i (.p d) h=match s[i]? with
 | some (some (.r n))=>bnd (ek h) (qQ s n d)
 | _=>none:=by
 unfold sC
 cases s[i]? with
 | none=>rfl
 | some o=>cases o with
  | none=>rfl
  | some w=>cases w<;>rfl
noncomputable def nJ (s:Sl) (f:Str) (v:W) (x:W) (h:HH):Option Fl:=match x with
 | .o n=>match oat h n with
  | some (c,fs)=>if attrOk v&&fs.length < 1000 then some (.nx s (h.set n (.o c (br f v fs)))) else none
  | none=>none
 | _=>none
@[simp] theorem xB (s:Sl) (f:Str) (v:W) (n:Nat) (h:HH):nJ s f v (.o n) h=match oat h n with
 | some (c,fs)=>if attrOk v&&fs.length < 1000 then some (.nx s (h.set n (.o c (br f v fs)))) else none
 | none=>none:=rfl
noncomputable def xC (eo:EH) (s:Sl) (f:Str) (v:W) (h:HH):Option Fl:=bnd (eo h) (nJ s f v)
@[simp] theorem xD (eo:EH) (s:Sl) (f:Str) (v:W) (h:HH):xC eo s f v h=bnd (eo h) (nJ s f v):=rfl
noncomputable def nK (s:Sl) (f:Str) (op:Bin) (n:Nat) (c:Str) (d:D) (v:W) (h:HH):Option Fl:=match v,oat h n with
 | .p e,some (c',fs)=>match kG op d e with
  | some z=>if c'=c/\fs.length < 1000 then some (.nx s (h.set n (.o c' (br f (.p z) fs)))) else none
  | none=>none
 | _,_=>none
@[simp] theorem xE (s:Sl) (f:Str) (op:Bin) (n:Nat) (c:Str) (d e:D) (h:HH):nK s f op n c d (.p e) h=match oat h n with
 | some (c',fs)=>match kG op d e with
  | some z=>if c'=c/\fs.length < 1000 then some (.nx s (h.set n (.o c' (br f (.p z) fs)))) else none
  | none=>none
 | none=>none:=by unfold nK;cases oat h n<;>rfl
noncomputable def sD (ee:EH) (s:Sl) (f:Str) (op:Bin) (x:W) (h:HH):Option Fl:=match x with
 | .o n=>match oat h n with
  | some (c,fs)=>match bf f fs with
   | some (.p d)=>bnd (ee h) (nK s f op n c d)
   | _=>none
  | none=>none
 | _=>none
@[simp] theorem AM (ee:EH) (s:Sl) (f:Str) (op:Bin) (n:Nat) (h:HH):sD ee s f op (.o n) h=match oat h n with
 | some (c,fs)=>match bf f fs with
  | some (.p d)=>bnd (ee h) (nK s f op n c d)
  | _=>none
 | none=>none:=rfl
@[simp] noncomputable def kEx (s:Sl) (_:W) (h:HH):Option Fl:=some (.nx s h)
@[simp] noncomputable def xF (w:W) (h:HH):Option Fl:=some (.rt w h)
@[simp] noncomputable def kIf (fa fb:HH->Option Fl) (t:Bool) (h:HH):Option Fl:=if t then fa h else fb h
@[simp] noncomputable def kFor (b:Sl->HH->Option Fl) (tg:List (Nat×Str)) (sr:Sr) (s:Sl) (ws:List W) (h:HH):Option Fl:=match (rds ws h).bind (dZ sr) with
 | some ds=>if gn ws then bK b tg ds s h else none
 | none=>none
@[simp] noncomputable def evS:S->Sl->HH->Option Fl
 | .nil,s,h=>some (.nx s h)
 | .seq a b,s,h=>jL (evS a s h) (evS b)
 | .set i _ e,s,h=>bnd (ev F G e s h) (qP s i)
 | .unp xs e,s,h=>bnd (ev F G e s h) (LP s xs)
 | .aug i _ o e,s,h=>bnd (ev F G e s h) (HU s i o)
 | .put i _ k e,s,h=>bnd (ev F G e s h) (Ep (ev F G k s) s i)
 | .putd i _ k e,s,h=>bnd (ev F G e s h) (sC (ev F G k s) s i)
 | .setf o f e,s,h=>bnd (ev F G e s h) (xC (ev F G o s) s f)
 | .augf o f op e,s,h=>bnd (ev F G o s h) (sD (ev F G e s) s f op)
 | .ex e,s,h=>bnd (ev F G e s h) (kEx s)
 | .ret e,s,h=>bnd (ev F G e s h) xF
 | .ife c a b,s,h=>tst (ev F G c s h) (kIf (evS a s) (evS b s))
 | .whl c b,s,h=>aZ (ev F G c) (evS b) turns s h
 | .for tg sr sa b,s,h=>bnd (evs F G sa s h) (kFor (evS b) tg sr s)
 | .brk,s,h=>some (.bk s h)
 | .cnt,s,h=>some (.ct s h)
 | .bad,_,_=>none
open Classical in
noncomputable def fin (h:HH) (w:W) (h':HH):Option (W×HH) :=
 if h'.length=h.length then some (w,h')
 else if h'.take h.length=h then (match w with
  | .p d=>some (.p d,h)
  | .r n=>if n < h.length then some (.r n,h) else (lat h' n).map fun xs=>(.p (.lst xs),h)
  | .o n=>if n < h.length then some (.o n,h) else some (.o n,h')
  | .k _=>none
  | .c _ _=>none)
 else some (w,h')
@[simp] noncomputable def fy (n:Nat) (ws:List W):Sl:=ws.map some++NQ (n - ws.length) none
noncomputable def lU (x:Option Fl) (k:W->HH->Option (W×HH)):Option (W×HH):=match x with
 | some (.rt w h)=>k w h
 | some (.nx _ h)=>k (.p .non) h
 | _=>none
@[simp] theorem KB (w:W) (h:HH) (k:W->HH->Option (W×HH)):lU (some (.rt w h)) k=k w h:=rfl
@[simp] theorem KC (s:Sl) (h:HH) (k:W->HH->Option (W×HH)):lU (some (.nx s h)) k=k (.p .non) h:=rfl
@[simp] theorem Gx (k:W->HH->Option (W×HH)):lU none k=none:=rfl
end
section
variable (T:FK->Option Fn) (G:Str->Option W)
noncomputable def runN:Nat->FK->List W->HH->Option (W×HH)
 | 0,_,_,_=>none
 | k+1,f,ws,h=>match T f with
  | some fn=>if ws.length=fn.ps.length then lU (evS (runN k) G fn.body (fy fn.ns.length ws) h) (fin h) else none
  | none=>none
theorem run_eq {T:FK->Option Fn}{G:Str->Option W}{f:FK}{fn:Fn}{ws:List W}{h:HH}{k:Nat} (hT:T f=some fn) (hl:ws.length=fn.ps.length) :
 runN T G (k+1) f ws h=lU (evS (runN T G k) G fn.body (fy fn.ns.length ws) h) (fin h):=by
 rw[runN,hT];exact if_pos hl
end
end BT
end
section
namespace BT
open PySem
noncomputable def LQ:Fn:=⟨["state","thing"],["state","thing"],.ret (.call "worth_in" (.cons (.var 0 "state") (.cons (.var 1 "thing") .nil)))⟩
noncomputable def LR:Fn:=⟨["state","thing","worth"],["state","thing","worth"],.ret (.cmp .ne (.call "worth_in" (.cons (.var 0 "state") (.cons (.var 1 "thing") .nil))) (.var 2 "worth"))⟩
noncomputable def LS:Fn:=⟨["state","thing","worth"],["state","thing","worth"],.ret (.cmp .ne (.call "worth_in" (.cons (.var 0 "state") (.cons (.var 1 "thing") .nil))) (.var 2 "worth"))⟩
noncomputable def AN:Fn:=⟨["state","term"],["state","term"],.ret (.call "reckoned" (.cons (.var 1 "term") (.cons (.var 0 "state") .nil)))⟩
noncomputable def AO:Fn:=⟨["state","term"],["state","term"],.ret (.cmp .ne (.call "reckoned" (.cons (.var 1 "term") (.cons (.var 0 "state") .nil))) (.cst (.int 0)))⟩
noncomputable def AQ:Fn:=⟨["state","term"],["state","term"],.ret (.cmp .ne (.call "reckoned" (.cons (.var 1 "term") (.cons (.var 0 "state") .nil))) (.cst (.int 0)))⟩
noncomputable def AR:Fn:=⟨["state"],["state"],.ret (.idx (.var 0 "state") (.glo "ROW"))⟩
noncomputable def AS:Fn:=⟨["state","row"],["state","row"],.ret (.cmp .eq (.idx (.var 0 "state") (.glo "ROW")) (.var 1 "row"))⟩
noncomputable def AU:Fn:=⟨["state","number"],["state","number"],.ret (.cmp .gt (.bi .len false (.cons (.idx (.var 0 "state") (.glo "SAID")) .nil)) (.var 1 "number"))⟩
noncomputable def LU:Fn:=⟨["state","bound"],["state","bound"],.ret (.cmp .le (.call "open_in" (.cons (.var 0 "state") .nil)) (.var 1 "bound"))⟩
noncomputable def HV:Fn:=⟨["state","bound"],["state","bound"],.ret (.cmp .le (.call "open_in" (.cons (.var 0 "state") .nil)) (.var 1 "bound"))⟩
noncomputable def HW:Fn:=⟨["state","wanted"],["state","wanted"],.ret (.and (.cmp .eq (.idx (.var 0 "state") (.glo "NAMES")) (.idx (.var 1 "wanted") (.glo "NAMES"))) (.cmp .eq (.idx (.var 0 "state") (.glo "CELLS")) (.idx (.var 1 "wanted") (.glo "CELLS"))))⟩
noncomputable def HX:Fn:=⟨["state","tape","thing"],["state","tape","thing"],.ret (.cmp .eq (.call "written_next" (.cons (.var 1 "tape") (.cons (.var 0 "state") .nil))) (.var 2 "thing"))⟩
noncomputable def HY:Fn:=⟨[],[],.ret (.cst .non)⟩
noncomputable def HZ:Fn:=⟨[],[],.ret (.cst .non)⟩
noncomputable def nL (i:Nat):Option Fn:=([LQ,LR,LS,AN,AO,AQ,AR,AS,AU,LU,HV,HW,HX,HY,HZ]:List Fn)[i]?
noncomputable def dg:List Str:=["worths_of","last_change","next_change","moments_so","last_so","next_so","visits","last_visit","when_said","next_within","last_within","first_other","writer_of","judged","remade"]
noncomputable def xG (i:Nat):Str:=dg.getD i ""
noncomputable def b8 (x:Str):Str:="<"++x++">"
end BT
end
section
namespace BS
open PySem PySem.Spec PyProof.Rows L2
theorem ai {β:Type}{a:β}{P:Prop} (h:(none:Option β)=some a):P:=nomatch h
noncomputable def attrName (f:Str):Bool:=(["program","asked","gap","most","kept","farthest","front","now","origins","branches","tape","named"]:List Str).contains f
noncomputable def pF:BT.Bi->Option (String×(BT.D->Bool))
 | .isInt=>some ("int",BT.isI)
 | .isBool=>some ("bool",BT.isB)
 | .isStr=>some ("str",BT.isS)
 | .isTuple=>some ("tuple",BT.isT)
 | .isList=>some ("list",BT.isL)
 | _=>none
noncomputable def kN (sc:NO) (x:Str):Bool:=match sc.names.lookup x with
 | some .local=>true
 | some .cell=>true
 | some .free=>true
 | _=>false
noncomputable def aL (sc:NO) (x:Str):Bool:=sc.names.lookup x==some .globalImplicit
noncomputable def cK (x:Str):Bool:=!(x=="__debug__")&&!(x=="__classdict__")&&!(x=="__name__")
noncomputable def noStar:Nn->Bool
 | .Starred _ _=>false
 | _=>true
noncomputable def jX:Nn->Bool
 | .Slice _ _ _ _=>false
 | _=>true
noncomputable def aS:Nn->Bool
 | .Name _ _=>true
 | .Constant _ _ _=>true
 | .Subscript _ _ _=>true
 | .Attribute _ _ _=>true
 | .Call (.Attribute _ _ _) _ _ _=>true
 | _=>false
noncomputable def C7:BT.Bin->Qa->Bool
 | .add,.Add=>true
 | .sub,.Sub=>true
 | .mul,.Mult=>true
 | .mod,.Mod=>true
 | .fdiv,.FloorDiv=>true
 | .pow,.Pow=>true
 | _,_=>false
noncomputable def AV:BT.Cm->CmpOp->Bool
 | .eq,.Eq=>true
 | .ne,.NotEq=>true
 | .lt,.Lt=>true
 | .le,.LtE=>true
 | .gt,.Gt=>true
 | .ge,.GtE=>true
 | .isN,.Is=>true
 | .notN,.IsNot=>true
 | .mem,.In=>true
 | .nmem,.NotIn=>true
 | _,_=>false
noncomputable def C8:BT.D->Const->Bool
 | .non,.none=>true
 | .bl a,.bool b=>a==b
 | .int i,.int j=>i==j
 | .str x,.str y=>x==y&&PyData.strOk x
 | _,_=>false
noncomputable def xH:BT.Bi->Bool->Option Str
 | .len,false=>some "len"
 | .abs,false=>some "abs"
 | .int,false=>some "int"
 | .list,_=>some "list"
 | .tuple,false=>some "tuple"
 | .sorted,_=>some "sorted"
 | _,_=>none
noncomputable def C9 (b:BT.Bi) (mu:Bool) (x:Str):Bool:=xH b mu==some x
noncomputable def xJ:BT.Bi->Str->Bool
 | .min2,x=>x=="min"
 | .max2,x=>x=="max"
 | _,_=>false
noncomputable def AW:Nn->Option Const
 | .Constant c _ _=>some c
 | _=>none
noncomputable def cInt:Const->Option Int
 | .int j=>some j
 | _=>none
noncomputable def unE:Nn->Option Nn
 | .UnaryOp o e _=>if o=.USub then some e else none
 | _=>none
noncomputable def nM (k:Int) (e:Nn):Bool:=((AW e).bind cInt==some k&&decide (0 < k))||(((unE e).bind AW).bind cInt==some (-k)&&decide (k < 0))
noncomputable def xK:BT.Me->Str
 | .append=>"append"
 | .pop=>"pop"
 | .extend=>"extend"
 | .tindex=>"index"
 | .sindex=>"index"
 | .dget=>"get"
noncomputable def xM:BT.E->Bool
 | .glo _=>true
 | _=>false
noncomputable def xN (m:BT.Me) (o:BT.E):Bool:=match m with
 | .append=>true
 | .pop=>true
 | .extend=>true
 | .sindex=>false
 | .tindex=>xM o
 | .dget=>false
noncomputable def tOK:BT.E->Bool
 | .ite _ _ _=>false
 | .not a=>tOK a
 | .and a b=>tOK a&&tOK b
 | .or a b=>tOK a&&tOK b
 | .tup _=>false
 | .lst _ _=>false
 | .comp _ _ _ _ _ _ _=>false
 | _=>true
noncomputable def iC:Nn->Bool
 | .Set _ _ _=>false
 | _=>true
noncomputable def mO:BT.Sr->Nn->Bool
 | .zip2,.Tuple _ _ _=>true
 | .enu,.Tuple _ _ _=>true
 | .zip2,_=>false
 | .enu,_=>false
 | _,_=>true
noncomputable def aW (scope sc:NO):NO :=
 { scope with names:=scope.names.map fun (n,k)=>if (k==.free&&sc.kind==.function&&sc.names.lookup n==some .cell) then (n,.cell) else (n,k) }
noncomputable def nmE:Nn->Option Str
 | .Name y _=>some y
 | _=>none
noncomputable def Er:Nn->List Nn
 | .Tuple xs _ _=>xs
 | _=>[]
noncomputable def pG (sc:NO) (tg:List Str) (te:Nn):Bool:=((tg.map some==[nmE te])||(tg.length==2&&tg.map some==(Er te).map nmE))&&tg.all fun x=>sc.names.lookup x==some .local
noncomputable def iE:List Str->Bool
 | []=>true
 | x :: r=>!r.contains x&&iE r
noncomputable def iF (sc:NO) (N:List Str) (tg:List Str) (fv:List (Nat×Str)) (scope:NO):Bool :=
 scope.kind==.function&&sc.kind==.function&&scope.names.all (fun y=>!(y.2==.cell))&&scope.names.all (fun y=>!(y.2==.local)||scope.names.lookup y.1==some .local) &&
 scope.names.all (fun y=>!(y.2==.free)||sc.names.lookup y.1==some .cell) &&
 fv.all (fun q=>N[q.1]?==some q.2&&scope.names.contains (q.2,.free)&&sc.names.lookup q.2==some .cell&&(aW scope sc).names.lookup q.2==some .cell)&&iE (tg++fv.map (·.2))
mutual
inductive CE':NO->List Str->BT.E->Nn->Prop where
 | var {sc:NO}{N:List Str}{i:Nat}{x:Str}{p:Pos} (h1:N[i]?=some x) (h2:kN sc x=true) (h3:cK x=true):CE' sc N (.var i x) (.Name x p)
 | cst {sc:NO}{N:List Str}{d:BT.D}{c:Const}{k:Nat}{p:Pos} (h:C8 d c=true):CE' sc N (.cst d) (.Constant c k p)
 | glo {sc:NO}{N:List Str}{x:Str}{p:Pos} (h2:aL sc x=true) (h3:cK x=true):CE' sc N (.glo x) (.Name x p)
 | bin {sc:NO}{N:List Str}{o:BT.Bin}{op:Qa}{a b:BT.E}{l r:Nn}{p:Pos} (h:C7 o op=true) (ha:CE' sc N a l) (hb:CE' sc N b r):CE' sc N (.bin o a b) (.BinOp l op r p)
 | neg {sc:NO}{N:List Str}{a:BT.E}{x:Nn}{p:Pos} (ha:CE' sc N a x):CE' sc N (.neg a) (.UnaryOp .USub x p)
 | not {sc:NO}{N:List Str}{a:BT.E}{x:Nn}{p:Pos} (ha:CE' sc N a x):CE' sc N (.not a) (.UnaryOp .Not x p)
 | and2 {sc:NO}{N:List Str}{a b:BT.E}{x y:Nn}{p:Pos} (ha:CE' sc N a x) (hb:CE' sc N b y):CE' sc N (.and a b) (.BoolOp .And [x,y] p)
 | and3 {sc:NO}{N:List Str}{a b:BT.E}{x y z:Nn}{r:List Nn}{p:Pos} (ha:CE' sc N a x) (hb:CE' sc N b (.BoolOp .And (y :: z :: r) p)):CE' sc N (.and a b) (.BoolOp .And (x :: y :: z :: r) p)
 | or2 {sc:NO}{N:List Str}{a b:BT.E}{x y:Nn}{p:Pos} (ha:CE' sc N a x) (hb:CE' sc N b y):CE' sc N (.or a b) (.BoolOp .Or [x,y] p)
 | or3 {sc:NO}{N:List Str}{a b:BT.E}{x y z:Nn}{r:List Nn}{p:Pos} (ha:CE' sc N a x) (hb:CE' sc N b (.BoolOp .Or (y :: z :: r) p)):CE' sc N (.or a b) (.BoolOp .Or (x :: y :: z :: r) p)
 | cmp {sc:NO}{N:List Str}{o:BT.Cm}{op:CmpOp}{a b:BT.E}{l r:Nn}{p:Pos} (h:AV o op=true) (ha:CE' sc N a l) (hb:CE' sc N b r) (hm:RN op r=false):CE' sc N (.cmp o a b) (.Compare l [op] [r] p)
 | chain {sc:NO}{N:List Str}{o o':BT.Cm}{op op':CmpOp}{a b c:BT.E}{l r r':Nn}{p:Pos} (h:AV o op=true) (h':AV o' op'=true) (ha:CE' sc N a l) (hb:CE' sc N b r) (hc:CE' sc N c r') (hm:lastMarks [op,op'] [r,r']=false):CE' sc N (.chain o o' a b c) (.Compare l [op,op'] [r,r'] p)
 | ite {sc:NO}{N:List Str}{c a b:BT.E}{t x y:Nn}{p:Pos} (h:tOK c=true) (hc:CE' sc N c t) (ha:CE' sc N a x) (hb:CE' sc N b y):CE' sc N (.ite c a b) (.IfExp t x y p)
 | tup {sc:NO}{N:List Str}{as:BT.Es}{es:List Nn}{k:Nat}{p:Pos} (h:CEs sc N as es):CE' sc N (.tup as) (.Tuple es k p)
 | lst {sc:NO}{N:List Str}{mu:Bool}{as:BT.Es}{es:List Nn}{p:Pos} (h:CEs sc N as es):CE' sc N (.lst mu as) (.List es p)
 | idx {sc:NO}{N:List Str}{a i:BT.E}{x sl:Nn}{p:Pos} (ha:CE' sc N a x) (hi:CE' sc N i sl) (hs:jX sl=true):CE' sc N (.idx a i) (.Subscript x sl p)
 | slc {sc:NO}{N:List Str}{a:BT.E}{lo hi:BT.Es}{x:Nn}{l u:Option Nn}{p2 p:Pos} (ha:CE' sc N a x) (hl:CO sc N lo l) (hu:CO sc N hi u):CE' sc N (.slc a lo hi) (.Subscript x (.Slice l u none p2) p)
 | call {sc:NO}{N:List Str}{f:Str}{as:BT.Es}{es:List Nn}{np p:Pos} (hg:aL sc f=true) (hn:cK f=true) (ha:CEs sc N as es):CE' sc N (.call f as) (.Call (.Name f np) es [] p)
 | sset {sc:NO}{N:List Str}{a:BT.E}{e:Nn}{np zp p pos:Pos} (hg:aL sc "sorted"=true) (hg2:aL sc "set"=true) (hs:noStar e=true) (h:CE' sc N a e) :
  CE' sc N (.bi .sset false (.cons a .nil)) (.Call (.Name "sorted" np) [.Call (.Name "set" zp) [e] [] pos] [] p)
 | lrng {sc:NO}{N:List Str}{mu:Bool}{a:BT.E}{e:Nn}{np zp p pos:Pos} (hg:aL sc "list"=true) (hg2:aL sc "range"=true) (hs:noStar e=true) (h:CE' sc N a e) :
  CE' sc N (.lsr mu .rng1 (.cons a .nil)) (.Call (.Name "list" np) [.Call (.Name "range" zp) [e] [] pos] [] p)
 | bi {sc:NO}{N:List Str}{b:BT.Bi}{mu:Bool}{x:Str}{a:BT.E}{e:Nn}{np p:Pos} (hb:C9 b mu x=true) (hg:aL sc x=true) (hs:noStar e=true) (ha:CE' sc N a e):CE' sc N (.bi b mu (.cons a .nil)) (.Call (.Name x np) [e] [] p)
 | inst {sc:NO}{N:List Str}{b:BT.Bi}{c:String}{f:BT.D->Bool}{a:BT.E}{e:Nn}{np p2 p:Pos} (hb:pF b=some (c,f)) (hg:aL sc "isinstance"=true) (hg2:aL sc (NN c)=true) (hs:noStar e=true) (ha:CE' sc N a e) :
  CE' sc N (.bi b false (.cons a .nil)) (.Call (.Name "isinstance" np) [e,.Name (NN c) p2] [] p)
 | me {sc:NO}{N:List Str}{m:BT.Me}{o:BT.E}{as:BT.Es}{oe:Nn}{name:Str}{apos cpos:Pos}{es:List Nn} (h1:xN m o=true) (h2:name=xK m) (h3:aS oe=true) (h6:(apos.endLine==cpos.line)=true) (h7:es.length < 20) (ho:CE' sc N o oe) (ha:CEs sc N as es) :
  CE' sc N (.me m o as) (.Call (.Attribute oe name apos) es [] cpos)
 | comp {sc:NO}{N:List Str}{mu:Bool}{sr:BT.Sr}{sa:BT.Es}{tg:List Str}{fv:List (Nat×Str)}{cond:BT.Es}{elt:BT.E}{te iter elt':Nn}{ifs:List Nn}{scope:NO}{pos:Pos}
  (hk:iF sc N tg fv scope=true) (ht:pG (aW scope sc) tg te=true) (hz:mO sr te=true) (hs:iC iter=true) (hi:CI sc N sr sa iter)
  (hc:CC (aW scope sc) (tg++fv.map (·.2)) cond ifs) (he:CE' (aW scope sc) (tg++fv.map (·.2)) elt elt'):CE' sc N (.comp mu sr sa tg fv cond elt) (.ListComp elt' [⟨te,iter,ifs,0⟩] scope pos)
 | fld {sc:NO}{N:List Str}{a:BT.E}{f:Str}{x:Nn}{p:Pos} (hb:aS x=true) (hf:attrName f=true) (ha:CE' sc N a x):CE' sc N (.fld a f) (.Attribute x f p)
 | meth {sc:NO}{N:List Str}{o:BT.E}{m:Str}{as:BT.Es}{oe:Nn}{apos cpos:Pos}{es:List Nn} (h3:aS oe=true) (h6:(apos.endLine==cpos.line)=true) (h7:es.length < 20) (ho:CE' sc N o oe) (ha:CEs sc N as es) :
  CE' sc N (.meth o m as) (.Call (.Attribute oe m apos) es [] cpos)
 | stp {sc:NO}{N:List Str}{mu:Bool}{k:Int}{a:BT.E}{x se:Nn}{p2 p:Pos} (hk:nM k se=true) (ha:CE' sc N a x):CE' sc N (.stp mu k a) (.Subscript x (.Slice none none (some se) p2) p)
 | bi2 {sc:NO}{N:List Str}{b:BT.Bi}{x:Str}{a1 a2:BT.E}{e1 e2:Nn}{np p:Pos} (hb:xJ b x=true) (hg:aL sc x=true) (hs1:noStar e1=true) (hs2:noStar e2=true) (h1:CE' sc N a1 e1) (h2:CE' sc N a2 e2) :
  CE' sc N (.bi b false (.cons a1 (.cons a2 .nil))) (.Call (.Name x np) [e1,e2] [] p)
 | make {sc:NO}{N:List Str}{c:Str}{as:BT.Es}{es:List Nn}{np p:Pos} (hg:aL sc c=true) (hn:cK c=true) (ha:CEs sc N as es):CE' sc N (.make c as) (.Call (.Name c np) es [] p)
 | callv {sc:NO}{N:List Str}{i:Nat}{x:Str}{as:BT.Es}{e:Nn}{es:List Nn}{np p:Pos} (h1:N[i]?=some x) (h2:kN sc x=true) (h3:cK x=true) (ha:CEs sc N as (e :: es)):CE' sc N (.callv i x as) (.Call (.Name x np) (e :: es) [] p)
inductive CEs:NO->List Str->BT.Es->List Nn->Prop where
 | nil {sc:NO}{N:List Str}:CEs sc N .nil []
 | cons {sc:NO}{N:List Str}{a:BT.E}{as:BT.Es}{e:Nn}{es:List Nn} (hs:noStar e=true) (ha:CE' sc N a e) (hr:CEs sc N as es):CEs sc N (.cons a as) (e :: es)
inductive CO:NO->List Str->BT.Es->Option Nn->Prop where
 | nil {sc:NO}{N:List Str}:CO sc N .nil none
 | one {sc:NO}{N:List Str}{a:BT.E}{e:Nn} (ha:CE' sc N a e):CO sc N (.cons a .nil) (some e)
inductive CC:NO->List Str->BT.Es->List Nn->Prop where
 | nil {sc:NO}{N:List Str}:CC sc N .nil []
 | one {sc:NO}{N:List Str}{a:BT.E}{e:Nn} (ht:tOK a=true) (ha:CE' sc N a e):CC sc N (.cons a .nil) [e]
inductive CI:NO->List Str->BT.Sr->BT.Es->Nn->Prop where
 | rng1 {sc:NO}{N:List Str}{a:BT.E}{e:Nn}{p pos:Pos} (hg:aL sc "range"=true) (hs:noStar e=true) (h:CE' sc N a e):CI sc N .rng1 (.cons a .nil) (.Call (.Name "range" p) [e] [] pos)
 | rng2 {sc:NO}{N:List Str}{a b:BT.E}{x y:Nn}{p pos:Pos} (hg:aL sc "range"=true) (hs:noStar x=true) (hs2:noStar y=true) (ha:CE' sc N a x) (hb:CE' sc N b y):CI sc N .rng2 (.cons a (.cons b .nil)) (.Call (.Name "range" p) [x,y] [] pos)
 | rev {sc:NO}{N:List Str}{a:BT.E}{e:Nn}{p pos:Pos} (hg:aL sc "reversed"=true) (hs:noStar e=true) (h:CE' sc N a e):CI sc N .rev (.cons a .nil) (.Call (.Name "reversed" p) [e] [] pos)
 | enu {sc:NO}{N:List Str}{a:BT.E}{e:Nn}{p pos:Pos} (hg:aL sc "enumerate"=true) (hs:noStar e=true) (h:CE' sc N a e):CI sc N .enu (.cons a .nil) (.Call (.Name "enumerate" p) [e] [] pos)
 | seq {sc:NO}{N:List Str}{a:BT.E}{x:Nn} (h:CE' sc N a x):CI sc N .seq (.cons a .nil) x
end
inductive LPa:Pe->List Str->Prop where
 | one {p:Pos}:LPa ⟨[],[⟨"state",none,p⟩],none,[],[],none,[]⟩ ["state"]
 | two {p q:Pos}:LPa ⟨[],[⟨"row",none,p⟩,⟨"state",none,q⟩],none,[],[],none,[]⟩ ["row","state"]
noncomputable def mP (ps fs:List Str) (sc:NO):Bool :=
 sc.kind==.function&&!sc.isCoroutine&&!sc.isGenerator&&sc.names.all (fun y=>!(y.2==.cell))&&ps.all (fun x=>sc.names.lookup x==some .local) &&
 fs.all (fun x=>sc.names.lookup x==some .free&&sc.names.contains (x,.free))&&sc.names.all (fun y=>!(y.2==.free)||fs.contains y.1)&&iE (ps++fs)
noncomputable def xO (sc:NO) (N:List Str) (fv:List (Nat×Str)):Bool:=fv.all fun q=>N[q.1]?==some q.2&&sc.names.lookup q.2==some .cell
inductive CL (sc:NO) (N:List Str):BT.E->Str->BT.Es->Nat->List (Nat×Str)->Nn->Prop where
 | zero {o bt:BT.E}{m:Str}{L:Nat}{fv:List (Nat×Str)}{oe be:Nn}{apos cpos lp:Pos}{pa:Pe}{scope:NO}{ns ps:List Str} (hl:BT.nL L=some ⟨ns,ns,.ret bt⟩) (hp:LPa pa ps) (hn:ns=ps++fv.map (·.2)) (hk:mP ps (fv.map (·.2)) scope=true) (hv:xO sc N fv=true)
  (ht:N.contains (BT.b8 (BT.xG L))=true) (hc:CE' scope ns bt be) (h3:aS oe=true) (h6:(apos.endLine==cpos.line)=true) (ho:CE' sc N o oe):CL sc N o m .nil L fv (.Call (.Attribute oe m apos) [.Lambda pa be scope lp] [] cpos)
 | one {o bt a:BT.E}{m:Str}{L:Nat}{fv:List (Nat×Str)}{oe be e:Nn}{apos cpos lp:Pos}{pa:Pe}{scope:NO}{ns ps:List Str} (hl:BT.nL L=some ⟨ns,ns,.ret bt⟩) (hp:LPa pa ps) (hn:ns=ps++fv.map (·.2)) (hk:mP ps (fv.map (·.2)) scope=true) (hv:xO sc N fv=true)
  (ht:N.contains (BT.b8 (BT.xG L))=true) (hc:CE' scope ns bt be) (h3:aS oe=true) (h6:(apos.endLine==cpos.line)=true) (ho:CE' sc N o oe) (hs:noStar e=true) (ha:CE' sc N a e):CL sc N o m (.cons a .nil) L fv (.Call (.Attribute oe m apos) [e,.Lambda pa be scope lp] [] cpos)
end BS
end
section
namespace BS
open PySem PySem.Spec PyProof.Rows L2
noncomputable def KT (K:Nl) (a:Addr) (xs:List V):Prop :=
 ∃ (o:Obj) (its:Array Np) (n:Nat),(K.lookup a=some o/\o.cls=.type "tuple"/\o.data=.seq its n/\its.size<=sizeLine/\au xs its.toList)/\o.dict=none
noncomputable def KL (K:Nl) (a:Addr) (xs:List V):Prop:=∃ (its:List Np) (n:Nat),K.lookup a=some { cls:=.type "list",data:=.seq its.toArray n }/\its.length<=sizeLine/\au xs its
noncomputable def LL (K:Nl) (H:Hp) (a:Addr) (xs:List V):Prop:=Rd H a (.lst xs)\/KL K a xs
theorem LL.sq {K:Nl}{H:Hp}{a:Addr}{xs:List V} (h:LL K H a xs):SqL K H a xs:=by
 rcases h with h | ⟨its,n,h1,h2,h3⟩
 ·exact .inl h
 ·exact .inr ⟨_,its.toArray,n,h1,rfl,rfl,rfl,by simpa using h2,by simpa using h3⟩
noncomputable def KD (P:NG) (w:N2) (K:Nl) (a:Addr) (es:List (Str×V)):Prop :=
 (a==R0)=false/\∃ vs:List (Key×Np),KV (es.map fun q=>(Sum.inr q.1,q.2)) vs/\∀ h:Heap,K.In h->h.DictOf (cH P w) a vs
mutual
inductive RD (K:Nl) (m:List Addr) (H:Hp):V->BT.D->Prop where
 | non:RD K m H .non .non
 | bl (b:Bool):RD K m H (.bl b) (.bl b)
 | int (i:Int):RD K m H (.int i) (.int i)
 | str (x:Str) (h:PyData.strOk x=true):RD K m H (.str x) (.str x)
 | tup {a:Addr}{vs:List V}{ds:List BT.D} (h:(Rd H a (.tup vs)/\a∉m)\/KT K a vs) (r:RDs K m H vs ds):RD K m H (.ref a) (.tup ds)
 | lst {a:Addr}{vs:List V}{ds:List BT.D} (h:(Rd H a (.lst vs)/\a∉m)\/KL K a vs) (r:RDs K m H vs ds):RD K m H (.ref a) (.lst ds)
inductive RDs (K:Nl) (m:List Addr) (H:Hp):List V->List BT.D->Prop where
 | nil:RDs K m H [] []
 | cons {v:V}{d:BT.D}{vs:List V}{ds:List BT.D} (r:RD K m H v d) (t:RDs K m H vs ds):RDs K m H (v :: vs) (d :: ds)
end
inductive RDk (K:Nl):List (Str×V)->List (Str×BT.D)->Prop where
 | nil:RDk K [] []
 | cons {x:Str}{v:V}{d:BT.D}{es:List (Str×V)}{kvs:List (Str×BT.D)} (r:∀ m H,RD K m H v d) (t:RDk K es kvs):RDk K ((x,v) :: es) ((x,d) :: kvs)
inductive RA (K:Nl) (m:List Addr) (H:Hp):V->BT.W->Prop where
 | p {v:V}{d:BT.D} (r:RD K m H v d):RA K m H v (.p d)
 | r {a:Addr}{n:Nat} (h:m[n]?=some a):RA K m H (.ref a) (.r n)
 | o {a:Addr}{n:Nat} (h:m[n]?=some a):RA K m H (.ref a) (.o n)
noncomputable def Tr (m:List Addr) (H:Hp) (a:Addr) (o:Obj):Prop:=H a=some (.frz o (.own 0))/\a∉m
noncomputable def uY (x:Str):Str:=x++".<locals>."++"<lambda>"
inductive f6 (m:List Addr) (H:Hp) (cl:List (Str×Addr)):List Str->List V->Prop where
 | nil:f6 m H cl [] []
 | cons {x:Str}{c:Addr}{o:Obj}{u:Np}{v:V}{xs:List Str}{vs:List V} (h1:cl.lookup x=some c) (h2:Tr m H c o) (h3:o.data=.cell (some u)) (r:RelV v u) (t:f6 m H cl xs vs):f6 m H cl (x :: xs) (v :: vs)
noncomputable def gr (m:List Addr) (H:Hp) (f:Addr) (L:Nat) (vs:List V):Prop :=
 ∃ bt ps fs pa be sc cl pm ctv c' oc os t q,BT.nL L=some ⟨ps++fs,ps++fs,.ret bt⟩/\LPa pa ps/\mP ps fs sc=true/\CE' sc (ps++fs) bt be/\(∀ x y c,cl.lookup x=some c->cl.lookup y=some c->x=y)/\(∀ x c,cl.lookup x=some c->x∈fs) ∧
  Tr m H f (QE "<lambda>" q pa be sc cl pm c' ctv)/\Tr m H c' oc/\oc.data=.fields os/\os[1]?=some (.str q t)/\f6 m H cl fs vs
inductive RCs (K:Nl) (m:List Addr) (H:Hp):List V->List BT.Cp->Prop where
 | nil:RCs K m H [] []
 | cons {v:V}{x:BT.Cp}{vs:List V}{xs:List BT.Cp} (r:RA K m H v x.w) (t:RCs K m H vs xs):RCs K m H (v :: vs) (x :: xs)
noncomputable def TB (K:Nl) (H:Hp):Prop:=∀ x∈BT.dg,∀ c P,Oi K x=some (c,P)->∃ ps,H P=some (.tbl ps)/\TriplesOk ps.toList ∧
 ∀ pos v,Qq pos ps.toList=some v->∃ c' oc os t,v=.ref c'/\H c'=some (.frz oc (.own 0))/\oc.data=.fields os/\os[1]?=some (.str (uY x) t)
theorem TB.mono {K:Nl}{H H':Hp} (h:TB K H) (h1:∀ P ps,H P=some (.tbl ps)->H' P=some (.tbl ps)) (h2:∀ a o vs,o.data=.fields vs->H a=some (.frz o (.own 0))->H' a=some (.frz o (.own 0))):TB K H':=fun x hx c P e=>by
 obtain ⟨ps,e1,e2,e3⟩:=h x hx c P e
 refine ⟨ps,h1 _ _ e1,e2,fun pos v q=>?_⟩
 obtain ⟨c',oc,os,t,q1,q2,q3⟩:=e3 pos v q
 exact ⟨c',oc,os,t,q1,h2 _ _ _ q3.1 q2,q3⟩
inductive RW (P:NG) (w:N2) (K:Nl) (m:List Addr) (H:Hp):V->BT.W->Prop where
 | p {v:V}{d:BT.D} (r:RD K m H v d):RW P w K m H v (.p d)
 | r {a:Addr}{n:Nat} (h:m[n]?=some a):RW P w K m H (.ref a) (.r n)
 | k {a:Addr}{es:List (Str×V)}{kvs:List (Str×BT.D)} (h:KD P w K a es) (r:RDk K es kvs):RW P w K m H (.ref a) (.k kvs)
 | o {a:Addr}{n:Nat} (h:m[n]?=some a):RW P w K m H (.ref a) (.o n)
 | c {f:Addr}{L:Nat}{vs:List V}{cs:List BT.Cp} (h:gr m H f L vs) (r:RCs K m H vs cs):RW P w K m H (.ref f) (.c (.l L) cs)
 | g {f:Addr}{x:Str} (h:Oe K NL x=some (some (.ref f))) (r:OD K (.ref f)=true):RW P w K m H (.ref f) (.c (.f x) [])
inductive RFs (K:Nl) (m:List Addr) (H:Hp):List (Str×V)->List (Str×BT.W)->Prop where
 | nil:RFs K m H [] []
 | cons {f:Str}{v:V}{x:BT.W}{vs:List (Str×V)}{fs:List (Str×BT.W)} (r:RA K m H v x) (t:RFs K m H vs fs):RFs K m H ((f,v) :: vs) ((f,x) :: fs)
inductive RKs (K:Nl) (m:List Addr) (H:Hp):List (Key×V)->List (BT.Ky×BT.D)->Prop where
 | nil:RKs K m H [] []
 | cons {k:Key}{v:V}{d:BT.D}{vs:List (Key×V)}{kvs:List (BT.Ky×BT.D)} (hk:RD K m H (kV k) (BT.qJ k)) (r:RD K m H v d) (t:RKs K m H vs kvs):RKs K m H ((k,v) :: vs) ((k,d) :: kvs)
noncomputable def CN (K:Nl) (c:Str) (C:Addr):Prop:=Oe K NL c=some (some (.ref C))
theorem CN.inj {K:Nl}{c:Str}{C C':Addr} (h:CN K c C) (h':CN K c C'):C=C':=by
 have e:=h.symm.trans h'
 simpa using e
structure kO (K:Nl) (c:Str) (C:Addr):Prop where
 cn:CN K c C
 cls:Cls K C
 no:∀ f,attrName f=true->gf K C f
noncomputable def gu (K:Nl) (m:List Addr) (H:Hp) (a:Addr):BT.Cl->Prop
 | .l xs=>∃ vs,H a=some (.lst vs)/\RDs K m H vs xs
 | .o c fs=>∃ C dx vs,H a=some (.ins C dx vs)/\kO K c C/\RFs K m H vs fs
 | .d kvs=>∃ vs,H a=some (.dK vs)/\RKs K m H vs kvs
inductive RWs (P:NG) (w:N2) (K:Nl) (m:List Addr) (H:Hp):List V->List BT.W->Prop where
 | nil:RWs P w K m H [] []
 | cons {v:V}{x:BT.W}{vs:List V}{xs:List BT.W} (r:RW P w K m H v x) (t:RWs P w K m H vs xs):RWs P w K m H (v :: vs) (x :: xs)
structure RH (K:Nl) (m:List Addr) (H:Hp) (h:BT.HH):Prop where
 nd:m.Nodup
 len:m.length=h.length
 cl:∀ (i:Nat) (a:Addr) (c:BT.Cl),m[i]?=some a->h[i]?=some c->gu K m H a c
 tb:TB K H
theorem xP {h:BT.HH}{n:Nat}{xs:List BT.D} (e:BT.lat h n=some xs):h[n]?=some (.l xs):=by
 unfold BT.lat at e
 cases g:h[n]? with
 | none=>rw[g] at e;cases e
 | some c=>rw[g] at e;cases c<;>simp[BT.nA] at e;rw[e]
theorem xQ {h:BT.HH}{n:Nat}{c:Str}{fs:List (Str×BT.W)} (e:BT.oat h n=some (c,fs)):h[n]?=some (.o c fs):=by
 unfold BT.oat at e
 cases g:h[n]? with
 | none=>rw[g] at e;cases e
 | some c=>rw[g] at e;cases c<;>simp[BT.o8] at e;rw[e.1,e.2]
theorem xR {h:BT.HH}{n:Nat}{kvs:List (BT.Ky×BT.D)} (e:BT.dat h n=some kvs):h[n]?=some (.d kvs):=by
 unfold BT.dat at e
 cases g:h[n]? with
 | none=>rw[g] at e;cases e
 | some c=>rw[g] at e;cases c<;>simp[BT.uS] at e;rw[e]
theorem RH.Ia {K:Nl}{m:List Addr}{H:Hp}{h:BT.HH} (R:RH K m H h) (i:Nat) (a:Addr) (kvs:List (BT.Ky×BT.D)) (e:m[i]?=some a) (g:BT.dat h i=some kvs):∃ vs,H a=some (.dK vs)/\RKs K m H vs kvs:=R.cl i a _ e (xR g)
theorem RH.cell {K:Nl}{m:List Addr}{H:Hp}{h:BT.HH} (R:RH K m H h) (i:Nat) (a:Addr) (xs:List BT.D) (e:m[i]?=some a) (g:BT.lat h i=some xs):∃ vs,H a=some (.lst vs)/\RDs K m H vs xs:=R.cl i a _ e (xP g)
theorem RH.mQ {K:Nl}{m:List Addr}{H:Hp}{h:BT.HH} (R:RH K m H h) (i:Nat) (a:Addr) (c:Str) (fs:List (Str×BT.W)) (e:m[i]?=some a) (g:BT.oat h i=some (c,fs)):∃ C dx vs,H a=some (.ins C dx vs)/\kO K c C/\RFs K m H vs fs:=R.cl i a _ e (xQ g)
structure RS (P:NG) (w:N2) (K:Nl) (m:List Addr) (H:Hp) (σ:L2.St) (s:BT.Sl):Prop where
 len:σ.length=s.length
 get:∀ (i:Nat) (x:BT.W),s[i]?=some (some x)->∃ v,σ[i]?=some (some v)/\RW P w K m H v x
noncomputable def xS:HO->Bool
 | .tbl _=>true
 | _=>false
structure Ext (m:List Addr) (H:Hp) (m':List Addr) (H':Hp):Prop where
 pre:∃ e,m'=m++e/\∀ a∈e,H a=none
 keep:∀ a o,H a=some o->a∉m->xS o=false->H' a=some o
 live:∀ a,H' a=none->H a=none
theorem Ext.refl (m:List Addr) (H:Hp):Ext m H m H:=⟨⟨[],by simp,by simp⟩,fun _ _ h _ _=>h,fun _ h=>h⟩
theorem Ext.fG {m m':List Addr}{H H':Hp} (x:Ext m H m' H') {a:Addr}{o:HO} (h:H a=some o) (n:a∉m):a∉m':=by
 obtain ⟨e,rfl,he⟩:=x.pre
 intro q
 rcases List.mem_append.mp q with q | q
 ·exact n q
 ·rw[he a q] at h;cases h
theorem Ext.trans {m m1 m2:List Addr}{H H1 H2:Hp} (x:Ext m H m1 H1) (y:Ext m1 H1 m2 H2):Ext m H m2 H2:=by
 obtain ⟨e,rfl,he⟩:=x.pre
 obtain ⟨e',rfl,he'⟩:=y.pre
 refine ⟨⟨e++e',by rw[Ot],fun a ha=>?_⟩,fun a o h n t=>y.keep a o (x.keep a o h n t) (x.fG h n) t,fun a h=>x.live a (y.live a h)⟩
 rcases List.mem_append.mp ha with q | q
 ·exact he a q
 ·exact x.live a (he' a q)
theorem Rd.ext {m m':List Addr}{H H':Hp} (x:Ext m H m' H') {a:Addr}{u:HO} (h:Rd H a u) (n:a∉m) (t:xS u=false:=by rfl):Rd H' a u/\a∉m':=by
 rcases h with h | ⟨o,h⟩
 ·exact ⟨.inl (x.keep _ _ h n t),x.fG h n⟩
 ·exact ⟨.inr ⟨o,x.keep _ _ h n rfl⟩,x.fG h n⟩
theorem Tr.ext {m m':List Addr}{H H':Hp} (x:Ext m H m' H') {a:Addr}{o:Obj} (h:Tr m H a o):Tr m' H' a o:=⟨x.keep _ _ h.1 h.2 rfl,x.fG h.1 h.2⟩
theorem f6.ext {m m':List Addr}{H H':Hp} (x:Ext m H m' H') {cl:List (Str×Addr)}{xs:List Str}{vs:List V} (r:f6 m H cl xs vs):f6 m' H' cl xs vs:=by
 induction r with
 | nil=>exact .nil
 | cons h1 h2 h3 r t ih=>exact .cons h1 (h2.ext x) h3 r ih
theorem gr.ext {m m':List Addr}{H H':Hp} (x:Ext m H m' H') {f:Addr}{L:Nat}{vs:List V} (h:gr m H f L vs):gr m' H' f L vs:=by
 obtain ⟨bt,ps,fs,pa,be,sc,cl,pm,ctv,c',oc,os,t,q,h0,h1,h2,h3,h4,h5,h6,h7,h8,h9,h10⟩:=h
 exact ⟨bt,ps,fs,pa,be,sc,cl,pm,ctv,c',oc,os,t,q,h0,h1,h2,h3,h4,h5,h6.ext x,h7.ext x,h8,h9,h10.ext x⟩
section
variable {P:NG}{w:N2}{K:Nl}{m m':List Addr}{H H':Hp}
mutual
theorem RD.ext (x:Ext m H m' H'):∀ {v:V}{d:BT.D},RD K m H v d->RD K m' H' v d
 | _,_,.non=>.non
 | _,_,.bl b=>.bl b
 | _,_,.int i=>.int i
 | _,_,.str y h=>.str y h
 | _,_,.tup h r=>.tup (h.elim (fun q=>.inl (Rd.ext x q.1 q.2)) .inr) (RDs.ext x r)
 | _,_,.lst h r=>.lst (h.elim (fun q=>.inl (Rd.ext x q.1 q.2)) .inr) (RDs.ext x r)
theorem RDs.ext (x:Ext m H m' H'):∀ {vs:List V}{ds:List BT.D},RDs K m H vs ds->RDs K m' H' vs ds
 | _,_,.nil=>.nil
 | _,_,.cons r t=>.cons (RD.ext x r) (RDs.ext x t)
end
theorem RA.rw {v:V}{d:BT.W} (r:RA K m H v d):RW P w K m H v d:=by
 cases r with
 | p r=>exact .p r
 | r h=>exact .r h
 | o h=>exact .o h
theorem RW.ra {v:V}{d:BT.W} (r:RW P w K m H v d) (h0:BT.attrOk d=true):RA K m H v d:=by
 cases r with
 | p r=>exact .p r
 | r h=>exact .r h
 | o h=>exact .o h
 | k _ _=>cases h0
 | c _ _=>cases h0
 | g _ _=>cases h0
theorem Ext.ix (x:Ext m H m' H') {n:Nat}{a:Addr} (h:m[n]?=some a):m'[n]?=some a:=by
 obtain ⟨e,rfl,_⟩:=x.pre
 rw[Ny (by rcases NK _ m.length with q | q;exact q;rw[NF q] at h;cases h)]
 exact h
theorem RA.ext (x:Ext m H m' H') {v:V}{d:BT.W} (r:RA K m H v d):RA K m' H' v d:=by
 cases r with
 | p r=>exact .p (r.ext x)
 | r h=>exact .r (x.ix h)
 | o h=>exact .o (x.ix h)
theorem RCs.ext (x:Ext m H m' H') {vs:List V}{cs:List BT.Cp} (r:RCs K m H vs cs):RCs K m' H' vs cs:=by
 induction r with
 | nil=>exact .nil
 | cons r t ih=>exact .cons (r.ext x) ih
theorem RW.ext (x:Ext m H m' H') {v:V}{d:BT.W} (r:RW P w K m H v d):RW P w K m' H' v d:=by
 cases r with
 | p r=>exact .p (r.ext x)
 | r h =>
  obtain ⟨e,rfl,_⟩:=x.pre
  refine .r ?_
  rw[Ny (by rcases NK _ m.length with q | q;exact q;rw[NF q] at h;cases h)]
  exact h
 | k h r=>exact .k h r
 | c h r=>exact .c (h.ext x) (r.ext x)
 | g h r=>exact .g h r
 | o h =>
  obtain ⟨e,rfl,_⟩:=x.pre
  refine .o ?_
  rw[Ny (by rcases NK _ m.length with q | q;exact q;rw[NF q] at h;cases h)]
  exact h
theorem RFs.ext (x:Ext m H m' H') {vs:List (Str×V)}{fs:List (Str×BT.W)} (r:RFs K m H vs fs):RFs K m' H' vs fs:=by
 induction r with
 | nil=>exact .nil
 | cons r t ih=>exact .cons (r.ext x) ih
theorem RKs.ext (x:Ext m H m' H') {vs:List (Key×V)}{kvs:List (BT.Ky×BT.D)} (r:RKs K m H vs kvs):RKs K m' H' vs kvs:=by
 induction r with
 | nil=>exact .nil
 | cons hk r t ih=>exact .cons (hk.ext x) (r.ext x) ih
theorem gu.ext (x:Ext m H m' H') {a:Addr} (e:H' a=H a) {c:BT.Cl} (r:gu K m H a c):gu K m' H' a c:=by
 cases c with
 | l xs=>obtain ⟨vs,h1,h2⟩:=r;exact ⟨vs,e.trans h1,h2.ext x⟩
 | o c fs=>obtain ⟨C,dx,vs,h1,h2,h3⟩:=r;exact ⟨C,dx,vs,e.trans h1,h2,h3.ext x⟩
 | d kvs=>obtain ⟨vs,h1,h2⟩:=r;exact ⟨vs,e.trans h1,h2.ext x⟩
theorem gu.some {a:Addr}{c:BT.Cl} (r:gu K m H a c):∃ o,H a=some o:=by
 cases c with
 | l xs=>obtain ⟨vs,h1,h2⟩:=r;exact ⟨_,h1⟩
 | o c fs=>obtain ⟨C,dx,vs,h1,h2,h3⟩:=r;exact ⟨_,h1⟩
 | d kvs=>obtain ⟨vs,h1,h2⟩:=r;exact ⟨_,h1⟩
theorem RWs.ext (x:Ext m H m' H') {vs:List V}{ds:List BT.W} (r:RWs P w K m H vs ds):RWs P w K m' H' vs ds:=by
 induction r with
 | nil=>exact .nil
 | cons r t ih=>exact .cons (r.ext x) ih
theorem RS.ext (x:Ext m H m' H') {σ:L2.St}{s:BT.Sl} (r:RS P w K m H σ s):RS P w K m' H' σ s :=
 ⟨r.len,fun i y e=>by obtain ⟨v,h,q⟩:=r.get i y e;exact ⟨v,h,q.ext x⟩⟩
theorem RDs.length:∀ {vs:List V}{ds:List BT.D},RDs K m H vs ds->vs.length=ds.length
 | _,_,.nil=>rfl
 | _,_,.cons _ t=>by rw[NS,NS,RDs.length t]
theorem RWs.length:∀ {vs:List V}{ds:List BT.W},RWs P w K m H vs ds->vs.length=ds.length
 | _,_,.nil=>rfl
 | _,_,.cons _ t=>by rw[NS,NS,RWs.length t]
theorem RDs.get:∀ {vs:List V}{ds:List BT.D}{i:Nat}{d:BT.D},RDs K m H vs ds->ds[i]?=some d->∃ v,vs[i]?=some v/\RD K m H v d
 | _,_,_,_,.nil,e=>by simp at e
 | _,_,0,_,.cons r _,e=>by simp at e;subst e;exact ⟨_,rfl,r⟩
 | _,_,i+1,d,.cons _ t,e=>by
  obtain ⟨u,h1,h2⟩:=RDs.get (i:=i) (d:=d) t (by simpa using e)
  exact ⟨u,by simpa using h1,h2⟩
theorem RDs.append:∀ {vs ws:List V}{ds es:List BT.D},RDs K m H vs ds->RDs K m H ws es->RDs K m H (vs++ws) (ds++es)
 | _,_,_,_,.nil,s=>s
 | _,_,_,_,.cons r t,s=>.cons r (RDs.append t s)
theorem RDs.take:∀ {vs:List V}{ds:List BT.D} (n:Nat),RDs K m H vs ds->RDs K m H (vs.take n) (ds.take n)
 | _,_,0,_=>.nil
 | _,_,_+1,.nil=>.nil
 | _,_,n+1,.cons r t=>.cons r (RDs.take n t)
theorem RDs.drop:∀ {vs:List V}{ds:List BT.D} (n:Nat),RDs K m H vs ds->RDs K m H (vs.drop n) (ds.drop n)
 | _,_,0,r=>r
 | _,_,_+1,.nil=>.nil
 | _,_,n+1,.cons _ t=>RDs.drop n t
theorem RDs.set {v:V}{d:BT.D} (r:RD K m H v d):∀ {vs:List V}{ds:List BT.D} (i:Nat),RDs K m H vs ds->RDs K m H (vs.set i v) (ds.set i d)
 | _,_,_,.nil=>.nil
 | _,_,0,.cons _ t=>.cons r t
 | _,_,i+1,.cons q t=>.cons q (RDs.set r i t)
theorem RDs.dropLast:∀ {vs:List V}{ds:List BT.D},RDs K m H vs ds->RDs K m H vs.dropLast ds.dropLast
 | _,_,.nil=>.nil
 | _,_,.cons _ .nil=>.nil
 | _,_,.cons r (.cons q t)=>.cons r (RDs.dropLast (.cons q t))
theorem RDs.rep {vs:List V}{ds:List BT.D} (r:RDs K m H vs ds):∀ k:Nat,RDs K m H (NQ k vs).flatten (NQ k ds).flatten
 | 0=>.nil
 | k+1=>by
  rw[OQ,OQ,Pp,Pp]
  exact RDs.append r (RDs.rep r k)
theorem mR {N:List Addr} (hN:N.Nodup) {i j:Nat}{x:Addr} (a:N[i]?=some x) (b:N[j]?=some x):i=j:=by
 have hi:i < N.length:=by
  rcases NK i N.length with z | z
  ·exact z
  ·rw[NF z] at a;cases a
 have hj:j < N.length:=by
  rcases NK j N.length with z | z
  ·exact z
  ·rw[NF z] at b;cases b
 rw[NB hi] at a
 rw[NB hj] at b
 exact (List.getElem_inj hN).mp ((NH a).trans (NH b).symm)
inductive RR (K:Nl) (m:List Addr) (H:Hp):V->BT.D->Prop where
 | d {v:V}{d:BT.D} (r:RD K m H v d):RR K m H v d
 | l {a:Addr}{vs:List V}{ds:List BT.D} (h:H a=some (.lst vs)) (r:RDs K m H vs ds):RR K m H (.ref a) (.lst ds)
theorem aF {h:BT.HH} (RHh:RH K m H h) {v:V}{x:BT.W}{d:BT.D} (r:RW P w K m H v x) (e:BT.rd x h=some d):RR K m H v d:=by
 cases r with
 | p r=>cases e;exact .d r
 | @r a n q =>
  simp only[BT.rd] at e
  cases g:BT.lat h n with
  | none=>rw[g] at e;cases e
  | some xs =>
   rw[g] at e
   cases e
   obtain ⟨vs,h1,h2⟩:=RHh.cell n a xs q g
   exact .l h1 h2
 | k _ _=>cases e
 | o _=>cases e
 | c _ _=>cases e
 | g _ _=>cases e
theorem RR.lst {v:V}{ds:List BT.D} (r:RR K m H v (.lst ds)):∃ a vs,v=.ref a/\LL K H a vs/\RDs K m H vs ds:=by
 cases r with
 | d r=>cases r with | lst h r=>exact ⟨_,_,rfl,h.elim (fun q=>.inl q.1) .inr,r⟩
 | l h r=>exact ⟨_,_,rfl,.inl (.inl h),r⟩
theorem RR.tup {v:V}{ds:List BT.D} (r:RR K m H v (.tup ds)):∃ a vs,v=.ref a/\SqT K H a vs/\RDs K m H vs ds:=by
 cases r with
 | d r=>cases r with | tup h r=>exact ⟨_,_,rfl,h.elim (fun q=>.inl q.1) (fun ⟨o,its,n,q,_⟩=>.inr ⟨o,its,n,q⟩),r⟩
theorem RR.int {v:V}{i:Int} (r:RR K m H v (.int i)):v=.int i:=by
 cases r with | d r=>cases r;rfl
theorem RR.str {v:V}{x:Str} (r:RR K m H v (.str x)):v=.str x/\PyData.strOk x=true:=by
 cases r with | d r=>cases r with | str _ h=>exact ⟨rfl,h⟩
theorem RR.bl {v:V}{b:Bool} (r:RR K m H v (.bl b)):v=.bl b:=by
 cases r with | d r=>cases r;rfl
theorem RR.non {v:V} (r:RR K m H v .non):v=.non:=by
 cases r with | d r=>cases r;rfl
theorem TB.new {p:Addr}{o:HO} (hp:H p=none) {K:Nl} (h:TB K H):TB K (upd H p o) :=
 h.mono (fun P ps e=>by rw[ao (az e hp)];exact e) fun a o _ _ e=>by rw[ao (az e hp)];exact e
theorem fk {p:Addr}{o:HO} (hp:H p=none):Ext m H m (upd H p o) :=
 ⟨⟨[],by simp,by simp⟩,fun a q h _ _=>by rw[ao (az h hp)];exact h,fun a h=>by
  by_cases e:a=p
  ·rw[e];exact hp
  ·rw[ao e] at h;exact h⟩
theorem RH.fG {h:BT.HH} (R:RH K m H h) {p:Addr} (hp:H p=none):p∉m:=by
 intro q
 obtain ⟨i,hi⟩:=O4 q
 have hl:i < h.length:=by
  rw[← R.len]
  rcases NK i m.length with z | z
  ·exact z
  ·rw[NF z] at hi;cases hi
 obtain ⟨o,e⟩:=(R.cl i p h[i] hi (NB hl)).some
 rw[e] at hp;cases hp
noncomputable def Le (H H':Hp):Prop:=∀ a u,H a=some u->H' a=some u
theorem Le.tb (q:Le H H') {K:Nl} (t:TB K H):TB K H':=t.mono (fun _ _ e=>q _ _ e) fun _ _ _ _ e=>q _ _ e
theorem qR {p:Addr}{o:HO} (hp:H p=none):Le H (upd H p o):=fun a u e=>by rw[ao (az e hp)];exact e
theorem RH.ext {h:BT.HH} (R:RH K m H h) (x:Ext m H m H') (k:Le H H'):RH K m H' h :=
 ⟨R.nd,R.len,fun i a c e1 e2=>by
  obtain ⟨o,e⟩:=(R.cl i a c e1 e2).some
  exact (R.cl i a c e1 e2).ext x (by rw[e];exact k _ _ e),k.tb R.tb⟩
noncomputable def Et:HO->Bool
 | .lst _=>true
 | .ins _ _ _=>true
 | .dK _=>true
 | _=>false
theorem RH.mu {h:BT.HH} (R:RH K m H h) {a:Addr} (ha:a∈m):∃ o,H a=some o/\Et o=true:=by
 obtain ⟨i,hi⟩:=O4 ha
 have hl:i < h.length:=by
  rw[← R.len]
  rcases NK i m.length with z | z
  ·exact z
  ·rw[NF z] at hi;cases hi
 have z:=R.cl i a h[i] hi (NB hl)
 cases g:h[i] with
 | l xs=>rw[g] at z;obtain ⟨vs,h1,h2⟩:=z;exact ⟨_,h1,rfl⟩
 | o c fs=>rw[g] at z;obtain ⟨C,dx,vs,h1,h2,h3⟩:=z;exact ⟨_,h1,rfl⟩
 | d kvs=>rw[g] at z;obtain ⟨vs,h1,h2⟩:=z;exact ⟨_,h1,rfl⟩
theorem RH.nin {h:BT.HH} (R:RH K m H h) {a:Addr}{o:HO} (e:H a=some o) (n:Et o=false):a∉m:=fun z=>by
 obtain ⟨u,h1,h2⟩:=R.mu z
 rw[e] at h1;cases h1
 rw[n] at h2;cases h2
theorem RH.new {h:BT.HH} (R:RH K m H h) {p:Addr}{o:HO} (hp:H p=none):RH K m (upd H p o) h :=
 R.ext (fk hp) (qR hp)
theorem i8 {p:Addr}{o:HO} (hp:H p=none):Ext m H (m++[p]) (upd H p o) :=
 ⟨⟨[p],rfl,by simpa using hp⟩,fun a q h _ _=>by rw[ao (az h hp)];exact h,fun a h=>by
  by_cases e:a=p
  ·rw[e];exact hp
  ·rw[ao e] at h;exact h⟩
theorem RH.Ib {h:BT.HH} (R:RH K m H h) {p:Addr}{o:HO}{c:BT.Cl} (hp:H p=none) (r:gu K (m++[p]) (upd H p o) p c):RH K (m++[p]) (upd H p o) (h++[c]):=by
 have np:=R.fG hp
 have x:Ext m H (m++[p]) (upd H p o):=i8 hp
 refine ⟨List.nodup_append.mpr ⟨R.nd,by simp,fun a ha b hb=>by simp at hb;subst hb;exact fun e=>np (e ▸ ha)⟩,by simp[R.len],fun i a ys e1 e2=>?_,R.tb.new hp⟩
 by_cases c:i < m.length
 ·rw[Ny c] at e1
  rw[Ny (by rw[← R.len];exact c)] at e2
  have ne:a≠p:=by
   intro e
   subst e
   exact np (NJ e1)
  exact (R.cl i a ys e1 e2).ext x (ao ne)
 ·have e:i=m.length:=by
   rcases NK i (m++[p]).length with z | z
   ·simp at z;omega
   ·rw[NF z] at e1;cases e1
  subst e
  simp at e1
  rw[R.len] at e2
  simp at e2
  subst e1 e2
  exact r
theorem RH.LV {h:BT.HH} (R:RH K m H h) {p:Addr}{vs:List V}{xs:List BT.D} (hp:H p=none) (r:RDs K m H vs xs):RH K (m++[p]) (upd H p (.lst vs)) (h++[.l xs]) :=
 R.Ib hp ⟨vs,aB,r.ext (i8 hp)⟩
theorem TB.set {a:Addr}{o:HO} (hm:∃ u,H a=some u/\Et u=true) {K:Nl} (h:TB K H):TB K (upd H a o):=by
 obtain ⟨w,hw,hu⟩:=hm
 refine h.mono (fun P ps e=>?_) fun b ob _ _ e=>?_
 ·rw[ao (fun z=>by subst z;rw[hw] at e;cases e;cases hu)];exact e
 ·rw[ao (fun z=>by subst z;rw[hw] at e;cases e;cases hu)];exact e
theorem i9 {a:Addr}{o:HO} (ha:a∈m):Ext m H m (upd H a o) :=
 ⟨⟨[],by simp,by simp⟩,fun b u q n _=>by
  have ne:b≠a:=by
   intro e
   subst e
   exact n ha
  rw[ao ne];exact q,fun b q=>by
  by_cases e:b=a
  ·subst e;rw[aB] at q;cases q
  ·rw[ao e] at q;exact q⟩
theorem fH {a:Addr}{vs us:List V} (ha:a∈m) (h:H a=some (.lst us)):Ext m H m (upd H a (.lst vs)):=i9 ha
theorem RH.setC {h:BT.HH} (R:RH K m H h) {n:Nat}{a:Addr}{o:HO}{c:BT.Cl} (hn:m[n]?=some a) (r:gu K m (upd H a o) a c):RH K m (upd H a o) (h.set n c):=by
 have x:Ext m H m (upd H a o):=i9 (NJ hn)
 refine ⟨R.nd,by simp[R.len],fun i b ys e1 e2=>?_,R.tb.set (R.mu (NJ hn))⟩
 by_cases c:i=n
 ·subst c
  rw[hn] at e1;cases e1
  have hl:i < h.length:=by
   rw[← R.len]
   rcases NK i m.length with z | z
   ·exact z
   ·rw[NF z] at hn;cases hn
  rw[OC hl] at e2
  cases e2
  exact r
 ·rw[N9 (Os c)] at e2
  have ne:b≠a:=by
   intro e
   subst e
   exact c (mR R.nd e1 hn)
  exact (R.cl i b ys e1 e2).ext x (ao ne)
theorem RH.set {h:BT.HH} (R:RH K m H h) {n:Nat}{a:Addr}{vs us:List V}{xs:List BT.D} (hn:m[n]?=some a) (hH:H a=some (.lst us)) (r:RDs K m H vs xs):RH K m (upd H a (.lst vs)) (h.set n (.l xs)) :=
 R.setC hn ⟨vs,aB,r.ext (fH (NJ hn) hH)⟩
end
end BS
end
section
namespace BS
open PySem PySem.Spec PyProof.Rows L2 PySem.SeqAt
theorem jQ {M:Model}{A:Oz}{E:Np->Nr->Prop}{s:Nr}{β:Type} (f:Nat->β->Sem (ForInStep β)) (n:Nat) (I:Nat->β->Nr->Prop) (Q:β->Nr->Prop)
 (turn:∀ i b s,i < n->I i b s->wpAny M A (f i b) (fun r s'=>match r with | .yield b'=>I (i+1) b' s' | .done b'=>Q b' s') E s)
 (fin:∀ b s,I n b s->Q b s) (b:β) (h:I 0 b s):wpAny M A (forIn [:n] b f) Q E s:=by
 rw[Std.Legacy.Range.forIn_eq_forIn_range']
 have e:To [:n].start [:n].size [:n].step=To 0 (n - 0):=by simp[Std.Legacy.Range.size]
 rw[e]
 refine wpAny_forIn_list f (fun rest b s=>∃ i,i<=n/\rest=To i (n - i)/\I i b s) Q (fun x rest b s ⟨i,hi,hr,q⟩=>?_) (fun b s ⟨i,hi,hr,q⟩=>?_) _ b ⟨0,N5 _,rfl,h⟩
 ·have hlt:i < n:=by
   rcases NK i n with z | z
   ·exact z
   ·rw[show n - i=0 by omega] at hr;simp at hr
  rw[show n - i=(n - (i+1))+1 by omega,List.range'_succ] at hr
  injection hr with e1 e2
  subst e1
  refine wpAny_mono (turn x b s hlt q) (fun r s' z=>?_) fun _ _ z=>z
  cases r with
  | yield b'=>exact ⟨x+1,hlt,e2,z⟩
  | done b'=>exact z
 ·have:i=n:=by
   rcases NK i n with z | z
   ·rw[show n - i=(n - (i+1))+1 by omega,List.range'_succ] at hr;simp at hr
   ·omega
  subst this
  exact fin b s q
theorem lV (l:Addr) (items:Array Np) (n:Nat) (dd:Option Addr) (sl:Array (Option Np)) (x:Np) (e:Np->Bool) (j:Nat) (hj:j < items.size)
 (hit:e items[j]=true) (hno:∀ m (hm:m < items.size),m < j->e items[m]=false) :
 Meets (Builtin.«tuple.index» ⟨[.ref l,x],[]⟩)
  (fun A R s=>s.heap.get? l=some { cls:=.type "tuple",dict:=dd,data:=.seq items n,slots:=sl }/\(∀ y,y∈items->EqAt A.in1 s y x (e y))/\R (.ok (.ret (.int j s.toks))) { s with toks:=s.toks+1 }) :=
 .of_wp fun prog w A R s h=>by
 obtain ⟨hp,g,d,tk,os⟩:=s;obtain ⟨hl,he,h⟩:=h
 wp_walk using PV hl,jQ _ _ (fun i b s'=>i<=j/\b.1=none/\s'=⟨hp,g,d,tk,os⟩) _
 case turn =>
  rintro i b s' hi ⟨hij,hb,rfl⟩
  have hi':i < items.size:=by omega
  rw[N7 hi']
  refine wpAny_bind (he _ (Array.getElem_mem hi') prog w _ _ ?_)
  by_cases c:i=j
  ·subst c
   rw[hit]
   wp_walk
   exact ⟨_,rfl,h⟩
  ·rw[hno i hi' (by omega)]
   wp_walk
   exact ⟨by omega,rfl,rfl⟩
 case fin =>
  rintro b s' ⟨hij,_,_⟩
  omega
 case h=>exact ⟨N5 _,rfl,rfl⟩
theorem qS (l:Addr) (items:Array Np) (n:Nat) (dd:Option Addr) (sl:Array (Option Np)) (k:Int) (t:Tok) (h1:-1000<=k) (h2:k<=1000) (c1:¬ items.isEmpty=true) (c2:k≠1) (c3:0 < k) (hz:items.size*k.toNat<=sizeLine) :
 Meets (Builtin.«tuple.__mul__» ⟨[.ref l,.int k t],[]⟩)
  (fun A R s=>s.heap.get? l=some { cls:=.type "tuple",dict:=dd,data:=.seq items n,slots:=sl }/\R (.ok (.ret (.ref s.heap.objs.size))) { s with heap:=s.heap.push { cls:=.type "tuple",data:=.seq ((NQ k.toNat items).foldl (fun x1 x2=>x1++x2) #[]) } }) :=
 .of_wp fun prog w A R s h=>by
 obtain ⟨hp,g,d,tk,os⟩:=s;obtain ⟨hl,h⟩:=h
 have f1:=Te
 have a1:¬ (decide (k < -2 ^ 63)||decide (k ≥ 2 ^ 63))=true:=by simp;omega
 have a2:¬ (items.isEmpty||k==1)=true:=by simp at c1 ⊢;exact ⟨c1,c2⟩
 have a3:¬ (decide (k<=0)||items.isEmpty)=true:=by simp at c1 ⊢;exact ⟨by omega,c1⟩
 have kk:(k.toNat:Int)=k:=by omega
 have a4:¬ ((items.size:Int)*k > (2 ^ 63 - 1) / 8):=by
  have z:((items.size*k.toNat:Nat):Int)<=(sizeLine:Nat):=Int.ofNat_le.mpr hz
  rw[Int.natCast_mul,kk] at z
  have z2:((sizeLine:Nat):Int)<=(2 ^ 63 - 1) / 8:=by decide
  omega
 have a5:¬ Q3 ((items.size:Int)*k)=true:=by
  have z:((items.size*k.toNat:Nat):Int)<=(sizeLine:Nat):=Int.ofNat_le.mpr hz
  rw[Int.natCast_mul,kk] at z
  simp only[Q3,decide_eq_true_eq]
  omega
 have hsz:sizeOk (.seq ((NQ k.toNat items).foldl (fun x1 x2=>x1++x2) #[])):=by
  show ((NQ k.toNat items).foldl (fun x1 x2=>x1++x2) #[]).size<=sizeLine
  rw[AutoListH.size_joined,Array.size_empty,PJ];omega
 wp_walk using PV hl
 rw[if_neg a1]
 wp_walk using PV hl
 refine Q8 (fun c=>absurd c ?_) (fun _=>?_)
 ·intro c;have a6:=a4;simp at a6 c;omega
 wp_walk using PV hl
 refine wpAny_ite_false (decide_eq_false (Nat.not_lt.mpr hsz)) ?_
 wp_walk
 exact ⟨_,rfl,h⟩
theorem jx:fillsNumberSlot (.type "tuple") "mul"=pure false :=
 PySem.fillsNumberSlot_seq (id:="tuple.__mul__") (r:=some (.builtin "tuple.__rmul__")) F.slot_tuple_mul.lookup (by decide +kernel) F.slot_tuple_rmul.lookup (by decide +kernel)
theorem nN:seqRepeat? (.type "tuple")=pure (some (.builtin "tuple.__mul__")):=by
 unfold seqRepeat?
 rw[PySem.seqSlot_of (T:="tuple") (name:="__mul__") (id:="tuple.__mul__") F.slot_tuple_mul.lookup (by decide +kernel),PySem.seqSlot_of (T:="tuple") (name:="__rmul__") (id:="tuple.__rmul__") F.slot_tuple_rmul.lookup (by decide +kernel)]
 rfl
theorem kP (a:Int) (t:Tok) (l:Addr) (items:Array Np) (n:Nat) (dd:Option Addr) (sl:Array (Option Np)) :
 Meets (Builtin.«int.__rmul__» ⟨[.int a t,.ref l],[]⟩) (fun _ R s=>s.heap.get? l=some { cls:=.type "tuple",dict:=dd,data:=.seq items n,slots:=sl }/\R (.ok (.ret Value.notImplemented)) s) :=
 .of_wp fun prog w A R s h=>by obtain ⟨hp,g,d,tk,os⟩:=s;obtain ⟨hl,h⟩:=h;wp_walk;exact ⟨_,rfl,h⟩
theorem jR (l:Addr) (items:Array Np) (n:Nat) (b:Addr) (items2:Array Np) (n2:Nat) (dd:Option Addr) (sl:Array (Option Np)) (hs0:¬(!items.isEmpty&&OE (items.size+items2.size))=true) (hs1:items.size<=sizeLine) (hs2:items.size+items2.size<=sizeLine+1) :
 Meets (Builtin.«list.extend» ⟨[.ref l,.ref b],[]⟩) (fun _ R s=>s.heap.get? l=some { cls:=.type "list",dict:=none,data:=.seq items n,slots:=#[] }/\s.heap.get? b=some { cls:=.type "tuple",dict:=dd,data:=.seq items2 n2,slots:=sl }/\R (.ok (.ret P9)) { s with heap:=s.heap.update l (Pr fun x=>x++items2),toks:=s.toks }) :=
 .of_wp fun prog w A R s h=>by
  obtain ⟨hp,g,d,tk,os⟩:=s;obtain ⟨hl,hb,h⟩:=h;have f1:=Te;have f2:=AutoSeq1.sub_tuple_tuple;have f3:=AutoSeq1.sub_list_list;have f4:=AutoSeq1.sub_tuple_list;have f5:=AutoSeq1.sub_list_tuple
  have hz':(items++items2).size<=sizeLine+1:=by rw[Array.size_append];exact hs2
  wp_walk using (Q7 hl rfl (hz:=hs1) (_hz':=hz')),PV hl,PV hb;exact ⟨_,rfl,h⟩
end BS
end
section
namespace BS
open PySem PySem.Spec PyProof.Rows L2
theorem ak {α β:Type}{x:Option (α×BT.HH)}{k:α->BT.HH->Option β}{r:β} (h:BT.bnd x k=some r):∃ a g,x=some (a,g)/\k a g=some r:=by
 cases x with
 | none=>cases h
 | some q=>exact ⟨q.1,q.2,rfl,h⟩
theorem aC {α β:Type}{x:Option α}{f:α->β}{r:β} (h:x.map f=some r):∃ a,x=some a/\f a=r:=by
 cases x with
 | none=>cases h
 | some a=>exact ⟨a,rfl,NH h⟩
noncomputable def Post (P:NG) (w:N2) (K:Nl) (m:List Addr) (H:Hp) (z:BT.W) (h':BT.HH) (Q:VK):Prop :=
 ∀ v H' m',Ext m H m' H'->RH K m' H' h'->RW P w K m' H' v z->Q v H'
noncomputable def rOp (P:NG) (w:N2) (K:Nl) (f:BT.W->BT.W->BT.HH->Option (BT.W×BT.HH)):R2:=fun v u H Q =>
 ∃ m h x y z h',RH K m H h/\RW P w K m H v x/\RW P w K m H u y/\f x y h=some (z,h')/\Post P w K m H z h' Q
theorem gP {o:BT.Bin}{x y:BT.W}{h:BT.HH}{z:BT.W}{h':BT.HH} (e:BT.lR o x y h=some (z,h')):∃ d d' q,BT.rd x h=some d/\BT.rd y h=some d'/\BT.jv o d d'=some q/\z=.p q/\h'=h:=by
 unfold BT.lR at e
 cases e1:BT.rd x h with
 | none=>rw[e1] at e;cases e
 | some d =>
  cases e2:BT.rd y h with
  | none=>rw[e1,e2] at e;cases e
  | some d' =>
   rw[e1,e2] at e
   obtain ⟨q,eq,er⟩:=aC e
   cases er
   exact ⟨d,d',q,rfl,rfl,eq,rfl,rfl⟩
section
variable {X:Cx}
theorem cL:BT.lim<=sizeLine:=by decide
theorem rdL {pins:List (Addr×Obj)}{σ:L2.St}{H:Hp}{s:Nr}{a:Addr}{xs:List V} (I:Inv X pins σ H s) (r:LL X.K H a xs) :
 xs.length<=sizeLine/\∃ (its:List Np) (n:Nat),au xs its/\xs.length=its.length/\s.heap.get? a=some { cls:=.type "list",data:=.seq its.toArray n }:=by
 rcases r with r | ⟨its,n,h1,h2,h3⟩
 ·obtain ⟨z,its,n,r,e⟩:=r.ok I.hok
  exact ⟨z,its,n,r,r.length,e⟩
 ·exact ⟨by rw[h3.length];exact h2,its,n,h3,h3.length,I.kIn a _ h1⟩
theorem xT {pins:List (Addr×Obj)}{s:Nr}{σ:L2.St}{H:Hp}{a b:Addr}{xs ys:List V}{Q:VK} (I:Inv X pins σ H s) (ha:LL X.K H a xs) (hb:LL X.K H b ys) (hz:xs.length+ys.length<=sizeLine)
 (q:∀ p,H p=none->Q (.ref p) (upd H p (.lst (xs++ys)))):wpAny (NR X.prog X.w) X.A (OR .Add (.ref a) (.ref b)) (EP X pins σ Q) X.xe s:=by
 obtain ⟨z,its,n,r,hl,e⟩:=rdL I ha
 obtain ⟨z2,its2,n2,r2,hl2,e2⟩:=rdL I hb
 refine PySem.P.add_list e e2 ?_ (by rw[Nv,Nv];omega)
 have ea:its.toArray++its2.toArray=(its++its2).toArray:=by simp
 rw[ea]
 exact ⟨.ref _,_,I.G8 (t':=s.toks) (r.append r2) (by rw[NT];omega),rfl,q _ I.fresh⟩
theorem uZ {pins:List (Addr×Obj)}{s:Nr}{σ:L2.St}{H:Hp}{a b:Addr}{xs ys:List V}{Q:VK} (I:Inv X pins σ H s) (ha:SqT X.K H a xs) (hb:SqT X.K H b ys) (hz:xs.length+ys.length<=sizeLine)
 (q0:xs=[]->Q (.ref b) H) (q1:ys=[]->Q (.ref a) H) (q:∀ p,H p=none->Q (.ref p) (upd H p (.tup (xs++ys)))):wpAny (NR X.prog X.w) X.A (OR .Add (.ref a) (.ref b)) (EP X pins σ Q) X.xe s:=by
 by_cases c:xs=[]
 ·obtain ⟨its,r1,p1,_⟩:=I.tuple ha
  obtain ⟨its2,r2,p2,_⟩:=I.tuple hb
  obtain ⟨⟨cls,dd,data,sl⟩,ho,hc,n,hd⟩:=id p1
  obtain ⟨⟨cls2,dd2,data2,sl2⟩,ho2,hc2,n2,hd2⟩:=id p2
  simp only at hc hd hc2 hd2
  subst hc hd hc2 hd2
  have z:its=[]:=r1.iV.mpr c
  exact concat_meets ⟨_,ho,rfl⟩ ⟨_,ho2,rfl⟩ Sv Tw Qz Qv (Qm _ _)
   (tuple_addW0 a b its.toArray its2.toArray n n2 dd dd2 sl sl2 (by simp[z])) ⟨ho,ho2,⟨.ref b,H,I,rfl,q0 c⟩⟩
 ·exact An pins s σ H (.ref a) (.ref b) _ _ Q I rfl rfl ⟨a,b,xs,ys,rfl,rfl,ha,hb,c,hz,q1,fun _=>q⟩
theorem ja {m:List Addr}{H:Hp}{h:BT.HH}{p:Addr}{vs:List V}{ds:List BT.D}{Q:VK} (R:RH X.K m H h) (hp:H p=none) (r:RDs X.K m H vs ds) (post:Post X.prog X.w X.K m H (.p (.tup ds)) h Q):Q (.ref p) (upd H p (.tup vs)) :=
 post _ _ m (fk hp) (R.new hp) (.p (.tup (.inl ⟨.inl aB,R.fG hp⟩) (r.ext (fk hp))))
theorem fV {m:List Addr}{H:Hp}{h:BT.HH}{p:Addr}{vs:List V}{ds:List BT.D}{Q:VK} (R:RH X.K m H h) (hp:H p=none) (r:RDs X.K m H vs ds) (post:Post X.prog X.w X.K m H (.p (.lst ds)) h Q):Q (.ref p) (upd H p (.lst vs)) :=
 post _ _ m (fk hp) (R.new hp) (.p (.lst (.inl ⟨.inl aB,R.fG hp⟩) (r.ext (fk hp))))
theorem nO {m:List Addr}{H:Hp}{h:BT.HH}{p:Addr}{vs:List V}{ds:List BT.D}{Q:VK} (R:RH X.K m H h) (hp:H p=none) (r:RDs X.K m H vs ds) (post:Post X.prog X.w X.K m H (.r h.length) (h++[.l ds]) Q):Q (.ref p) (upd H p (.lst vs)) :=
 post _ _ (m++[p]) (i8 hp) (R.LV hp r) (.r (by rw[← R.len];simp))
theorem jY {m:List Addr}{H:Hp}{h:BT.HH}{p:Addr}{vs:List V}{ds:List BT.D}{Q:VK}{mu:Bool} (R:RH X.K m H h) (hp:H p=none) (r:RDs X.K m H vs ds) (post:Post X.prog X.w X.K m H (BT.new mu ds h).1 (BT.new mu ds h).2 Q):Q (.ref p) (upd H p (.lst vs)):=by
 cases mu with
 | false=>exact fV R hp r post
 | true=>exact nO R hp r post
theorem Post.here {m:List Addr}{H:Hp}{h:BT.HH}{Q:VK}{v:V}{d:BT.D} (R:RH X.K m H h) (post:Post X.prog X.w X.K m H (.p d) h Q) (r:RD X.K m H v d):Q v H:=post v H m (.refl _ _) R (.p r)
theorem nQ {x y:Str} (hx:PyData.strOk x=true) (hy:PyData.strOk y=true):PyData.strOk (x++y)=true:=by
 show (x.cps++y.cps).all _=true
 rw[Array.all_append]
 simp only[PyData.strOk] at hx hy
 rw[hx,hy];rfl
theorem Eu:OpR X (OR .Add) (rOp X.prog X.w X.K (BT.lR .add)):=by
 intro pins s σ H v u v' u' Q I rv ru h
 obtain ⟨m,h,x,y,z,h',R,rx,ry,e,post⟩:=h
 obtain ⟨d,d',q,e1,e2,e3,rfl,rfl⟩:=gP e
 have r1:=aF R rx e1
 have r2:=aF R ry e2
 cases d<;>cases d'<;>first | (cases e3;done) | simp only[BT.fB,BT.cV,BT.cW,BT.cX,BT.fC,BT.fD,BT.cY,BT.cZ,BT.fE,BT.dP,BT.fF] at e3
 ·cases e3
  cases r1.int;cases r2.int
  exact DG pins s σ H _ _ _ _ Q I rv ru ⟨_,_,rfl,rfl,post.here R (.int _)⟩
 ·split at e3
  ·rename_i c
   cases e3
   obtain ⟨ev,ov⟩:=r1.str
   obtain ⟨eu,ou⟩:=r2.str
   subst ev;subst eu
   have:=cL
   exact qz pins s σ H _ _ _ _ Q I rv ru ⟨_,_,rfl,rfl,by omega,post.here R (.str _ (nQ ov ou))⟩
  ·cases e3
 ·split at e3
  ·rename_i c
   cases e3
   obtain ⟨a,vs,rfl,ha,ra⟩:=r1.tup
   obtain ⟨b,us,rfl,hb,rb⟩:=r2.tup
   cases rv;cases ru
   have l1:=ra.length
   have l2:=rb.length
   have:=cL
   refine uZ I ha hb (by omega) (fun z=>?_) (fun z=>?_) fun p hp=>ja R hp (ra.append rb) post
   ·subst z;cases ra
    cases r2 with | d r=>exact post.here R r
   ·subst z;cases rb
    rw[Oa] at post
    cases r1 with | d r=>exact post.here R r
  ·cases e3
 ·split at e3
  ·rename_i c
   cases e3
   obtain ⟨a,vs,rfl,ha,ra⟩:=r1.lst
   obtain ⟨b,us,rfl,hb,rb⟩:=r2.lst
   cases rv;cases ru
   have l1:=ra.length
   have l2:=rb.length
   have:=cL
   exact xT I ha hb (by omega) fun p hp=>fV R hp (ra.append rb) post
  ·cases e3
theorem Ew:OpR X (OR .Sub) (rOp X.prog X.w X.K (BT.lR .sub)):=by
 intro pins s σ H v u v' u' Q I rv ru h
 obtain ⟨m,h,x,y,z,h',R,rx,ry,e,post⟩:=h
 obtain ⟨d,d',q,e1,e2,e3,rfl,rfl⟩:=gP e
 have r1:=aF R rx e1
 have r2:=aF R ry e2
 cases d<;>cases d'<;>first | (cases e3;done) | simp only[BT.fB,BT.cV,BT.cW,BT.cX,BT.fC,BT.fD,BT.cY,BT.cZ,BT.fE,BT.dP,BT.fF] at e3
 cases e3
 cases r1.int;cases r2.int
 exact DH pins s σ H _ _ _ _ Q I rv ru ⟨_,_,rfl,rfl,post.here R (.int _)⟩
theorem Ex:OpR X (OR .Mod) (rOp X.prog X.w X.K (BT.lR .mod)):=by
 intro pins s σ H v u v' u' Q I rv ru h
 obtain ⟨m,h,x,y,z,h',R,rx,ry,e,post⟩:=h
 obtain ⟨d,d',q,e1,e2,e3,rfl,rfl⟩:=gP e
 have r1:=aF R rx e1
 have r2:=aF R ry e2
 cases d<;>cases d'<;>first | (cases e3;done) | simp only[BT.fB,BT.cV,BT.cW,BT.cX,BT.fC,BT.fD,BT.cY,BT.cZ,BT.fE,BT.dP,BT.fF] at e3
 split at e3
 ·rename_i c
  cases e3
  cases r1.int;cases r2.int
  exact DJ pins s σ H _ _ _ _ Q I rv ru ⟨_,_,rfl,rfl,c,post.here R (.int _)⟩
 ·cases e3
theorem AX:OpR X (OR .FloorDiv) (rOp X.prog X.w X.K (BT.lR .fdiv)):=by
 intro pins s σ H v u v' u' Q I rv ru h
 obtain ⟨m,h,x,y,z,h',R,rx,ry,e,post⟩:=h
 obtain ⟨d,d',q,e1,e2,e3,rfl,rfl⟩:=gP e
 have r1:=aF R rx e1
 have r2:=aF R ry e2
 cases d<;>cases d'<;>first | (cases e3;done) | simp only[BT.fB,BT.cV,BT.cW,BT.cX,BT.fC,BT.fD,BT.cY,BT.cZ,BT.fE,BT.dP,BT.fF] at e3
 split at e3
 ·rename_i c
  simp only[Nt,decide_eq_true_eq] at c
  cases e3
  cases r1.int;cases r2.int
  exact Aa pins s σ H _ _ _ _ Q I rv ru ⟨_,_,rfl,rfl,⟨c.1,c.2⟩,post.here R (.int _)⟩
 ·cases e3
theorem nR {i:Int} (h:BT.big i=true):-(2 ^ 64) < i/\i < 2 ^ 64:=by
 unfold BT.big at h
 have:=of_decide_eq_true h
 omega
theorem Ey:OpR X (OR .Pow) (rOp X.prog X.w X.K (BT.lR .pow)):=by
 intro pins s σ H v u v' u' Q I rv ru h
 obtain ⟨m,h,x,y,z,h',R,rx,ry,e,post⟩:=h
 obtain ⟨d,d',q,e1,e2,e3,rfl,rfl⟩:=gP e
 have r1:=aF R rx e1
 have r2:=aF R ry e2
 cases d<;>cases d'<;>first | (cases e3;done) | simp only[BT.fB,BT.cV,BT.cW,BT.cX,BT.fC,BT.fD,BT.cY,BT.cZ,BT.fE,BT.dP,BT.fF] at e3
 split at e3
 ·rename_i c
  simp only[Nt,decide_eq_true_eq] at c
  cases e3
  cases r1.int;cases r2.int
  refine DK pins s σ H _ _ _ _ Q I rv ru ⟨_,_,rfl,rfl,⟨c.1.1,by omega,?_⟩,post.here R (.int _)⟩
  exact of_decide_eq_true c.2
 ·cases e3
theorem u0 {pins:List (Addr×Obj)}{s:Nr}{σ:L2.St}{H:Hp}{a:Addr}{xs:List V}{k:Int}{t:Tok}{Q:VK} (I:Inv X pins σ H s) (ha:SqT X.K H a xs) (h1:2<=k) (h2:k<=1000) (hne:xs≠[]) (hz:xs.length*k.toNat<=sizeLine)
 (q:∀ p,H p=none->Q (.ref p) (upd H p (.tup (NQ k.toNat xs).flatten))):wpAny (NR X.prog X.w) X.A (OR .Mult (.ref a) (.int k t)) (EP X pins σ Q) X.xe s:=by
 obtain ⟨its,r,p,_⟩:=I.tuple ha
 obtain ⟨⟨cls,dd,data,sl⟩,e,hc,n,hd⟩:=id p
 simp only at hc hd
 subst hc hd
 have hl:=r.length
 have hlen:its.toArray.size*k.toNat<=sizeLine:=by rw[Nv,← hl];exact hz
 have f0:Sy (fun x1 x2=>x1++x2) #[] (NQ k.toNat its.toArray)=(NQ k.toNat its).flatten.toArray:=by
  have:=foldl_rep its k.toNat []
  rw[Ph] at this
  exact this
 have hi:¬ its.toArray.isEmpty=true:=by
  intro z
  have z2:its=[]:=by simpa using z
  exact hne (r.iV.mp z2)
 refine SY (T:="tuple") (U:="int") (by decide) ⟨_,e,rfl⟩ (fun s'=>typeIs_int s' k t) jx F.fills_int_mul F.slot_int_rmul nN F.slot_int_index.lookup
  (P5 F.slot_int_rmul (typeIs_int s k t) F.entry_int_rmul (F.args_int_rmul_2 _ _) (kP k t a its.toArray n dd sl)
   ⟨e,rfl,⟨_,e,rfl⟩,P5 F.slot_tuple_mul ⟨_,e,rfl⟩ F.entry_tuple_mul (F.args_tuple_mul_2 _ _) (qS a its.toArray n dd sl k t (by omega) h2 hi (by omega) (by omega) hlen) ⟨e,?_⟩⟩)
 rw[f0]
 have hf:H s.heap.objs.size=none:=I.hok.fresh (Nu _)
 refine ⟨.ref s.heap.objs.size,_,I.laid (t':=s.toks) (o:=.tup (NQ k.toNat xs).flatten) (fun b ob q=>Nq _ q) (Nu _) ?_,rfl,q _ hf⟩
 exact ⟨by rw[len_rep,PJ];exact hz,_,r.rep k.toNat,IsTup.new _ _⟩
theorem xU {pins:List (Addr×Obj)}{s:Nr}{σ:L2.St}{H:Hp}{l:Addr}{xs:List V}{k:Int}{t:Tok}{Q:VK} (I:Inv X pins σ H s) (hH:LL X.K H l xs) (h1:-(2 ^ 63)<=k) (h2:k<=1000) (hz:xs.length*k.toNat<=sizeLine)
 (q:∀ p,H p=none->Q (.ref p) (upd H p (.lst (NQ k.toNat xs).flatten))):wpAny (NR X.prog X.w) X.A (OR .Mult (.ref l) (.int k t)) (EP X pins σ Q) X.xe s:=by
 have h2':k < 2 ^ 63:=by omega
 obtain ⟨z,its,n,r,hl,e⟩:=rdL I hH
 have hlen:its.toArray.size*k.toNat<=sizeLine:=by rw[Nv,← hl];exact hz
 have hcap:¬ its.toArray.size*k.toNat > (2 ^ 63 - 1) / 8:=by
  have:(sizeLine:Nat)<=(2 ^ 63 - 1) / 8:=by decide
  omega
 have hfit:¬ (!Builtin.List.listFitsIndex k)=true:=by
  rw[fitsIndex_both h1 h2']
  exact Ob
 have hlong:¬ OE (its.toArray.size*k.toNat)=true:=by
  rw[kE hlen]
  exact Ob
 have hnew:Sy (fun x1 x2=>x1++x2) #[] (NQ (if its.toArray.isEmpty=true then 0 else k.toNat) its.toArray)=(NQ k.toNat its).flatten.toArray:=by
  have f0:∀ m:Nat,Sy (fun x1 x2=>x1++x2) #[] (NQ m its.toArray)=(NQ m its).flatten.toArray:=fun m=>by
   have:=foldl_rep its m []
   rw[Ph] at this
   exact this
  rw[f0]
  cases its with
  | nil=>simp
  | cons a r'=>rw[if_neg (by simp)]
 refine SY (T:="list") (U:="int") (by decide) ⟨_,e,rfl⟩ (fun s'=>typeIs_int s' k t) noFill_list_mul F.fills_int_mul F.slot_int_rmul repeat_list F.slot_int_index.lookup
  (P5 F.slot_int_rmul (typeIs_int s k t) F.entry_int_rmul (F.args_int_rmul_2 _ _) (int___rmul___int_list k t l its.toArray n)
   ⟨e,rfl,⟨_,e,rfl⟩,P5 F.slot_list_mul ⟨_,e,rfl⟩ F.entry_list_mul (F.args_list_mul_2 _ _) (AutoListH.list___mul___list_int_3 l its.toArray n k t hfit hcap hlong) ⟨e,?_⟩⟩)
 rw[hnew]
 exact ⟨.ref _,_,I.G8 (t':=s.toks) (r.rep k.toNat) (by rw[len_rep,PJ];exact hz),rfl,q _ I.fresh⟩
theorem Ez:OpR X (OR .Mult) (rOp X.prog X.w X.K (BT.lR .mul)):=by
 intro pins s σ H v u v' u' Q I rv ru h
 obtain ⟨m,h,x,y,z,h',R,rx,ry,e,post⟩:=h
 obtain ⟨d,d',q,e1,e2,e3,rfl,rfl⟩:=gP e
 have r1:=aF R rx e1
 have r2:=aF R ry e2
 cases d<;>cases d'<;>first | (cases e3;done) | simp only[BT.fB,BT.cV,BT.cW,BT.cX,BT.fC,BT.fD,BT.cY,BT.cZ,BT.fE,BT.dP,BT.fF] at e3
 ·split at e3
  ·rename_i c
   cases e3
   cases r1.int;cases r2.int
   refine DI pins s σ H _ _ _ _ Q I rv ru ⟨_,_,rfl,rfl,?_,post.here R (.int _)⟩
   rcases Pn _ _ ▸ c with c | c
   ·exact .inl (nR c)
   ·exact .inr (nR c)
  ·cases e3
 ·split at e3
  ·rename_i c
   simp only[Nt,decide_eq_true_eq] at c
   cases e3
   obtain ⟨a,vs,rfl,ha,ra⟩:=r1.tup
   cases r2.int
   obtain ⟨t,rfl⟩:=ru
   cases rv
   have l1:=ra.length
   have:=cL
   simp only[PU,List.isEmpty_eq_false_iff] at c
   refine u0 I ha (by omega) (by omega) (fun z=>?_) (by rw[l1];omega) fun p hp=>ja R hp (ra.rep _) post
   subst z
   cases ra
   exact c.1.2 rfl
  ·cases e3
 ·split at e3
  ·rename_i c
   simp only[Nt,decide_eq_true_eq] at c
   cases e3
   obtain ⟨a,vs,rfl,ha,ra⟩:=r1.lst
   cases r2.int
   obtain ⟨t,rfl⟩:=ru
   cases rv
   have l1:=ra.length
   have:=cL
   refine xU I ha (by omega) (by omega) (by rw[l1];omega) fun p hp=>fV R hp (ra.rep _) post
  ·cases e3
end
end BS
end
section
namespace BS
open PySem PySem.Spec PyProof.Rows L2
mutual
noncomputable def pd:BT.D->PyData
 | .non=>.none
 | .bl b=>.bool b
 | .int i=>.int i
 | .str x=>.str x
 | .tup xs=>.tuple (pds xs)
 | .lst xs=>.list (pds xs)
noncomputable def pds:List BT.D->List PyData
 | []=>[]
 | x :: r=>pd x :: pds r
end
mutual
theorem kQ:∀ x y:BT.D,PyData.eqv (pd x) (pd y)=BT.eqv x y
 | .non,.non=>rfl
 | .non,.bl _=>rfl
 | .non,.int _=>rfl
 | .non,.str _=>rfl
 | .non,.tup _=>by simp[pd,PyData.eqv,BT.eqv]
 | .non,.lst _=>by simp[pd,PyData.eqv,BT.eqv]
 | .bl _,.non=>rfl
 | .bl _,.bl _=>rfl
 | .bl _,.int _=>rfl
 | .bl _,.str _=>rfl
 | .bl _,.tup _=>by simp[pd,PyData.eqv,BT.eqv]
 | .bl _,.lst _=>by simp[pd,PyData.eqv,BT.eqv]
 | .int _,.non=>rfl
 | .int _,.bl _=>rfl
 | .int _,.int _=>rfl
 | .int _,.str _=>rfl
 | .int _,.tup _=>by simp[pd,PyData.eqv,BT.eqv]
 | .int _,.lst _=>by simp[pd,PyData.eqv,BT.eqv]
 | .str _,.non=>rfl
 | .str _,.bl _=>rfl
 | .str _,.int _=>rfl
 | .str _,.str _=>rfl
 | .str _,.tup _=>by simp[pd,PyData.eqv,BT.eqv]
 | .str _,.lst _=>by simp[pd,PyData.eqv,BT.eqv]
 | .tup _,.non=>by simp[pd,PyData.eqv,BT.eqv]
 | .tup _,.bl _=>by simp[pd,PyData.eqv,BT.eqv]
 | .tup _,.int _=>by simp[pd,PyData.eqv,BT.eqv]
 | .tup _,.str _=>by simp[pd,PyData.eqv,BT.eqv]
 | .tup xs,.tup ys=>by simp only[pd,PyData.eqv,BT.eqv];exact nS xs ys
 | .tup _,.lst _=>by simp[pd,PyData.eqv,BT.eqv]
 | .lst _,.non=>by simp[pd,PyData.eqv,BT.eqv]
 | .lst _,.bl _=>by simp[pd,PyData.eqv,BT.eqv]
 | .lst _,.int _=>by simp[pd,PyData.eqv,BT.eqv]
 | .lst _,.str _=>by simp[pd,PyData.eqv,BT.eqv]
 | .lst _,.tup _=>by simp[pd,PyData.eqv,BT.eqv]
 | .lst xs,.lst ys=>by simp only[pd,PyData.eqv,BT.eqv];exact nS xs ys
theorem nS:∀ xs ys:List BT.D,PyData.eqvAll (pds xs) (pds ys)=BT.lQ xs ys
 | [],[]=>by simp[pds,PyData.eqvAll,BT.lQ]
 | [],_ :: _=>by simp[pds,PyData.eqvAll,BT.lQ]
 | _ :: _,[]=>by simp[pds,PyData.eqvAll,BT.lQ]
 | x :: xs,y :: ys=>by simp only[pds,PyData.eqvAll,BT.lQ];rw[kQ x y,nS xs ys]
end
theorem gw {n:Nat}:∀ {xs:List BT.D},(∀ x∈xs,(pd x).depth<=n)->PyData.depthAll (pds xs)<=n
 | [],_=>by simp[pds,PyData.depthAll]
 | x :: xs,h=>by
  simp only[pds,PyData.depthAll]
  exact Nat.max_le.mpr ⟨h x NI,gw fun y hy=>h y (NC _ hy)⟩
theorem gQ:∀ (n:Nat) (d:BT.D),BT.dok n d=true->(pd d).depth<=n
 | n,.non,_=>by simp[pd,PyData.depth]
 | n,.bl _,_=>by simp[pd,PyData.depth]
 | n,.int _,_=>by simp[pd,PyData.depth]
 | n,.str _,_=>by simp[pd,PyData.depth]
 | 0,.tup _,h=>by simp[BT.dok] at h
 | 0,.lst _,h=>by simp[BT.dok] at h
 | n+1,.tup xs,h=>by
  simp only[pd,PyData.depth]
  rw[BT.sf,OM] at h
  exact Nat.succ_le_succ (gw fun x hx=>gQ n x (h x hx))
 | n+1,.lst xs,h=>by
  simp only[pd,PyData.depth]
  rw[BT.sj,OM] at h
  exact Nat.succ_le_succ (gw fun x hx=>gQ n x (h x hx))
section
variable {X:Cx}{pins:List (Addr×Obj)}{σ:L2.St}{s:Nr}{K:Nl}{m:List Addr}{H:Hp}
mutual
theorem dQ:∀ {v:V}{d:BT.D},RD K m H v d->(pd d).canLay0=true
 | _,_,.non=>rfl
 | _,_,.bl _=>rfl
 | _,_,.int _=>rfl
 | _,_,.str _ h=>by simpa [pd,PyData.canLay0] using h
 | _,_,.tup _ r=>by simp only[pd,PyData.canLay0];exact fW r
 | _,_,.lst _ r=>by simp only[pd,PyData.canLay0];exact fW r
theorem fW:∀ {vs:List V}{ds:List BT.D},RDs K m H vs ds->PyData.canLayAll0 (pds ds)=true
 | _,_,.nil=>by simp[pds,PyData.canLayAll0]
 | _,_,.cons r t=>by simp only[pds,PyData.canLayAll0];rw[dQ r,fW t];rfl
end
mutual
theorem gx (I:Inv X pins σ H s):∀ {v:V}{d:BT.D}{u:Np},RD X.K m H v d->RelV v u->∃ as,Reads s.heap u (pd d) as
 | _,_,_,.non,r=>by cases r;exact ⟨_,.none⟩
 | _,_,_,.bl b,r=>by cases r;exact ⟨_,.bool b⟩
 | _,_,_,.int i,r=>by obtain ⟨t,rfl⟩:=r;exact ⟨_,.int i t⟩
 | _,_,_,.str x _,r=>by obtain ⟨t,rfl⟩:=r;exact ⟨_,.str x t⟩
 | _,_,_,.tup h r,q=>by
  cases q
  obtain ⟨its,r1,⟨o,e1,e2,n,e3⟩,_⟩:=I.tuple (h.elim (fun q=>.inl q.1) (fun ⟨o,its,n,q,_⟩=>.inr ⟨o,its,n,q⟩))
  obtain ⟨as,ra⟩:=gR I r r1
  exact ⟨_,.tuple e1 e2 e3 (by simpa using ra)⟩
 | _,_,_,.lst h r,q=>by
  cases q
  obtain ⟨z,its,n,r1,_,e⟩:=rdL I (h.elim (fun q=>.inl q.1) .inr)
  obtain ⟨as,ra⟩:=gR I r r1
  exact ⟨_,.list e rfl rfl (by simpa using ra)⟩
theorem gR (I:Inv X pins σ H s):∀ {vs:List V}{ds:List BT.D}{us:List Np},RDs X.K m H vs ds->au vs us->∃ as,ReadsAll s.heap us (pds ds) as
 | _,_,_,.nil,q=>by cases q;exact ⟨_,.nil⟩
 | _,_,_,.cons r t,q=>by
  cases q with
  | cons q1 q2 =>
   obtain ⟨as,ra⟩:=gx I r q1
   obtain ⟨bs,rb⟩:=gR I t q2
   exact ⟨_,.cons ra rb⟩
end
theorem gy (I:Inv X pins σ H s) {v:V}{d:BT.D}{u:Np} (r:RR X.K m H v d) (q:RelV v u):∃ as,Reads s.heap u (pd d) as:=by
 cases r with
 | d r=>exact gx I r q
 | l h r =>
  cases q
  obtain ⟨z,its,n,r1,_,e⟩:=rdL I (.inl (.inl h))
  obtain ⟨as,ra⟩:=gR I r r1
  exact ⟨_,.list e rfl rfl (by simpa using ra)⟩
theorem fJ {v:V}{d:BT.D} (r:RR K m H v d):(pd d).canLay0=true:=by
 cases r with
 | d r=>exact dQ r
 | l h r=>simp only[pd,PyData.canLay0];exact fW r
theorem nU {x y:BT.D} (h:BT.bw x y=true):min (pd x).depth (pd y).depth<=100:=by
 unfold BT.bw at h
 rcases Pn _ _ ▸ h with h | h
 ·have:=gQ 100 x h;omega
 ·have:=gQ 100 y h;omega
theorem dh {o:BT.Cm}{x y:BT.W}{h:BT.HH}{z:BT.W}{h':BT.HH} (e:BT.fZ o x y h=some (z,h')) :
 (∃ kvs b,y=.k kvs/\BT.inK o x kvs=some b/\z=.p (.bl b)/\h'=h)\/∃ d d' b,BT.rd x h=some d/\BT.rd y h=some d'/\BT.dO o d d'=some b/\z=.p (.bl b)/\h'=h:=by
 unfold BT.fZ at e
 split at e
 ·rename_i kvs
  obtain ⟨b,e1,e2⟩:=aC e
  cases e2
  exact .inl ⟨kvs,b,rfl,e1,rfl,rfl⟩
 ·refine .inr ?_
  cases e1:BT.rd x h with
  | none=>rw[e1] at e;cases e
  | some d =>
   cases e2:BT.rd y h with
   | none=>rw[e1,e2] at e;cases e
   | some d' =>
    rw[e1,e2] at e
    obtain ⟨q,eq,er⟩:=aC e
    cases er
    exact ⟨d,d',q,rfl,rfl,eq,rfl,rfl⟩
theorem Ic (hu:X.A.units+150 < cLine):OpR X (Oh .Eq) (rOp X.prog X.w X.K (BT.fZ .eq)):=by
 intro pins s σ H v u v' u' Q I rv ru h
 obtain ⟨m,h,x,y,z,h',R,rx,ry,e,post⟩:=h
 rcases dh e with ⟨kvs,b,rfl,e1,_,_⟩ | ⟨d,d',b,e1,e2,e3,rfl,rfl⟩
 ·cases x with
  | p d=>cases d<;>exact ai e1
  | r n=>exact ai e1
  | k q=>exact ai e1
  | c _ _=>exact ai e1
  | o q=>exact ai e1
 ·have r1:=aF R rx e1
  have r2:=aF R ry e2
  rw[BT.nF] at e3
  split at e3
  ·rename_i c
   cases e3
   obtain ⟨as,ra⟩:=gy I r1 rv
   obtain ⟨bs,rb⟩:=gy I r2 ru
   have:=nU c
   refine SeqAt.compareEq_reads ra rb (fJ r1) (fJ r2) (by omega) ?_
   rw[kQ]
   exact ⟨.bl _,H,I,rfl,post.here R (.bl _)⟩
  ·cases e3
theorem Ie (hu:X.A.units+150 < cLine):OpR X (Oh .NotEq) (rOp X.prog X.w X.K (BT.fZ .ne)):=by
 intro pins s σ H v u v' u' Q I rv ru h
 obtain ⟨m,h,x,y,z,h',R,rx,ry,e,post⟩:=h
 rcases dh e with ⟨kvs,b,rfl,e1,_,_⟩ | ⟨d,d',b,e1,e2,e3,rfl,rfl⟩
 ·cases x with
  | p d=>cases d<;>exact ai e1
  | r n=>exact ai e1
  | k q=>exact ai e1
  | c _ _=>exact ai e1
  | o q=>exact ai e1
 ·have r1:=aF R rx e1
  have r2:=aF R ry e2
  rw[BT.jW] at e3
  split at e3
  ·rename_i c
   cases e3
   obtain ⟨as,ra⟩:=gy I r1 rv
   obtain ⟨bs,rb⟩:=gy I r2 ru
   have:=nU c
   refine SeqAt.compareNe_reads ra rb (fJ r1) (fJ r2) (by omega) ?_
   rw[kQ]
   exact ⟨.bl _,H,I,rfl,post.here R (.bl _)⟩
  ·cases e3
theorem Ig:OpR X (Oh .Lt) (rOp X.prog X.w X.K (BT.fZ .lt)):=by
 intro pins s σ H v u v' u' Q I rv ru h
 obtain ⟨m,h,x,y,z,h',R,rx,ry,e,post⟩:=h
 rcases dh e with ⟨kvs,b,rfl,e1,_,_⟩ | ⟨d,d',b,e1,e2,e3,rfl,rfl⟩
 ·cases x with
  | p d=>cases d<;>exact ai e1
  | r n=>exact ai e1
  | k q=>exact ai e1
  | c _ _=>exact ai e1
  | o q=>exact ai e1
 ·have r1:=aF R rx e1
  have r2:=aF R ry e2
  cases d<;>cases d'<;>first | (cases e3;done) | simp only[BT.e9,BT.ff,BT.fh,BT.fj,BT.dz,BT.cD,BT.bJ,BT.aJ,BT.bx,BT.aE] at e3
  cases e3
  cases r1.int;cases r2.int
  exact GW pins s σ H _ _ _ _ Q I rv ru ⟨_,_,rfl,rfl,post.here R (.bl _)⟩
theorem Ih:OpR X (Oh .LtE) (rOp X.prog X.w X.K (BT.fZ .le)):=by
 intro pins s σ H v u v' u' Q I rv ru h
 obtain ⟨m,h,x,y,z,h',R,rx,ry,e,post⟩:=h
 rcases dh e with ⟨kvs,b,rfl,e1,_,_⟩ | ⟨d,d',b,e1,e2,e3,rfl,rfl⟩
 ·cases x with
  | p d=>cases d<;>exact ai e1
  | r n=>exact ai e1
  | k q=>exact ai e1
  | c _ _=>exact ai e1
  | o q=>exact ai e1
 ·have r1:=aF R rx e1
  have r2:=aF R ry e2
  cases d<;>cases d'<;>first | (cases e3;done) | simp only[BT.e9,BT.ff,BT.fh,BT.fj,BT.dz,BT.cD,BT.bJ,BT.aJ,BT.bx,BT.aE] at e3
  cases e3
  cases r1.int;cases r2.int
  exact GX pins s σ H _ _ _ _ Q I rv ru ⟨_,_,rfl,rfl,post.here R (.bl _)⟩
theorem Ii:OpR X (Oh .Gt) (rOp X.prog X.w X.K (BT.fZ .gt)):=by
 intro pins s σ H v u v' u' Q I rv ru h
 obtain ⟨m,h,x,y,z,h',R,rx,ry,e,post⟩:=h
 rcases dh e with ⟨kvs,b,rfl,e1,_,_⟩ | ⟨d,d',b,e1,e2,e3,rfl,rfl⟩
 ·cases x with
  | p d=>cases d<;>exact ai e1
  | r n=>exact ai e1
  | k q=>exact ai e1
  | c _ _=>exact ai e1
  | o q=>exact ai e1
 ·have r1:=aF R rx e1
  have r2:=aF R ry e2
  cases d<;>cases d'<;>first | (cases e3;done) | simp only[BT.e9,BT.ff,BT.fh,BT.fj,BT.dz,BT.cD,BT.bJ,BT.aJ,BT.bx,BT.aE] at e3
  cases e3
  cases r1.int;cases r2.int
  exact GY pins s σ H _ _ _ _ Q I rv ru ⟨_,_,rfl,rfl,post.here R (.bl _)⟩
theorem Ij:OpR X (Oh .GtE) (rOp X.prog X.w X.K (BT.fZ .ge)):=by
 intro pins s σ H v u v' u' Q I rv ru h
 obtain ⟨m,h,x,y,z,h',R,rx,ry,e,post⟩:=h
 rcases dh e with ⟨kvs,b,rfl,e1,_,_⟩ | ⟨d,d',b,e1,e2,e3,rfl,rfl⟩
 ·cases x with
  | p d=>cases d<;>exact ai e1
  | r n=>exact ai e1
  | k q=>exact ai e1
  | c _ _=>exact ai e1
  | o q=>exact ai e1
 ·have r1:=aF R rx e1
  have r2:=aF R ry e2
  cases d<;>cases d'<;>first | (cases e3;done) | simp only[BT.e9,BT.ff,BT.fh,BT.fj,BT.dz,BT.cD,BT.bJ,BT.aJ,BT.bx,BT.aE] at e3
  cases e3
  cases r1.int;cases r2.int
  exact GZ pins s σ H _ _ _ _ Q I rv ru ⟨_,_,rfl,rfl,post.here R (.bl _)⟩
theorem sF {v:V}{d:BT.D} (r:RR K m H v d):decide (v=.non)=BT.gj d:=by
 cases r with
 | d r=>cases r<;>rfl
 | l h r=>rfl
theorem EA:OpR X (Oh .Is) (rOp X.prog X.w X.K (BT.fZ .isN)):=by
 intro pins s σ H v u v' u' Q I rv ru h
 obtain ⟨m,h,x,y,z,h',R,rx,ry,e,post⟩:=h
 rcases dh e with ⟨kvs,b,rfl,e1,_,_⟩ | ⟨d,d',b,e1,e2,e3,rfl,rfl⟩
 ·cases x with
  | p d=>cases d<;>exact ai e1
  | r n=>exact ai e1
  | k q=>exact ai e1
  | c _ _=>exact ai e1
  | o q=>exact ai e1
 ·have r1:=aF R rx e1
  have r2:=aF R ry e2
  cases d'<;>first | (cases e3;done) | simp only[BT.e9,BT.ff,BT.fh,BT.fj,BT.dz,BT.cD,BT.bJ,BT.aJ,BT.bx,BT.aE] at e3
  cases e3
  cases r2.non
  refine DL pins s σ H _ _ _ _ Q I rv ru ⟨rfl,?_⟩
  rw[sF r1]
  exact post.here R (.bl _)
theorem AY:OpR X (Oh .IsNot) (rOp X.prog X.w X.K (BT.fZ .notN)):=by
 intro pins s σ H v u v' u' Q I rv ru h
 obtain ⟨m,h,x,y,z,h',R,rx,ry,e,post⟩:=h
 rcases dh e with ⟨kvs,b,rfl,e1,_,_⟩ | ⟨d,d',b,e1,e2,e3,rfl,rfl⟩
 ·cases x with
  | p d=>cases d<;>exact ai e1
  | r n=>exact ai e1
  | k q=>exact ai e1
  | c _ _=>exact ai e1
  | o q=>exact ai e1
 ·have r1:=aF R rx e1
  have r2:=aF R ry e2
  cases d'<;>first | (cases e3;done) | simp only[BT.e9,BT.ff,BT.fh,BT.fj,BT.dz,BT.cD,BT.bJ,BT.aJ,BT.bx,BT.aE] at e3
  cases e3
  cases r2.non
  refine Ab pins s σ H _ _ _ _ Q I rv ru ⟨rfl,?_⟩
  rw[sF r1]
  exact post.here R (.bl _)
open Classical in
noncomputable def cU (h:Heap) (dx:PyData) (y:Np):Bool:=if q:∃ db as,Reads h y db as/\db.canLay0=true then PyData.eqv (Classical.choose q) dx else false
theorem qT {h:Heap}{dx db:PyData}{y:Np}{as:List Addr} (r:Reads h y db as) (c:db.canLay0=true):cU h dx y=PyData.eqv db dx:=by
 have q:∃ db as,Reads h y db as/\db.canLay0=true:=⟨db,as,r,c⟩
 unfold cU
 rw[dif_pos q]
 obtain ⟨as',r',c'⟩:=Classical.choose_spec q
 rw[SeqAt.Reads.unique _ _ _ _ _ c r r']
theorem jb (I:Inv X pins σ H s) {d:BT.D}:∀ {vs:List V}{ds:List BT.D}{us:List Np},RDs X.K m H vs ds->au vs us->us.any (cU s.heap (pd d))=ds.any fun y=>BT.eqv y d
 | _,_,_,.nil,q=>by cases q;rfl
 | _,_,_,.cons r t,q=>by
  cases q with
  | cons q1 q2 =>
   obtain ⟨as,ra⟩:=gx I r q1
   rw[Rn,Rn,jb I t q2,qT ra (dQ r),kQ]
theorem gS (hu:X.A.units+150 < cLine) (I:Inv X pins σ H s) {v:V}{d:BT.D}{u:Np} (rx:RR X.K m H v d) (rv:RelV v u):∀ {vs:List V}{ds:List BT.D}{us:List Np},RDs X.K m H vs ds->au vs us->(ds.all fun y=>BT.bw y d)=true →
 ∀ y∈us,SeqAt.EqAt X.A.in1 s y u (cU s.heap (pd d) y)
 | _,_,_,.nil,q,_=>by cases q;intro y hy;simp at hy
 | _,_,_,.cons r t,q,c=>by
  cases q with
  | cons q1 q2 =>
   rw[SC,Nt] at c
   intro y hy
   rcases List.mem_cons.mp hy with rfl | hy
   ·obtain ⟨as,ra⟩:=gx I r q1
    obtain ⟨bs,rb⟩:=gy I rx rv
    rw[qT ra (dQ r)]
    have:=nU c.1
    refine SeqAt.eqAt_reads _ _ _ _ _ _ _ _ ra rb (dQ r) (fJ rx) ?_
    show X.A.units+1+_ < _
    omega
   ·exact gS hu I rx rv t q2 c.2 y hy
theorem EB (hu:X.A.units+150 < cLine) (hk:∀ {kvs:List (Str×BT.D)}{x:BT.W}{b:Bool}{m:List Addr}{H:Hp}{v u:V}{v' u':Np}{pins σ s Q},Inv X pins σ H s->RelV v v'->RelV u u'->RW X.prog X.w X.K m H v x->RW X.prog X.w X.K m H u (.k kvs)->BT.inK .mem x kvs=some b->Q (V.bl b) H →
 wpAny (NR X.prog X.w) X.A (Oh .In v' u') (EP X pins σ Q) X.xe s):OpR X (Oh .In) (rOp X.prog X.w X.K (BT.fZ .mem)):=by
 intro pins s σ H v u v' u' Q I rv ru h
 obtain ⟨m,h,x,y,z,h',R,rx,ry,e,post⟩:=h
 rcases dh e with ⟨kvs,b,rfl,e1,rfl,rfl⟩ | ⟨d,d',b,e1,e2,e3,rfl,rfl⟩
 ·exact hk I rv ru rx ry e1 (post.here R (.bl _))
 ·have r1:=aF R rx e1
  have r2:=aF R ry e2
  cases d'<;>first | (cases e3;done) | simp only[BT.e9,BT.ff,BT.fh,BT.fj,BT.dz,BT.cD,BT.bJ,BT.aJ,BT.bx,BT.aE] at e3
  ·split at e3
   ·rename_i c
    cases e3
    obtain ⟨a,vs,rfl,ha,ra⟩:=r2.tup
    cases ru
    obtain ⟨its,q1,q2,_⟩:=I.tuple ha
    refine SeqAt.in_tupleAt (cU s.heap (pd d)) q2 (fun y hy=>gS hu I r1 rv ra q1 c y (by simpa using hy)) ⟨.bl _,H,I,rfl,?_⟩
    rw[show its.toArray.any (cU s.heap (pd d))=its.any (cU s.heap (pd d)) by simp,jb I ra q1]
    exact post.here R (.bl _)
   ·cases e3
  ·split at e3
   ·rename_i c
    cases e3
    obtain ⟨a,vs,rfl,ha,ra⟩:=r2.lst
    cases ru
    obtain ⟨z,its,n,q1,_,q2⟩:=rdL I ha
    refine SeqAt.in_listAt (cU s.heap (pd d)) ⟨_,q2,rfl,_,rfl⟩ (fun y hy=>gS hu I r1 rv ra q1 c y (by simpa using hy)) ⟨.bl _,H,I,rfl,?_⟩
    rw[show its.toArray.any (cU s.heap (pd d))=its.any (cU s.heap (pd d)) by simp,jb I ra q1]
    exact post.here R (.bl _)
   ·cases e3
theorem AZ (hu:X.A.units+150 < cLine) (hk:∀ {kvs:List (Str×BT.D)}{x:BT.W}{b:Bool}{m:List Addr}{H:Hp}{v u:V}{v' u':Np}{pins σ s Q},Inv X pins σ H s->RelV v v'->RelV u u'->RW X.prog X.w X.K m H v x->RW X.prog X.w X.K m H u (.k kvs)->BT.inK .nmem x kvs=some b->Q (V.bl b) H →
 wpAny (NR X.prog X.w) X.A (Oh .NotIn v' u') (EP X pins σ Q) X.xe s):OpR X (Oh .NotIn) (rOp X.prog X.w X.K (BT.fZ .nmem)):=by
 intro pins s σ H v u v' u' Q I rv ru h
 obtain ⟨m,h,x,y,z,h',R,rx,ry,e,post⟩:=h
 rcases dh e with ⟨kvs,b,rfl,e1,rfl,rfl⟩ | ⟨d,d',b,e1,e2,e3,rfl,rfl⟩
 ·exact hk I rv ru rx ry e1 (post.here R (.bl _))
 ·have r1:=aF R rx e1
  have r2:=aF R ry e2
  cases d'<;>first | (cases e3;done) | simp only[BT.e9,BT.ff,BT.fh,BT.fj,BT.dz,BT.cD,BT.bJ,BT.aJ,BT.bx,BT.aE] at e3
  ·split at e3
   ·rename_i c
    cases e3
    obtain ⟨a,vs,rfl,ha,ra⟩:=r2.tup
    cases ru
    obtain ⟨its,q1,q2,_⟩:=I.tuple ha
    refine SeqAt.notIn_tupleAt (cU s.heap (pd d)) q2 (fun y hy=>gS hu I r1 rv ra q1 c y (by simpa using hy)) ⟨.bl _,H,I,rfl,?_⟩
    rw[show its.toArray.any (cU s.heap (pd d))=its.any (cU s.heap (pd d)) by simp,jb I ra q1]
    exact post.here R (.bl _)
   ·cases e3
  ·split at e3
   ·rename_i c
    cases e3
    obtain ⟨a,vs,rfl,ha,ra⟩:=r2.lst
    cases ru
    obtain ⟨z,its,n,q1,_,q2⟩:=rdL I ha
    refine SeqAt.notIn_listAt (cU s.heap (pd d)) ⟨_,q2,rfl,_,rfl⟩ (fun y hy=>gS hu I r1 rv ra q1 c y (by simpa using hy)) ⟨.bl _,H,I,rfl,?_⟩
    rw[show its.toArray.any (cU s.heap (pd d))=its.any (cU s.heap (pd d)) by simp,jb I ra q1]
    exact post.here R (.bl _)
   ·cases e3
end
end BS
end
section
namespace BS
open PySem PySem.Spec PyProof.Rows L2
section
variable {X:Cx}
theorem RDs.atI {K:Nl}{m:List Addr}{H:Hp}{vs:List V}{ds:List BT.D}{i:Int}{d:BT.D} (r:RDs K m H vs ds) (e:BT.atP ds i=some d):∃ v,L2.atI vs i=some v/\RD K m H v d:=by
 unfold BT.atP at e
 unfold L2.atI
 obtain ⟨j,h1,h2⟩:=Option.bind_eq_some_iff.mp e
 obtain ⟨v,q1,q2⟩:=r.get h2
 refine ⟨v,?_,q2⟩
 rw[r.length]
 show ((BT.place ds.length i).bind fun j=>vs[j]?)=some v
 rw[h1]
 exact q1
theorem A1 {x y:BT.W}{h:BT.HH}{z:BT.W}{h':BT.HH} (e:BT.AE x y h=some (z,h')) :
 (∃ kvs k d,x=.k kvs/\y=.p (.str k)/\BT.dw k kvs=some d/\z=.p d/\h'=h)\/∃ d d' b,BT.rd x h=some d/\BT.rd y h=some d'/\BT.bM d d'=some b/\z=.p b/\h'=h:=by
 unfold BT.AE at e
 split at e
 ·rename_i kvs
  obtain ⟨b,e1,e2⟩:=aC e
  cases e2
  cases y with
  | p d =>
   cases d<;>simp only[BT.atK] at e1<;>try contradiction
   exact .inl ⟨kvs,_,b,rfl,rfl,e1,rfl,rfl⟩
  | r n=>simp[BT.atK] at e1
  | k q=>simp[BT.atK] at e1
  | c _ _=>simp[BT.atK] at e1
  | o q=>simp[BT.atK] at e1
 ·refine .inr ?_
  cases e1:BT.rd x h with
  | none=>rw[e1] at e;cases e
  | some d =>
   cases e2:BT.rd y h with
   | none=>rw[e1,e2] at e;cases e
   | some d' =>
    rw[e1,e2] at e
    obtain ⟨q,eq,er⟩:=aC e
    cases er
    exact ⟨d,d',q,rfl,rfl,eq,rfl,rfl⟩
theorem xV {K:Nl}{k:Str}{d:BT.D}:∀ {es:List (Str×V)}{kvs:List (Str×BT.D)}{vs:List (Key×Np)},RDk K es kvs->KV (es.map fun q=>((Sum.inr q.1:Key),q.2)) vs->BT.dw k kvs=some d →
 ∃ u v,valueAt vs (Sum.inr k)=some u/\RelV v u/\∀ m H,RD K m H v d
 | _,_,_,.nil,_,e=>by simp[BT.dw] at e
 | _,_,_,@RDk.cons _ x v dd es kvs r t,q,e=>by
  cases q with
  | @cons p z l1 l2 q1 q2 =>
   obtain ⟨z1,z2⟩:=z
   obtain ⟨q11,q12⟩:=q1
   simp only at q11 q12
   subst q11
   rw[BT.dw] at e
   by_cases c:k=x
   ·rw[if_pos c] at e
    cases e
    subst c
    exact ⟨z2,v,by simp[valueAt],q12,r⟩
   ·rw[if_neg c] at e
    obtain ⟨u,v',h1,h2,h3⟩:=xV t q2 e
    refine ⟨u,v',?_,h2,h3⟩
    have ne:¬ ((Sum.inr x:Key)=Sum.inr k):=fun z=>c (Sum.inr.inj z).symm
    simp only[valueAt] at h1 ⊢
    rw[SO (by simpa using ne)]
    exact h1
theorem u5 {x:Str}{c:Nat} (h:PyData.strOk x=true) (hc:c∈x.cps.toList):PyData.strOk ⟨#[c]⟩=true:=by
 simp only[PyData.strOk,Array.all_eq_true_iff_forall_mem] at h ⊢
 intro y hy
 simp at hy
 subst hy
 exact h y (by simpa using hc)
theorem EC:IxR X (rOp X.prog X.w X.K BT.AE):=by
 intro value slice pins s σ H v u v' u' Q I rv ru h hs
 obtain ⟨m,h,x,y,z,h',R,rx,ry,e,post⟩:=h
 rcases A1 e with ⟨kvs,k,d,rfl,rfl,e1,rfl,rfl⟩ | ⟨d,d',b,e1,e2,e3,rfl,rfl⟩
 ·cases rx with
  | @k a es _ kd rk =>
   cases rv
   cases ry with
   | p ry =>
    cases ry with
    | str _ ok =>
     obtain ⟨t,rfl⟩:=ru
     obtain ⟨hm,vs,kv,dd⟩:=kd
     obtain ⟨w',z,h1,h2,h3⟩:=xV rk kv e1
     have D:=dd s.heap I.kIn
     refine tail_any (ops:=[.ref a,.str k t]) D.typeIs slot_dict_getitem.lookup ?_ hs
     exact wpAny_getItem_of (knd:=cH X.prog X.w) (f9 _ _ k t) D.mapOf h1 ⟨z,H,I.tok _,h2,post.here R (h3 _ _)⟩
 ·have r1:=aF R rx e1
  have r2:=aF R ry e2
  cases d<;>cases d'<;>first | (cases e3;done) | simp only[BT.wZ,BT.bH,BT.fu] at e3
  ·split at e3
   ·rename_i c
    obtain ⟨cc,e4,e5⟩:=aC e3
    subst e5
    obtain ⟨rfl,ok⟩:=r1.str
    cases r2.int
    have:=cL
    refine DU value slice pins s σ H _ _ _ _ Q I rv ru ⟨_,_,cc,rfl,rfl,by omega,e4,post.here R (.str _ (u5 ok ?_))⟩ hs
    obtain ⟨j,h1,h2⟩:=Option.bind_eq_some_iff.mp e4
    exact NJ h2
   ·cases e3
  ·obtain ⟨a,vs,rfl,ha,ra⟩:=r1.tup
   cases r2.int
   obtain ⟨z,q1,q2⟩:=ra.atI e3
   exact DT value slice pins s σ H _ _ _ _ Q I rv ru ⟨a,vs,_,z,rfl,rfl,ha,q1,post.here R q2⟩ hs
  ·obtain ⟨a,vs,rfl,ha,ra⟩:=r1.lst
   cases r2.int
   obtain ⟨z,q1,q2⟩:=ra.atI e3
   exact Ao value slice pins s σ H _ _ _ _ Q I rv ru ⟨a,vs,_,z,rfl,rfl,ha.sq,q1,post.here R q2⟩ hs
theorem jc (n d:Nat) (o:Option Int):BT.clip n d o=HT.sIx n d o:=by
 cases o with
 | none=>rfl
 | some v =>
  simp only[BT.clip,HT.sIx]
  split
  ·rfl
  ·split
   ·omega
   ·omega
theorem lW {prog:NG}{w:N2}{A:Oz}{E:Np->Nr->Prop}{s:Nr}{t sl:Addr}{items:Array Np}{vl vu:Np}{lo hi:Option Int}{Q:Np->Nr->Prop} (ht:IsTup s.heap t items) (hs:s.heap.IsSliceOf sl vl vu .none) (pl:Su vl lo) (pu:Su vu hi)
 (hw:HT.sIx items.size 0 lo=0/\HT.sIx items.size items.size hi=items.size) (h:Q (.ref t) s):wpAny (NR prog w) A (R8 (.ref t) (.ref sl)) Q E s:=by
 obtain ⟨os,hos,hcs,hds⟩:=id hs
 have hTs:s.TypeIs (.ref sl) "slice":=⟨os,hos,hcs⟩
 unfold R8
 try with_reducible refine OL ?_
 first | refine wpAny_bind (wpAny_pure ?_) | skip
 refine wpAny_bind (wpAny_sequenceKey ht.typeIs (by decide) ?_)
 refine wpAny_bind (Pa (name:=NN "__getitem__") ht.typeIs OT
  (PL OT ht.typeIs entry_tuple_getitem ?_ (args_tuple_getitem _ _)))
 show wpAny _ _ (Q4 (.ref t) >>= _) _ _ s
 refine wpAny_bind (tupleItemsOf_ ht ?_)
 refine wpAny_bind (Qc hTs ?_)
 rw[if_pos (by decide)]
 refine wpAny_bind (HT.fz hs pl pu ?_)
 have hno:(((HT.sIx items.size 0 lo:Nat):Int)==0&&(1:Int)==1&&(HT.sIx items.size items.size hi - HT.sIx items.size 0 lo)==items.size)=true:=by
  rw[hw.1,hw.2];simp
 show wpAny _ _ (if (((HT.sIx items.size 0 lo:Nat):Int)==0&&(1:Int)==1&&(HT.sIx items.size items.size hi - HT.sIx items.size 0 lo)==items.size)=true then _ else _) _ _ s
 rw[if_pos hno]
 unfold Builtin.Tuple.tupleIsExact
 refine wpAny_bind (wpAny_bind (Qc ht.typeIs (wpAny_pure ?_)))
 rw[if_pos (by decide)]
 refine wpAny_bind (RZ ?_)
 first
  | exact wpAny_pure ⟨_,rfl,wpAny_pure h⟩
  | exact wpAny_pure ⟨_,rfl,h⟩
  | exact wpAny_bind (wpAny_pure (wpAny_pure ⟨_,rfl,wpAny_pure h⟩))
noncomputable def rSl (P:NG) (w:N2) (K:Nl):V->Option Int->Option Int->Hp->VK->Prop:=fun v lo hi H Q =>
 ∃ m h x d b,RH K m H h/\RW P w K m H v x/\BT.rd x h=some d/\BT.qK d lo hi=some b/\Post P w K m H (.p b) h Q
theorem RDs.cut {K:Nl}{m:List Addr}{H:Hp}{vs:List V}{ds:List BT.D} (r:RDs K m H vs ds) (lo hi:Option Int):RDs K m H (oY vs lo hi) (BT.cut ds lo hi):=by
 unfold oY BT.cut
 rw[jc,jc,r.length]
 exact (r.drop _).take _
theorem u6 {ds:List BT.D}{lo hi:Option Int} (h1:HT.sIx ds.length 0 lo=0) (h2:HT.sIx ds.length ds.length hi=ds.length):BT.cut ds lo hi=ds:=by
 unfold BT.cut
 rw[jc,jc,h1,h2]
 simp
theorem osl:SlR X (rSl X.prog X.w X.K):=by
 intro pins s σ H v v' vl vu lo hi sl Q I rv hs pl pu h
 obtain ⟨m,h,x,d,b,R,rx,e1,e2,post⟩:=h
 have r1:=aF R rx e1
 cases d<;>simp only[BT.qK] at e2<;>try contradiction
 ·cases e2
  obtain ⟨a,vs,rfl,ha,ra⟩:=r1.tup
  cases rv
  by_cases c:HT.sIx vs.length 0 lo=0/\HT.sIx vs.length vs.length hi=vs.length
  ·obtain ⟨its,q1,q2,_⟩:=I.tuple ha
   have hl:its.toArray.size=vs.length:=by rw[Nv];exact q1.length.symm
   refine ⟨"tuple",_,PyProof.Rows.slot_tuple_getitem.lookup,q2.typeIs,lW q2 hs pl pu (by rw[hl];exact c) ⟨.ref a,H,I,rfl,?_⟩⟩
   cases r1 with
   | d r =>
    refine post.here R ?_
    rw[u6 (by rw[← ra.length];exact c.1) (by rw[← ra.length];exact c.2)]
    exact r
  ·exact DS pins s σ H (.ref a) (.ref a) vl vu lo hi sl Q I rfl hs pl pu ⟨a,vs,rfl,ha,c,fun p hp=>ja R hp (ra.cut lo hi) post⟩
 ·cases e2
  obtain ⟨a,vs,rfl,ha,ra⟩:=r1.lst
  exact Aq pins s σ H _ _ vl vu lo hi sl Q I rv hs pl pu ⟨a,vs,rfl,ha.sq,fun p hp=>fV R hp (ra.cut lo hi) post⟩
end
end BS
end
section
namespace BS
open PySem PySem.Spec PyProof.Rows L2
theorem sG (m:BT.Me) (d:BT.D) (as:List BT.W) (h:BT.HH):BT.meW m (.p d) as h=(match BT.aV as with | some ds=>(BT.meD m d ds).map fun x=>(.p x,h) | none=>none):=by cases m<;>rfl
section
variable {X:Cx}
noncomputable def rMe (P:NG) (w:N2) (K:Nl) (me:BT.Me):V->List V->Hp->VK->Prop:=fun v vs H Q =>
 ∃ m h x ws z h',RH K m H h/\RW P w K m H v x/\RWs P w K m H vs ws/\BT.meW me x ws h=some (z,h')/\Post P w K m H z h' Q
theorem getD_some {α:Type}{xs:List α}{n:Nat}{a:α} (h:xs[n]?=some a):n < xs.length:=by
 rcases NK n xs.length with z | z
 ·exact z
 ·rw[NF z] at h;cases h
theorem u9:MtR X "list.append" (rMe X.prog X.w X.K .append):=by
 intro pins s σ H v vs v' us Q I rv rus h
 obtain ⟨m,h,x,ws,z,h',R,rx,rws,e,post⟩:=h
 cases x with
 | p d=>cases ws with
  | nil=>exact ai e
  | cons _ _=>rw[sG] at e;split at e<;>(try cases e)
 | k kvs=>(first | (cases e;done) | simp[BT.meW] at e)
 | c _ _=>(first | (cases e;done) | simp[BT.meW] at e)
 | o kvs=>(first | (cases e;done) | simp[BT.meW] at e)
 | r n =>
  cases rws with
  | nil=>(first | (cases e;done) | simp[BT.meW] at e)
  | @cons y wy _ _ ry t =>
   cases t with
   | cons _ _=>cases ry<;>(first | (cases e;done) | simp[BT.meW] at e)
   | nil =>
    cases ry with
    | r _=>(first | (cases e;done) | simp[BT.meW] at e)
    | k _ _=>(first | (cases e;done) | simp[BT.meW] at e)
    | c _ _=>(first | (cases e;done) | simp[BT.meW] at e)
    | g _ _=>(first | (cases e;done) | simp[BT.meW] at e)
    | o _=>(first | (cases e;done) | simp[BT.meW] at e)
    | p ry =>
     rw[BT.qL] at e
     cases g:BT.lat h n with
     | none=>rw[g] at e;cases e
     | some xs =>
      rw[g] at e
      simp only at e
      split at e
      ·rename_i c
       cases e
       cases rx with
       | @r a _ hn =>
        obtain ⟨us',hH,r⟩:=R.cell n a xs hn g
        have:=cL
        have hl:=r.length
        exact uM pins s σ H _ _ _ _ Q I rv rus ⟨a,us',y,rfl,rfl,hH,by omega,post _ _ m (fH (NJ hn) hH) (R.set hn hH (r.append (.cons ry .nil))) (.p .non)⟩
      ·cases e
theorem xW {α:Type}{xs:List α}{d:α} (h:xs.getLast?=some d):xs[xs.length - 1]?=some d:=by rw[← List.getLast?_eq_getElem?];exact h
theorem ED:MtR X "list.pop" (rMe X.prog X.w X.K .pop):=by
 intro pins s σ H v vs v' us Q I rv rus h
 obtain ⟨m,h,x,ws,z,h',R,rx,rws,e,post⟩:=h
 cases x with
 | p d=>cases ws with
  | nil=>exact ai e
  | cons _ _=>rw[sG] at e;split at e<;>(try cases e)
 | k kvs=>(first | (cases e;done) | simp[BT.meW] at e)
 | c _ _=>(first | (cases e;done) | simp[BT.meW] at e)
 | o kvs=>(first | (cases e;done) | simp[BT.meW] at e)
 | r n =>
  cases rws with
  | cons _ _=>(first | (cases e;done) | simp[BT.meW] at e)
  | nil =>
   rw[BT.AD] at e
   cases g:BT.lat h n with
   | none=>rw[g] at e;cases e
   | some xs =>
    rw[g] at e
    simp only at e
    cases gl:xs.getLast? with
    | none=>rw[gl] at e;cases e
    | some d =>
     rw[gl] at e
     cases e
     cases rx with
     | @r a _ hn =>
      obtain ⟨us',hH,r⟩:=R.cell n a xs hn g
      have hl:=r.length
      obtain ⟨y,hy,ry⟩:=r.get (xW gl)
      have x1:Ext m H m (upd H a (.lst us'.dropLast)):=fH (NJ hn) hH
      exact DX pins s σ H _ _ _ _ Q I rv rus ⟨a,us',y,rfl,rfl,hH,by rw[hl];exact hy,post _ _ m x1 (R.set hn hH r.dropLast) (.p (ry.ext x1))⟩
theorem xX {pins:List (Addr×Obj)}{s:Nr}{σ:L2.St}{H:Hp}{l b:Addr}{xs zs:List V}{Q:VK} (I:Inv X pins σ H s) (hH:H l=some (.lst xs)) (hB:LL X.K H b zs) (hz:xs.length+zs.length<=sizeLine) (q:Q .non (upd H l (.lst (xs++zs)))) :
 wpAny (NR X.prog X.w) X.A (call (.builtin "list.extend") [.ref l,.ref b]) (EP X pins σ Q) X.xe s:=by
 obtain ⟨z,its,n,r,hl,e⟩:=I.As hH
 obtain ⟨z2,its2,n2,r2,hl2,e2⟩:=rdL I hB
 have hsz:its.toArray.size+its2.toArray.size<=sizeLine:=by rw[Nv,Nv];omega
 have hlong:¬ (!its.toArray.isEmpty&&OE (its.toArray.size+its2.toArray.size))=true:=by
  rw[kE hsz,Bool.and_false]
  exact Ob
 refine P5 F.slot_list_extend ⟨_,e,rfl⟩ F.entry_list_extend (F.args_list_extend_2 _ _)
  (AutoSeq1.list_extend_list_list_0 l its.toArray n b its2.toArray n2 hlong (by rw[Nv];omega) (by omega)) ⟨e,e2,?_⟩
 refine ⟨.non,_,I.Ar (its':=its++its2) hH e (by simp) (r.append r2) ?_,rfl,q⟩
 rw[NT]
 omega
theorem A2 {pins:List (Addr×Obj)}{s:Nr}{σ:L2.St}{H:Hp}{l b:Addr}{xs zs:List V}{Q:VK} (I:Inv X pins σ H s) (hH:H l=some (.lst xs)) (hB:SqT X.K H b zs) (hz:xs.length+zs.length<=sizeLine) (q:Q .non (upd H l (.lst (xs++zs)))) :
 wpAny (NR X.prog X.w) X.A (call (.builtin "list.extend") [.ref l,.ref b]) (EP X pins σ Q) X.xe s:=by
 obtain ⟨z,its,n,r,hl,e⟩:=I.As hH
 obtain ⟨its2,r2,p2,_⟩:=I.tuple hB
 obtain ⟨⟨cls,dd,data,sl⟩,e2,hc,n2,hd⟩:=id p2
 simp only at hc hd
 subst hc hd
 have hl2:=r2.length
 have hsz:its.toArray.size+its2.toArray.size<=sizeLine:=by rw[Nv,Nv];omega
 have hlong:¬ (!its.toArray.isEmpty&&OE (its.toArray.size+its2.toArray.size))=true:=by
  rw[kE hsz,Bool.and_false]
  exact Ob
 refine P5 F.slot_list_extend ⟨_,e,rfl⟩ F.entry_list_extend (F.args_list_extend_2 _ _)
  (jR l its.toArray n b its2.toArray n2 dd sl hlong (by rw[Nv];omega) (by omega)) ⟨e,e2,?_⟩
 refine ⟨.non,_,I.Ar (its':=its++its2) hH e (by simp) (r.append r2) ?_,rfl,q⟩
 rw[NT]
 omega
theorem vc:MtR X "list.extend" (rMe X.prog X.w X.K .extend):=by
 intro pins s σ H v vs v' us Q I rv rus h
 obtain ⟨m,h,x,ws,z,h',R,rx,rws,e,post⟩:=h
 cases x with
 | p d=>cases ws with
  | nil=>exact ai e
  | cons _ _=>rw[sG] at e;split at e<;>(try cases e)
 | k kvs=>(first | (cases e;done) | simp[BT.meW] at e)
 | c _ _=>(first | (cases e;done) | simp[BT.meW] at e)
 | o kvs=>(first | (cases e;done) | simp[BT.meW] at e)
 | r n =>
  cases rws with
  | nil=>(first | (cases e;done) | simp[BT.meW] at e)
  | @cons y wy _ _ ry t =>
   cases t with
   | cons _ _=>(first | (cases e;done) | simp[BT.meW] at e)
   | nil =>
    rw[BT.qM] at e
    cases g:BT.lat h n with
    | none=>rw[g] at e;cases e
    | some xs =>
     cases g2:(BT.rd wy h).bind BT.nE with
     | none=>rw[g,g2] at e;cases e
     | some ys =>
      rw[g,g2] at e
      simp only at e
      split at e
      ·rename_i c
       cases e
       obtain ⟨d,e1,e2⟩:=Option.bind_eq_some_iff.mp g2
       have r2:=aF R ry e1
       cases rx with
       | @r a _ hn =>
        obtain ⟨us',hH,r⟩:=R.cell n a xs hn g
        cases rv
        obtain ⟨u,rfl,ru⟩:=rus.one
        have:=cL
        have hl:=r.length
        cases d<;>simp only[BT.nE] at e2<;>try contradiction
        ·cases e2
         obtain ⟨b,vb,rfl,hb,rb⟩:=r2.tup
         cases ru
         have hl2:=rb.length
         exact A2 I hH hb (by omega) (post _ _ m (fH (NJ hn) hH) (R.set hn hH (r.append rb)) (.p .non))
        ·cases e2
         obtain ⟨b,vb,rfl,hb,rb⟩:=r2.lst
         cases ru
         have hl2:=rb.length
         exact xX I hH hb (by omega) (post _ _ m (fH (NJ hn) hH) (R.set hn hH (r.append rb)) (.p .non))
      ·cases e
theorem RWs.pure {P:NG}{w:N2}{K:Nl}{m:List Addr}{H:Hp}:∀ {vs:List V}{ws:List BT.W}{ds:List BT.D},RWs P w K m H vs ws->BT.aV ws=some ds->RDs K m H vs ds:=by
 intro vs ws
 induction ws generalizing vs with
 | nil =>
  intro ds r e
  cases r
  cases e
  exact .nil
 | cons x ws ih =>
  intro ds r e
  cases r with
  | cons r t =>
   cases r with
   | p r =>
    simp only[BT.aV] at e
    obtain ⟨q,e1,e2⟩:=aC e
    subst e2
    exact .cons r (ih t e1)
   | _=>cases e
theorem kR {x:BT.D}:∀ {ds:List BT.D}{k j:Nat},BT.jw x ds k=some j->∃ i,j=k+i/\∃ (hi:i < ds.length),BT.eqv ds[i] x=true/\∀ m (hm:m < ds.length),m < i->BT.eqv ds[m] x=false
 | [],_,_,e=>by cases e
 | y :: r,k,j,e=>by
  simp only[BT.jw] at e
  split at e
  ·rename_i c
   cases e
   exact ⟨0,rfl,by simp,c,fun m _ h=>by omega⟩
  ·rename_i c
   obtain ⟨i,rfl,hi,h1,h2⟩:=kR e
   refine ⟨i+1,by omega,by simp;omega,by simpa using h1,fun m hm hlt=>?_⟩
   cases m with
   | zero=>simpa using c
   | succ m=>simpa using h2 m (by simpa using hm) (by omega)
theorem nV {pins:List (Addr×Obj)}{σ:L2.St}{s:Nr}{m:List Addr}{H:Hp}{d:BT.D} (I:Inv X pins σ H s):∀ {vs:List V}{ds:List BT.D}{us:List Np},RDs X.K m H vs ds->au vs us->∀ (i:Nat) (h1:i < us.length) (h2:i < ds.length),cU s.heap (pd d) us[i]=BT.eqv ds[i] d
 | _,_,_,.nil,q=>by cases q;intro i h1;simp at h1
 | _,_,_,.cons r t,q=>by
  cases q with
  | cons q1 q2 =>
   intro i h1 h2
   cases i with
   | zero =>
    obtain ⟨as,ra⟩:=gx I r q1
    simp only[List.getElem_cons_zero]
    rw[qT ra (dQ r),kQ]
   | succ i=>simpa using nV I t q2 i (by simpa using h1) (by simpa using h2)
theorem vd (hu:X.A.units+150 < cLine):MtR X "tuple.index" (fun v vs H Q=>(∃ m h x ws z h',RH X.K m H h/\RW X.prog X.w X.K m H v x/\RWs X.prog X.w X.K m H vs ws/\BT.meW .tindex x ws h=some (z,h')/\Post X.prog X.w X.K m H z h' Q)):=by
 intro pins s σ H v vs v' us Q I rv rus h
 obtain ⟨m,h,x,ws,z,h',R,rx,rws,e,post⟩:=h
 cases x with
 | r n=>cases ws with
  | nil=>(first | (cases e;done) | simp[BT.meW] at e)
  | cons _ _=>(first | (cases e;done) | simp[BT.meW] at e)
 | k kvs=>(first | (cases e;done) | simp[BT.meW] at e)
 | c _ _=>(first | (cases e;done) | simp[BT.meW] at e)
 | o kvs=>(first | (cases e;done) | simp[BT.meW] at e)
 | p d =>
  rw[BT.kH] at e
  cases g:BT.aV ws with
  | none=>rw[g] at e;cases e
  | some ds =>
   rw[g] at e
   obtain ⟨b,e1,e2⟩:=aC e
   cases e2
   have rds:=rws.pure g
   cases d<;>first | exact ai e1 | skip
   rename_i xs
   cases ds with
   | nil=>exact ai e1
   | cons d0 dr =>
    cases dr with
    | cons _ _=>exact ai e1
    | nil =>
     rw[BT.D7] at e1
     split at e1
     ·rename_i c
      obtain ⟨j,e3,e4⟩:=aC e1
      subst e4
      obtain ⟨i,rfl,hi,h1,h2⟩:=kR e3
      cases rds with
      | cons r0 rn =>
       cases rn
       obtain ⟨u,rfl,ru⟩:=rus.one
       cases rx with
       | p rx =>
        obtain ⟨a,vt,rfl,ha,ra⟩:=RR.tup (.d rx)
        cases rv
        obtain ⟨its,q1,q2,_⟩:=I.tuple ha
        obtain ⟨⟨cls,dd,data,sl⟩,ho,hc,n,hd⟩:=id q2
        simp only at hc hd
        subst hc hd
        have hl:=q1.length
        have hl2:=ra.length
        have hi':i < its.toArray.size:=by rw[Nv];omega
        refine P5 F.slot_tuple_index ⟨_,ho,rfl⟩ F.entry_tuple_index (F.args_tuple_index_2 _ _)
         (lV a its.toArray n dd sl u (cU s.heap (pd d0)) i hi' ?_ ?_) ⟨ho,?_,?_⟩
        ·rw[show its.toArray[i]=its[i]'(by omega) by simp,nV I ra q1 i (by omega) hi];exact h1
        ·intro k hk hlt
         have hk':k < its.length:=by simpa using hk
         rw[show its.toArray[k]=its[k]'hk' by simp,nV I ra q1 k hk' (by omega)];exact h2 k (by omega) hlt
        ·intro y hy
         exact gS hu I (.d r0) ru ra q1 c y (by simpa using hy)
        ·refine ⟨.int (((0+i:Nat):Nat):Int),H,I.tok _,⟨s.toks,?_⟩,post.here R (.int _)⟩
         simp
     ·cases e1
end
end BS
end
section
namespace BS
open PySem PySem.Spec PyProof.Rows L2
section
variable {X:Cx}
noncomputable def rBi (P:NG) (w:N2) (K:Nl) (b:BT.Bi) (mu:Bool):List V->Hp->VK->Prop:=fun vs H Q =>
 ∃ m h ws z h',RH K m H h/\RWs P w K m H vs ws/\BT.kBi b mu ws h=some (z,h')/\Post P w K m H z h' Q
inductive RRs (K:Nl) (m:List Addr) (H:Hp):List V->List BT.D->Prop where
 | nil:RRs K m H [] []
 | cons {v:V}{d:BT.D}{vs:List V}{ds:List BT.D} (r:RR K m H v d) (t:RRs K m H vs ds):RRs K m H (v :: vs) (d :: ds)
theorem d7 {P:NG}{w:N2}{K:Nl}{m:List Addr}{H:Hp}{h:BT.HH} (R:RH K m H h):∀ {vs:List V}{ws:List BT.W}{ds:List BT.D},RWs P w K m H vs ws->BT.rds ws h=some ds->RRs K m H vs ds
 | _,_,_,.nil,e=>by cases e;exact .nil
 | _,_,_,.cons r t,e=>by
  simp only[BT.rds] at e
  obtain ⟨d,e1,e2⟩:=Option.bind_eq_some_iff.mp e
  obtain ⟨q,e3,e4⟩:=aC e2
  subst e4
  exact .cons (aF R r e1) (d7 R t e3)
theorem fX {b:BT.Bi}{mu:Bool}{ws:List BT.W}{h:BT.HH}{z:BT.W}{h':BT.HH} (e:BT.kBi b mu ws h=some (z,h')) :
 ∃ ds d,BT.rds ws h=some ds/\BT.biD b ds=some d/\((mu=false/\z=.p d/\h'=h)\/∃ xs,mu=true/\d=.lst xs/\z=.r h.length/\h'=h++[.l xs]):=by
 unfold BT.kBi at e
 cases e1:BT.rds ws h with
 | none=>rw[e1] at e;cases e
 | some ds =>
  rw[e1] at e
  simp only at e
  cases e2:BT.biD b ds with
  | none=>rw[e2] at e;cases e
  | some d =>
   rw[e2] at e
   simp only at e
   cases mu with
   | false=>cases e;exact ⟨ds,d,rfl,e2,.inl ⟨rfl,rfl,rfl⟩⟩
   | true =>
    simp only[if_true] at e
    cases d<;>simp only at e<;>try contradiction
    cases e
    exact ⟨ds,_,rfl,e2,.inr ⟨_,rfl,rfl,rfl,rfl⟩⟩
theorem RRs.one {K:Nl}{m:List Addr}{H:Hp}{vs:List V}{d:BT.D} (r:RRs K m H vs [d]):∃ v,vs=[v]/\RR K m H v d:=by
 cases r with
 | cons r t=>cases t;exact ⟨_,rfl,r⟩
theorem EE:cC X (.builtin "len") (rBi X.prog X.w X.K .len false):=by
 intro pins s σ H vs us Q I rus h
 obtain ⟨m,h,ws,z,h',R,rws,e,post⟩:=h
 obtain ⟨ds,d,e1,e2,⟨_,rfl,rfl⟩ | ⟨_,q,_⟩⟩:=fX e
 ·have rr:=d7 R rws e1
  match ds,e2 with
  | [.tup xs],e2 =>
   cases e2
   obtain ⟨v,rfl,r⟩:=rr.one
   obtain ⟨a,vt,rfl,ha,ra⟩:=r.tup
   exact iW pins s σ H _ us Q I rus ⟨a,vt,rfl,.inr ha,by rw[ra.length];exact post.here R (.int _)⟩
  | [.lst xs],e2 =>
   cases e2
   obtain ⟨v,rfl,r⟩:=rr.one
   obtain ⟨a,vt,rfl,ha,ra⟩:=r.lst
   exact iW pins s σ H _ us Q I rus ⟨a,vt,rfl,.inl ha.sq,by rw[ra.length];exact post.here R (.int _)⟩
  | [.str x],e2 =>
   rw[BT.uT] at e2
   split at e2
   ·rename_i c
    cases e2
    obtain ⟨v,rfl,r⟩:=rr.one
    obtain ⟨rfl,_⟩:=r.str
    have:=cL
    exact nv pins s σ H _ us Q I rus ⟨x,rfl,by omega,post.here R (.int _)⟩
   ·cases e2
 ·cases q
theorem EF:cC X (.builtin "abs") (rBi X.prog X.w X.K .abs false):=by
 intro pins s σ H vs us Q I rus h
 obtain ⟨m,h,ws,z,h',R,rws,e,post⟩:=h
 obtain ⟨ds,d,e1,e2,⟨_,rfl,rfl⟩ | ⟨_,q,_⟩⟩:=fX e
 ·have rr:=d7 R rws e1
  match ds,e2 with
  | [.int i],e2 =>
   cases e2
   obtain ⟨v,rfl,r⟩:=rr.one
   cases r.int
   exact wg pins s σ H _ us Q I rus ⟨i,rfl,post.here R (.int _)⟩
 ·cases q
theorem EG:cC X (.type "int") (rBi X.prog X.w X.K .int false):=by
 intro pins s σ H vs us Q I rus h
 obtain ⟨m,h,ws,z,h',R,rws,e,post⟩:=h
 obtain ⟨ds,d,e1,e2,⟨_,rfl,rfl⟩ | ⟨_,q,_⟩⟩:=fX e
 ·have rr:=d7 R rws e1
  match ds,e2 with
  | [.int i],e2 =>
   cases e2
   obtain ⟨v,rfl,r⟩:=rr.one
   cases r.int
   exact mE pins s σ H _ us Q I rus (.inl ⟨i,rfl,post.here R (.int _)⟩)
  | [.bl i],e2 =>
   cases e2
   obtain ⟨v,rfl,r⟩:=rr.one
   cases r.bl
   exact mE pins s σ H _ us Q I rus (.inr ⟨i,rfl,post.here R (.int _)⟩)
 ·cases q
theorem sH {mu:Bool}:cC X (.type "list") (rBi X.prog X.w X.K .list mu):=by
 intro pins s σ H vs us Q I rus h
 obtain ⟨m,h,ws,z,h',R,rws,e,post⟩:=h
 obtain ⟨ds,d,e1,e2,hz⟩:=fX e
 have rr:=d7 R rws e1
 have fin:∀ {p:Addr}{vt:List V}{xs:List BT.D},d=.lst xs->H p=none->RDs X.K m H vt xs->Q (.ref p) (upd H p (.lst vt)):=by
  intro p vt xs ed hp r
  rcases hz with ⟨_,rfl,rfl⟩ | ⟨ys,_,e3,rfl,rfl⟩
  ·subst ed;exact fV R hp r post
  ·rw[ed] at e3;cases e3;exact nO R hp r post
 match ds,e2 with
 | [.tup xs],e2 =>
  cases e2
  obtain ⟨v,rfl,r⟩:=rr.one
  obtain ⟨a,vt,rfl,ha,ra⟩:=r.tup
  exact iX pins s σ H _ us Q I rus ⟨a,vt,rfl,.inr ha,fun p hp=>fin rfl hp ra⟩
 | [.lst xs],e2 =>
  cases e2
  obtain ⟨v,rfl,r⟩:=rr.one
  obtain ⟨a,vt,rfl,ha,ra⟩:=r.lst
  exact iX pins s σ H _ us Q I rus ⟨a,vt,rfl,.inl ha.sq,fun p hp=>fin rfl hp ra⟩
theorem iG:∀ {xs:List BT.D}{ns:List Int},BT.intsOf xs=some ns->xs=ns.map BT.D.int
 | [],ns,h=>by cases h;rfl
 | .int i :: r,ns,h=>by
  simp only[BT.intsOf] at h
  obtain ⟨q,e1,e2⟩:=aC h
  subst e2
  rw[iG e1];rfl
 | .non :: _,_,h=>by cases h
 | .bl _ :: _,_,h=>by cases h
 | .str _ :: _,_,h=>by cases h
 | .tup _ :: _,_,h=>by cases h
 | .lst _ :: _,_,h=>by cases h
theorem fK {K:Nl}{m:List Addr}{H:Hp}:∀ {ns:List Int}{vs:List V},RDs K m H vs (ns.map BT.D.int)->vs=ns.map V.int
 | [],vs,r=>by cases r;rfl
 | n :: ns,vs,r=>by
  cases r with
  | cons r t=>cases r;rw[fK t];rfl
theorem jd {K:Nl}{m:List Addr}{H:Hp}:∀ (ns:List Int),RDs K m H (ns.map V.int) (ns.map BT.D.int)
 | []=>.nil
 | n :: ns=>.cons (.int n) (jd ns)
theorem pH:cC X (.builtin "sorted") (fun xs H Q=>∃ (a:Addr) (ns:List Int),xs=[.ref a]/\SqL X.K H a (ns.map V.int)/\ns.length < 64/\∀ (l:Addr) (ns':List Int),H l=none->ns'.Perm ns->ns'.Pairwise (·<=·)->Q (.ref l) (upd H l (.lst (ns'.map V.int)))):=by
 intro pins s σ H xs us Q I r h
 obtain ⟨a,ns,rfl,hl,h64,q⟩:=h
 obtain ⟨u,rfl,e⟩:=vals1 r
 cases e
 obtain ⟨its,rv,p,hz⟩:=I.list hl
 have hi:=intsAre_of rv
 have len:=rv.length
 rw[NP] at len
 refine sorted_ints p.isList hi (by omega) fun out ns' a1 a2 a3=>?_
 obtain ⟨e,he⟩:=sortedAll_at s.heap its out
 have hv:=gM a1
 have ln:=a2.length_eq
 refine ⟨.ref _,_,I.laid (t':=s.toks) (fun b u q=>sortedAll_old q) (Ox _) ?_,rfl,q _ ns' (I.hok.fresh (Ox _)) a2 a3⟩
 have sl:sizeLine=16777216:=Ry
 exact ⟨by rw[NP];omega,out.toList,e,hv,he⟩
theorem mS {mu:Bool}:cC X (.builtin "sorted") (rBi X.prog X.w X.K .sorted mu):=by
 intro pins s σ H vs us Q I rus h
 obtain ⟨m,h,ws,z,h',R,rws,e,post⟩:=h
 obtain ⟨ds,d,e1,e2,hz⟩:=fX e
 have rr:=d7 R rws e1
 have fin:∀ {p:Addr}{vt:List V}{xs:List BT.D},d=.lst xs->H p=none->RDs X.K m H vt xs->Q (.ref p) (upd H p (.lst vt)):=by
  intro p vt xs ed hp r
  rcases hz with ⟨_,rfl,rfl⟩ | ⟨ys,_,e3,rfl,rfl⟩
  ·subst ed;exact fV R hp r post
  ·rw[ed] at e3;cases e3;exact nO R hp r post
 match ds,e2 with
 | [.lst xs],e2 =>
  rw[BT.kI] at e2
  obtain ⟨ns,q1,q2⟩:=Option.bind_eq_some_iff.mp e2
  by_cases c:ns.length < 64
  ·rw[if_pos c] at q2
   have ed:=(NH q2).symm
   obtain ⟨v,rfl,r⟩:=rr.one
   obtain ⟨a,vt,rfl,ha,ra⟩:=r.lst
   rw[iG q1] at ra
   have ev:=fK ra
   subst ev
   refine pH pins s σ H _ us Q I rus ⟨a,ns,rfl,ha.sq,c,fun l ns' hl m1 m2=>?_⟩
   have:ns'=BT.sortI ns:=Rp (m1.trans (BT.sortI_perm ns).symm) m2 (BT.kJ ns)
   subst this
   exact fin ed hl (jd _)
  ·rw[if_neg c] at q2;cases q2
theorem xY:cC X (.type "tuple") (rBi X.prog X.w X.K .tuple false):=by
 intro pins s σ H vs us Q I rus h
 obtain ⟨m,h,ws,z,h',R,rws,e,post⟩:=h
 obtain ⟨ds,d,e1,e2,⟨_,rfl,rfl⟩ | ⟨_,q,_⟩⟩:=fX e
 ·have rr:=d7 R rws e1
  match ds,e2 with
  | [.tup xs],e2 =>
   cases e2
   obtain ⟨v,rfl,r⟩:=rr.one
   obtain ⟨a,vt,rfl,ha,ra⟩:=r.tup
   refine gX pins s σ H _ us Q I rus ⟨a,vt,rfl,.inr ⟨ha,?_⟩⟩
   cases r with
   | d r=>exact post.here R r
  | [.lst xs],e2 =>
   cases e2
   obtain ⟨v,rfl,r⟩:=rr.one
   obtain ⟨a,vt,rfl,ha,ra⟩:=r.lst
   exact gX pins s σ H _ us Q I rus ⟨a,vt,rfl,.inl ⟨ha.sq,fun p hp=>ja R hp ra post⟩⟩
 ·cases q
noncomputable def tyD:BT.D->String
 | .non=>"NoneType"
 | .bl _=>"bool"
 | .int _=>"int"
 | .str _=>"str"
 | .tup _=>"tuple"
 | .lst _=>"list"
theorem A3 {pins:List (Addr×Obj)}{σ:L2.St}{s:Nr}{H:Hp}{m:List Addr}{v:V}{u:Np}{d:BT.D}{c:String}{b:Bool}{Q:Np->Nr->Prop}{A:Oz}{E:Np->Nr->Prop}
 (I:Inv X pins σ H s) (r:RR X.K m H v d) (rv:RelV v u) (e:Qj X.K (.type (tyD d)) (.type c)=some b) (h:∀ tk,Q (.bool b) { s with toks:=tk }) :
 wpAny (NR X.prog X.w) A (call (.builtin "isinstance") [u,.type c]) Q E s:=by
 cases d with
 | non=>cases r.non;cases rv;exact Pz PySem.W.kitx_none I.kIn QS e (fun z=>nomatch z) h
 | bl y=>cases r.bl;cases rv;exact Pz PySem.W.kitx_bool I.kIn QS e (fun z=>nomatch z) h
 | int i=>cases r.int;obtain ⟨t,rfl⟩:=rv;exact Pz PySem.W.kitx_int I.kIn QS e (fun z=>nomatch z) h
 | str y=>obtain ⟨rfl,_⟩:=r.str;obtain ⟨t,rfl⟩:=rv;exact Pz PySem.W.kitx_str I.kIn QS e (fun z=>nomatch z) h
 | tup xs =>
  obtain ⟨a,vt,rfl,ha,_⟩:=r.tup
  cases rv
  obtain ⟨its,_,⟨o,h1,h2,_⟩,_⟩:=I.tuple ha
  exact Pz PySem.W.kitx_tuple I.kIn ⟨o,h1,h2⟩ e (fun z=>nomatch z) h
 | lst xs =>
  obtain ⟨a,vt,rfl,ha,_⟩:=r.lst
  cases rv
  obtain ⟨_,its,n,_,_,h1⟩:=rdL I ha
  exact Pz PySem.W.kitx_list I.kIn ⟨_,h1,rfl⟩ e (fun z=>nomatch z) h
theorem xZ (K:Nl) (t:String):Qj K (.type t) (.type t)=some true:=by
 unfold Qj
 rw[if_pos (by simp)]
theorem ya {b:BT.Bi}{c:String}{f:BT.D->Bool} (h:pF b=some (c,f)) (d:BT.D):BT.biD b [d]=some (.bl (f d)):=by
 cases b<;>simp only[pF] at h<;>try contradiction
 all_goals (cases h;rfl)
theorem yb {b:BT.Bi}{c:String}{f:BT.D->Bool} (h:pF b=some (c,f)) (K:Nl) (d:BT.D):Qj K (.type (tyD d)) (.type c)=some (f d):=by
 cases b<;>simp only[pF] at h<;>try contradiction
 all_goals (cases h;cases d)
 all_goals first
  | exact xZ K _
  | (simp only[tyD];unfold Qj;rw[if_neg (by decide)];unfold PySem.W.kitCls;first | rfl | kernel_rfl | decide +kernel)
end
end BS
end
section
namespace BS
open PySem PySem.Spec PyProof.Rows L2
noncomputable abbrev FT:=BT.FK->List BT.W->BT.HH->Option (BT.W×BT.HH)
noncomputable def spF (P:NG) (w:N2) (K:Nl) (g:List BT.W->BT.HH->Option (BT.W×BT.HH)):Sp:=fun vs H Q _ =>
 ∃ m ws h z h',RH K m H h/\RWs P w K m H vs ws/\g ws h=some (z,h')/\Post P w K m H z h' Q
noncomputable def tD (X:Cx) (F:FT) (G:Str->Option BT.W) (e:BT.E):TE:=fun σ H Q =>
 ∃ m s h z h',RH X.K m H h/\RS X.prog X.w X.K m H σ s/\BT.ev F G e s h=some (z,h')/\Post X.prog X.w X.K m H z h' Q
noncomputable def tDs (X:Cx) (F:FT) (G:Str->Option BT.W) (es:BT.Es):TA:=fun σ H Q =>
 ∃ m s h zs h',RH X.K m H h/\RS X.prog X.w X.K m H σ s/\BT.evs F G es s h=some (zs,h')/\∀ vs H' m',Ext m H m' H'->RH X.K m' H' h'->RWs X.prog X.w X.K m' H' vs zs->Q vs H'
noncomputable def tDT (X:Cx) (F:FT) (G:Str->Option BT.W) (e:BT.E):TT:=fun σ H Q =>
 ∃ m s h b h',RH X.K m H h/\RS X.prog X.w X.K m H σ s/\BT.ev F G e s h=some (.p (.bl b),h')/\∀ H' m',Ext m H m' H'->RH X.K m' H' h'->Q b H'
noncomputable def pI (P:NG) (w:N2) (K:Nl) (mg:Str->Option Np) (base:Heap) (k L:Nat) (g:List BT.W->BT.HH->Option (BT.W×BT.HH)):Prop :=
 ∀ (A:Oz) (outer:List Env) (s:Nr) (H:Hp) (f:Addr) (us:List Np) (vs cvs:List V) (m:List Addr) (ws:List BT.W) (cs:List BT.Cp) (h:BT.HH) (z:BT.W) (h':BT.HH) (Q:VK) (E:XK),bR k A->lN P w K mg base A outer s H->au vs us →
  RH K m H h->RWs P w K m H vs ws->BT.noC ws=true->gr m H f L cvs->RCs K m H cvs cs->g (ws++cs.map BT.Cp.w) h=some (z,h')->Post P w K m H z h' Q->codeAny (NR P w) A (.call (.ref f) ⟨us,[]⟩) (CR CX0 outer P w H s Q E) s
structure LX (X:Cx) (x:Str):Prop where
 mem:x∈BT.dg
 ex:∃ c P,Oi X.K x=some (c,P)/\X.env.code=.ref c/\PySem.W.CodeHd X.base c P/\∀ y∈BT.dg,∀ c2,Oi X.K y=some (c2,P)->y=x
 ql:X.env.qual=x++".<locals>."
 bm:∃ bm ob,X.mg "__builtins__"=some (.ref bm)/\bm≠Pf/\X.base.get? bm=some ob/\ob.cls=.type "module"/\ob.dict=some Pf/\ob.data=.plain
noncomputable def EI:List Str:=["len","abs","int","list","tuple","isinstance","str","bool","range","reversed","enumerate","zip","min","max","sorted","sum","all","any","set"]
structure Ok (X:Cx) (F:FT) (G:Str->Option BT.W) (sc:NO) (N:List Str):Prop where
 hsc:X.env.scope=sc
 hN:X.N=N
 nd:X.N.Nodup
 calm:X.calm=true
 hu:X.A.units+150 < cLine
 own:PassesOwn (NR X.prog X.w) X.A X.env X.xe
 glob:∀ x z,G x=some z->∃ u v,X.mg x=some u/\RelV v u/\∀ m H,RW X.prog X.w X.K m H v z
 call:∀ (f:Str) ws h r,F (.f f) ws h=some r->∃ (fa:Addr) (fd:OY) (ps:List Str) (k:Nat),X.mg f=some (.ref fa)/\OD X.K (.ref fa)=true/\Binds X.K fd ps []/\bR k X.A ∧
  fT X.prog X.w X.K X.mg X.base CX0 k fa fd ps (spF X.prog X.w X.K (F (.f f)))
 meth:∀ (c m:Str) ws h r,F (.m c m) ws h=some r->∃ (C g:Addr) (fd:OY) (ps:List Str) (k:Nat),kO X.K c C/\uJ X.K C m g/\Binds X.K fd ps []/\bR k X.A ∧
  fT X.prog X.w X.K X.mg X.base CX0 k g fd ps (spF X.prog X.w X.K (F (.m c m)))
 mkc:∀ (c:Str) ws h r,F (.m c "__init__") ws h=some r->∃ (C g:Addr) (fd:OY) (ps:List Str) (k:Nat),kO X.K c C/\X.mg c=some (.ref C)/\Mk X.K C g/\Binds X.K fd ps []/\bR (k+1) X.A ∧
  fT X.prog X.w X.K X.mg X.base CX0 k g fd ps (spF X.prog X.w X.K (F (.m c "__init__")))
 blt:∀ x∈EI,X.mg x=none
 lam:∀ (L:Nat) ws h r,F (.l L) ws h=some r->∃ k,bR k X.A/\pI X.prog X.w X.K X.mg X.base k L (F (.l L))
 lamx:(∀ x,X.fn x=true)->∀ x,N.contains (BT.b8 x)=true->LX X x
theorem PE.weak {X:Cx}{e:Nn}{t t':TE} (h:PE X e t) (q:∀ σ H Q,t' σ H Q->t σ H Q):PE X e t':=fun pins s σ H Q I hw=>h pins s σ H Q I (q _ _ _ hw)
theorem PT.weak {X:Cx}{e:Nn}{t t':TT} (h:PT X e t) (q:∀ σ H Q,t' σ H Q->t σ H Q):PT X e t':=fun pins s σ H Q I hw=>h pins s σ H Q I (q _ _ _ hw)
theorem PW.weak {X:Cx}{e:Nn}{t t':TT} (h:PW X e t) (q:∀ σ H Q,t' σ H Q->t σ H Q):PW X e t':=fun wh pins s σ H Q I hw=>h wh pins s σ H Q I (q _ _ _ hw)
theorem PA.weak {X:Cx}{es:List Nn}{t t':TA} (h:PA X es t) (q:∀ σ H Q,t' σ H Q->t σ H Q):PA X es t':=fun pos pins s σ H Q I hw=>h pos pins s σ H Q I (q _ _ _ hw)
theorem aj {e:Nn}{es:List Nn}{env:Env} (h:noStar e=true):NZ (e :: es) env=(false,eval e env) :: NZ es env:=by
 cases e<;>first | rfl | cases h
theorem yc {b:Nn} (h:jX b=true):rX b:=fun o i=>by
 cases b<;>first | rfl | cases h
theorem jZ {o:Nn}{name:Str}{env:Env} (h:aS o=true):QO o name env (eval o env)=eval o env:=by
 cases o with
 | Call fn as ks p =>
  cases fn with
  | Attribute _ _ _=>rfl
  | _=>cases h
 | _=>first | rfl | cases h
noncomputable def av:List Nn->Bool
 | []=>true
 | e :: es=>noStar e&&av es
theorem aD {pos:Pos}{env:Env}:∀ {es:List Nn},av es=true->(Po pos (NZ es env)).any (·.1)=false
 | [],_=>rfl
 | e :: es,h=>by
  simp only[av,Nt] at h
  rw[aj h.1]
  show (false||(Po pos (NZ es env)).any (·.1))=false
  rw[aD h.2];rfl
theorem je {pos:Pos}{env:Env}:∀ {es:List Nn},av es=true->(Po pos (NZ es env)).all (fun x=>!x.1)=true
 | [],_=>rfl
 | e :: es,h=>by
  simp only[av,Nt] at h
  rw[aj h.1]
  show (!false&&(Po pos (NZ es env)).all (fun x=>!x.1))=true
  rw[je h.2];rfl
theorem c6:∀ {sc:NO}{N:List Str}{as:BT.Es}{es:List Nn},CEs sc N as es->av es=true
 | _,_,_,_,.nil=>rfl
 | _,_,_,_,.cons hs _ hr=>by
  simp only[av,Nt]
  exact ⟨hs,c6 hr⟩
section
variable {X:Cx}{F:FT}{G:Str->Option BT.W}{sc:NO}{N:List Str}
theorem nW {f:BT.OpW}{e a b:BT.E} (he:∀ s h,BT.ev F G e s h=BT.bnd (BT.ev F G a s h) (BT.k2 (BT.ev F G b s) f)) (σ:L2.St) (H:Hp) (Q:VK) (q:tD X F G e σ H Q) :
 tOp (rOp X.prog X.w X.K f) (tD X F G a) (tD X F G b) σ H Q:=by
 obtain ⟨m,s,h,z,h',R,S,ee,post⟩:=q
 rw[he] at ee
 obtain ⟨x,h1,e1,e2⟩:=ak ee
 simp only[BT.k2] at e2
 obtain ⟨y,h2,e3,e4⟩:=ak e2
 refine ⟨m,s,h,x,h1,R,S,e1,fun v H1 m1 x1 R1 r1=>?_⟩
 refine ⟨m1,s,h1,y,h2,R1,S.ext x1,e3,fun u H2 m2 x2 R2 r2=>?_⟩
 exact ⟨m2,h2,x,y,z,h',R2,r1.ext x2,r2,e4,fun w' H3 m3 x3 R3 r3=>post w' H3 m3 ((x1.trans x2).trans x3) R3 r3⟩
theorem pJ {e:BT.E}{t:TE} (h:∀ σ H Q,tD X F G e σ H Q->t σ H Q) (σ:L2.St) (H:Hp) (Q:Bool->Hp->Prop) (q:tDT X F G e σ H Q):v7 t σ H Q:=by
 obtain ⟨m,s,h0,b,h',R,S,ee,post⟩:=q
 refine h σ H _ ⟨m,s,h0,_,h',R,S,ee,fun v H' m' x R' r=>?_⟩
 cases r with
 | p r=>cases r;exact ⟨b,rfl,post H' m' x R'⟩
theorem opB {o:BT.Bin}{op:Qa} (h:C7 o op=true):OpR X (OR op) (rOp X.prog X.w X.K (BT.lR o)):=by
 cases o<;>cases op<;>cases h
 ·exact Eu
 ·exact Ew
 ·exact Ez
 ·exact Ex
 ·exact AX
 ·exact Ey
theorem Dc {vs:List (Key×Np)}{k:Str}:∀ {es:List (Str×V)}{kvs:List (Str×BT.D)}{K:Nl},RDk K es kvs->KV (es.map fun q=>((Sum.inr q.1:Key),q.2)) vs->(valueAt vs (Sum.inr k)).isSome=(BT.dw k kvs).isSome:=by
 intro es
 induction es generalizing vs with
 | nil =>
  intro kvs K r q
  cases r
  cases q
  rfl
 | cons p es ih =>
  intro kvs K r q
  cases r with
  | @cons x v dd _ kvs r t =>
   cases q with
   | @cons p z l1 l2 q1 q2 =>
    obtain ⟨z1,z2⟩:=z
    obtain ⟨q11,q12⟩:=q1
    simp only at q11 q12
    subst q11
    rw[BT.dw]
    by_cases c:k=x
    ·subst c
     simp[valueAt]
    ·rw[if_neg c]
     have ne:¬ ((Sum.inr x:Key)=Sum.inr k):=fun z=>c (Sum.inr.inj z).symm
     have:=ih t q2
     simp only[valueAt] at this ⊢
     rw[SO (by simpa using ne)]
     exact this
theorem opC (O:Ok X F G sc N) {o:BT.Cm}{op:CmpOp} (h:AV o op=true):OpR X (Oh op) (rOp X.prog X.w X.K (BT.fZ o)):=by
 cases o<;>cases op<;>cases h
 ·exact Ic O.hu
 ·exact Ie O.hu
 ·exact Ig
 ·exact Ih
 ·exact Ii
 ·exact Ij
 ·exact EA
 ·exact AY
 ·refine EB O.hu ?_
  intro kvs x b m H v u v' u' pins σ s Q I rv ru rx rk e q
  cases x with
  | r n=>exact ai e
  | k q=>exact ai e
  | c _ _=>exact ai e
  | o q=>exact ai e
  | p d =>
   cases d<;>first | exact ai e | skip
   obtain rfl:=NH e
   cases rk with
   | @k a es _ kd rk =>
    cases ru
    cases rx with
    | p rx =>
     cases rx with
     | str x ok =>
      obtain ⟨t,rfl⟩:=rv
      obtain ⟨hm,vs,kv,dd⟩:=kd
      have D:=dd s.heap I.kIn
      refine wpAny_in_of (knd:=cH X.prog X.w) (f9 _ _ _ t) hm D.mapOf ?_
      rw[Dc rk kv]
      exact ⟨.bl _,H,I.tok _,rfl,q⟩
 ·refine AZ O.hu ?_
  intro kvs x b m H v u v' u' pins σ s Q I rv ru rx rk e q
  cases x with
  | r n=>exact ai e
  | k q=>exact ai e
  | c _ _=>exact ai e
  | o q=>exact ai e
  | p d =>
   cases d<;>first | exact ai e | skip
   obtain rfl:=NH e
   cases rk with
   | @k a es _ kd rk =>
    cases ru
    cases rx with
    | p rx =>
     cases rx with
     | str x ok =>
      obtain ⟨t,rfl⟩:=rv
      obtain ⟨hm,vs,kv,dd⟩:=kd
      have D:=dd s.heap I.kIn
      refine wpAny_notIn_of (knd:=cH X.prog X.w) (f9 _ _ _ t) hm D.mapOf ?_
      rw[Dc rk kv]
      exact ⟨.bl _,H,I.tok _,rfl,q⟩
end
end BS
end
section
namespace BS
open PySem PySem.Spec PyProof.Rows L2
section
variable {X:Cx}{F:FT}{G:Str->Option BT.W}{sc:NO}{N:List Str}
theorem A4 (O:Ok X F G sc N) (x:Str):X.env.kindOf x=sc.names.lookup x:=by rw[← O.hsc];rfl
theorem dB {x:Str} (h:cK x=true):(x==("__debug__":Str))=false/\(x==("__classdict__":Str))=false/\x≠"__name__":=by
 simp only[cK,Nt,PU] at h
 exact ⟨h.1.1,h.1.2,fun e=>by rw[e] at h;simp at h⟩
theorem aQ (O:Ok X F G sc N) {x:Str} (h:aL sc x=true):Gl X x:=by
 show X.env.kindOf x=_
 rw[A4 O]
 exact eq_of_beq h
theorem yd (O:Ok X F G sc N) {x:Str} (h:kN sc x=true):Vis X.env.scope x:=by
 rw[O.hsc]
 unfold kN at h
 unfold Vis
 cases e:sc.names.lookup x with
 | none=>rw[e] at h;cases h
 | some k=>rw[e] at h;cases k<;>first | (exact .inl rfl) | (exact .inr (.inl rfl)) | (exact .inr (.inr rfl)) | cases h
theorem sI (O:Ok X F G sc N) {i:Nat}{y:Str}{pos:Pos} (h2:N[i]?=some y) (h3:kN sc y=true) (h4:cK y=true):PE X (.Name y pos) (tD X F G (.var i y)):=by
 obtain ⟨d1,d2,_⟩:=dB h4
 refine PE.weak (vM (i:=i) (by rw[O.hN];exact h2) (yd O h3) d1 d2) fun σ H Q q=>?_
 obtain ⟨m,s,h,z,h',R,S,ee,post⟩:=q
 simp only[BT.ev] at ee
 split at ee
 ·rename_i w e
  cases ee
  obtain ⟨v,hv,r⟩:=S.get i _ e
  exact ⟨v,hv,post v H m (.refl _ _) R r⟩
 ·cases ee
theorem A5 {d:BT.D}{c:Const}{k:Nat}{pos:Pos} (h:C8 d c=true):PE X (.Constant c k pos) (tD X F G (.cst d)):=by
 have fin:∀ {v:V},(∀ m H,RD X.K m H v d)->∀ σ H Q,tD X F G (.cst d) σ H Q->tC v σ H Q:=fun r σ H Q q=>by
  obtain ⟨m,s,h,z,h',R,S,ee,post⟩:=q
  simp only[BT.ev] at ee
  cases ee
  exact post _ H m (.refl _ _) R (.p (r m H))
 cases d<;>cases c<;>first | (cases h;done) | skip
 ·exact PE.weak Dn (fin fun _ _=>.non)
 ·cases eq_of_beq h;exact PE.weak GF (fin fun _ _=>.bl _)
 ·cases eq_of_beq h;exact PE.weak qu (fin fun _ _=>.int _)
 ·have h:=Bool.and_eq_true_iff.mp h
  cases eq_of_beq h.1;exact PE.weak Do (fin fun _ _=>.str _ h.2)
theorem A6 (O:Ok X F G sc N) {y:Str}{pos:Pos} (h2:aL sc y=true) (h3:cK y=true):PE X (.Name y pos) (tD X F G (.glo y)):=by
 obtain ⟨d1,d2,_⟩:=dB h3
 intro pins s σ H Q I q
 obtain ⟨m,s',h,z,h',R,S,ee,post⟩:=q
 simp only[BT.ev] at ee
 obtain ⟨w,e1,e2⟩:=aC ee
 cases e2
 obtain ⟨u,v,hm,r,rw⟩:=O.glob _ _ e1
 exact rR (aQ O h2) hm r d1 pins s σ H Q I (post v H m (.refl _ _) R (rw m H))
theorem Dd {e a:BT.E}{k:BT.W->BT.HH->Option (BT.W×BT.HH)} (he:∀ s h,BT.ev F G e s h=BT.bnd (BT.ev F G a s h) k) {σ:L2.St}{H:Hp}{Q:VK} (q:tD X F G e σ H Q) {R':V->Hp->Prop}
 (h1:∀ m h x z h' v H1,RH X.K m H1 h->RW X.prog X.w X.K m H1 v x->k x h=some (z,h')->Post X.prog X.w X.K m H1 z h' Q->R' v H1):tD X F G a σ H R':=by
 obtain ⟨m,s,h,z,h',R,S,ee,post⟩:=q
 rw[he] at ee
 obtain ⟨x,g,e1,e2⟩:=ak ee
 exact ⟨m,s,h,x,g,R,S,e1,fun v H1 m1 x1 R1 r1=>h1 m1 g x z h' v H1 R1 r1 e2 fun w' H3 m3 x3 R3 r3=>post w' H3 m3 (x1.trans x3) R3 r3⟩
theorem jf {e:BT.E}{as:BT.Es}{k:List BT.W->BT.HH->Option (BT.W×BT.HH)} (he:∀ s h,BT.ev F G e s h=BT.bnd (BT.evs F G as s h) k) {σ:L2.St}{H:Hp}{Q:VK} (q:tD X F G e σ H Q) {R':List V->Hp->Prop}
 (h1:∀ m h xs z h' vs H1,RH X.K m H1 h->RWs X.prog X.w X.K m H1 vs xs->k xs h=some (z,h')->Post X.prog X.w X.K m H1 z h' Q->R' vs H1):tDs X F G as σ H R':=by
 obtain ⟨m,s,h,z,h',R,S,ee,post⟩:=q
 rw[he] at ee
 obtain ⟨x,g,e1,e2⟩:=ak ee
 exact ⟨m,s,h,x,g,R,S,e1,fun v H1 m1 x1 R1 r1=>h1 m1 g x z h' v H1 R1 r1 e2 fun w' H3 m3 x3 R3 r3=>post w' H3 m3 (x1.trans x3) R3 r3⟩
theorem ty_list {m:List Addr}{H:Hp}{h:BT.HH}{v:V}{n:Nat} (R:RH X.K m H h) (r:RW X.prog X.w X.K m H v (.r n)) (ok:BT.pC (.r n) h=true):tyV X.K "list" v H:=by
 cases r with
 | @r a _ hn =>
  obtain ⟨xs,e⟩:=Option.isSome_iff_exists.mp ok
  obtain ⟨vs,e,_⟩:=R.cell n a xs hn e
  exact .inl ⟨rfl,vs,.inl (.inl e)⟩
theorem sJ {m:BT.Me}{ea:BT.HH->Option (List BT.W×BT.HH)}{x:BT.W}{h:BT.HH}{r:BT.W×BT.HH} (e:BT.kMe m ea x h=some r):BT.pC x h=true/\BT.bnd (ea h) (BT.meW m x)=some r:=by
 unfold BT.kMe at e
 split at e
 ·rename_i c;exact ⟨c,e⟩
 ·cases e
theorem LW {m:BT.Me}{x:BT.W}{ws:List BT.W}{h:BT.HH}{z:BT.W}{h':BT.HH} (hm:m=.append\/m=.pop\/m=.extend) (e:BT.meW m x ws h=some (z,h')):∃ n,x=.r n:=by
 cases x with
 | r n=>exact ⟨n,rfl⟩
 | p d =>
  rcases hm with rfl | rfl | rfl<;>cases ws<;>rw[sG] at e<;>(split at e<;>(try cases e))<;>exact ai e
 | k q =>
  rcases hm with rfl | rfl | rfl<;>cases ws<;>(first | (cases e;done) | simp[BT.meW] at e)
 | c _ _ =>
  rcases hm with rfl | rfl | rfl<;>cases ws<;>(first | (cases e;done) | simp[BT.meW] at e)
 | o q =>
  rcases hm with rfl | rfl | rfl<;>cases ws<;>(first | (cases e;done) | simp[BT.meW] at e)
end
end BS
end
section
namespace BS
open PySem PySem.Spec PyProof.Rows L2
section
variable {F:FT}{G:Str->Option BT.W}
theorem nX {X:Cx}{e a:BT.E}{k:BT.Sl->BT.W->BT.HH->Option (BT.W×BT.HH)} (he:∀ s h,BT.ev F G e s h=BT.bnd (BT.ev F G a s h) (k s)) {σ:L2.St}{H:Hp}{Q:VK} (q:tD X F G e σ H Q) {R':V->Hp->Prop}
 (h1:∀ m s h x z h' v H1,RH X.K m H1 h->RS X.prog X.w X.K m H1 σ s->RW X.prog X.w X.K m H1 v x->k s x h=some (z,h')->Post X.prog X.w X.K m H1 z h' Q->R' v H1):tD X F G a σ H R':=by
 obtain ⟨m,s,h,z,h',R,S,ee,post⟩:=q
 rw[he] at ee
 obtain ⟨x,g,e1,e2⟩:=ak ee
 exact ⟨m,s,h,x,g,R,S,e1,fun v H1 m1 x1 R1 r1=>h1 m1 s g x z h' v H1 R1 (S.ext x1) r1 e2 fun w' H3 m3 x3 R3 r3=>post w' H3 m3 (x1.trans x3) R3 r3⟩
theorem EJ {X:Cx}{e a:BT.E}{k:BT.Sl->Bool->BT.HH->Option (BT.W×BT.HH)}{kk:BT.Sl->BT.W->BT.HH->Option (BT.W×BT.HH)} (he:∀ s h,BT.ev F G e s h=BT.bnd (BT.ev F G a s h) (kk s))
 (hk:∀ s x h r,kk s x h=some r->∃ b,x=.p (.bl b)/\k s b h=some r) {σ:L2.St}{H:Hp}{Q:VK} (q:tD X F G e σ H Q) {R':Bool->Hp->Prop}
 (h1:∀ m s h b z h' H1,RH X.K m H1 h->RS X.prog X.w X.K m H1 σ s->k s b h=some (z,h')->Post X.prog X.w X.K m H1 z h' Q->R' b H1):tDT X F G a σ H R':=by
 obtain ⟨m,s,h,z,h',R,S,ee,post⟩:=q
 rw[he] at ee
 obtain ⟨x,g,e1,e2⟩:=ak ee
 obtain ⟨b,rfl,e3⟩:=hk _ _ _ _ e2
 exact ⟨m,s,h,b,g,R,S,e1,fun H1 m1 x1 R1=>h1 m1 s g b z h' H1 R1 (S.ext x1) e3 fun w' H3 m3 x3 R3 r3=>post w' H3 m3 (x1.trans x3) R3 r3⟩
theorem jy {P:NG}{w:N2}{K:Nl}{m:List Addr}{H:Hp}{v:V}{b:Bool} (r:RW P w K m H v (.p (.bl b))):v=.bl b:=by
 cases r with | p r=>cases r;rfl
theorem sL {eb:BT.EH}{x:BT.W}{h:BT.HH}{r:BT.W×BT.HH} (e:BT.AH eb x h=some r):∃ b,x=.p (.bl b)/\(if b=true then eb h else some (.p (.bl false),h))=some r:=by
 cases x with
 | p d =>
  cases d<;>simp only[BT.AH] at e<;>try contradiction
  exact ⟨_,rfl,e⟩
 | r n=>cases e
 | k q=>cases e
 | c _ _=>cases e
 | o q=>cases e
theorem ye {eb:BT.EH}{x:BT.W}{h:BT.HH}{r:BT.W×BT.HH} (e:BT.kOr eb x h=some r):∃ b,x=.p (.bl b)/\(if b=true then some (.p (.bl true),h) else eb h)=some r:=by
 cases x with
 | p d =>
  cases d<;>simp only[BT.kOr] at e<;>try contradiction
  exact ⟨_,rfl,e⟩
 | r n=>cases e
 | k q=>cases e
 | c _ _=>cases e
 | o q=>cases e
theorem A7 {ea eb:BT.EH}{x:BT.W}{h:BT.HH}{r:BT.W×BT.HH} (e:BT.AI ea eb x h=some r):∃ b,x=.p (.bl b)/\(if b=true then ea h else eb h)=some r:=by
 cases x with
 | p d =>
  cases d<;>simp only[BT.AI] at e<;>try contradiction
  exact ⟨_,rfl,e⟩
 | r n=>cases e
 | k q=>cases e
 | c _ _=>cases e
 | o q=>cases e
theorem sM {x:BT.W}{h:BT.HH}{r:BT.W×BT.HH} (e:BT.AG x h=some r):∃ b,x=.p (.bl b)/\r=(.p (.bl (!b)),h):=by
 cases x with
 | p d =>
  cases d<;>simp only[BT.AG] at e<;>try contradiction
  cases e;exact ⟨_,rfl,rfl⟩
 | r n=>cases e
 | k q=>cases e
 | c _ _=>cases e
 | o q=>cases e
theorem A8 {x:BT.W}{h:BT.HH}{r:BT.W×BT.HH} (e:BT.AF x h=some r):∃ i,x=.p (.int i)/\r=(.p (.int (-i)),h):=by
 cases x with
 | p d =>
  cases d<;>simp only[BT.AF] at e<;>try contradiction
  cases e;exact ⟨_,rfl,rfl⟩
 | r n=>cases e
 | k q=>cases e
 | c _ _=>cases e
 | o q=>cases e
theorem sN {X:Cx}{a b:BT.E} (σ:L2.St) (H:Hp) (Q:VK) (q:tD X F G (.and a b) σ H Q):CJ (tD X F G a) (tD X F G b) σ H Q:=by
 refine nX (k:=fun s=>BT.AH (BT.ev F G b s)) (fun s h=>by simp only[BT.ev]) q fun m s h x z h' v H1 R S r e post=>?_
 obtain ⟨c,rfl,e2⟩:=sL e
 refine ⟨c,jy r,?_⟩
 cases c with
 | true=>rw[if_pos rfl] at e2 ⊢;exact ⟨m,s,h,z,h',R,S,e2,post⟩
 | false=>rw[if_neg (by decide)] at e2 ⊢;cases e2;exact post.here R (.bl _)
theorem yf {X:Cx}{a b:BT.E} (σ:L2.St) (H:Hp) (Q:VK) (q:tD X F G (.or a b) σ H Q):GI (tD X F G a) (tD X F G b) σ H Q:=by
 refine nX (k:=fun s=>BT.kOr (BT.ev F G b s)) (fun s h=>by simp only[BT.ev]) q fun m s h x z h' v H1 R S r e post=>?_
 obtain ⟨c,rfl,e2⟩:=ye e
 refine ⟨c,jy r,?_⟩
 cases c with
 | true=>rw[if_pos rfl] at e2 ⊢;cases e2;exact post.here R (.bl _)
 | false=>rw[if_neg (by decide)] at e2 ⊢;exact ⟨m,s,h,z,h',R,S,e2,post⟩
theorem sO {X:Cx}{a b:BT.E} (σ:L2.St) (H:Hp) (Q:Bool->Hp->Prop) (q:tDT X F G (.and a b) σ H Q):GG (tDT X F G a) (tDT X F G b) σ H Q:=by
 obtain ⟨m,s,h,c,h',R,S,ee,post⟩:=q
 simp only[BT.ev] at ee
 obtain ⟨x,g,e1,e2⟩:=ak ee
 obtain ⟨d,rfl,e3⟩:=sL e2
 refine ⟨m,s,h,d,g,R,S,e1,fun H1 m1 x1 R1=>?_⟩
 cases d with
 | true=>rw[if_pos rfl] at e3 ⊢;exact ⟨m1,s,g,c,h',R1,S.ext x1,e3,fun H2 m2 x2 R2=>post H2 m2 (x1.trans x2) R2⟩
 | false=>rw[if_neg (by decide)] at e3 ⊢;cases e3;exact post H1 m1 x1 R1
theorem yh {X:Cx}{a b:BT.E} (σ:L2.St) (H:Hp) (Q:Bool->Hp->Prop) (q:tDT X F G (.or a b) σ H Q):tOr (tDT X F G a) (tDT X F G b) σ H Q:=by
 obtain ⟨m,s,h,c,h',R,S,ee,post⟩:=q
 simp only[BT.ev] at ee
 obtain ⟨x,g,e1,e2⟩:=ak ee
 obtain ⟨d,rfl,e3⟩:=ye e2
 refine ⟨m,s,h,d,g,R,S,e1,fun H1 m1 x1 R1=>?_⟩
 cases d with
 | true=>rw[if_pos rfl] at e3 ⊢;cases e3;exact post H1 m1 x1 R1
 | false=>rw[if_neg (by decide)] at e3 ⊢;exact ⟨m1,s,g,c,h',R1,S.ext x1,e3,fun H2 m2 x2 R2=>post H2 m2 (x1.trans x2) R2⟩
theorem A9 {X:Cx}{a:BT.E} (σ:L2.St) (H:Hp) (Q:Bool->Hp->Prop) (q:tDT X F G (.not a) σ H Q):GH (tDT X F G a) σ H Q:=by
 obtain ⟨m,s,h,c,h',R,S,ee,post⟩:=q
 simp only[BT.ev] at ee
 obtain ⟨x,g,e1,e2⟩:=ak ee
 obtain ⟨d,rfl,e3⟩:=sM e2
 cases e3
 exact ⟨m,s,h,d,h',R,S,e1,fun H1 m1 x1 R1=>post H1 m1 x1 R1⟩
theorem Ba {X:Cx}{a:BT.E} (σ:L2.St) (H:Hp) (Q:VK) (q:tD X F G (.not a) σ H Q):CK (tD X F G a) σ H Q:=by
 refine nX (k:=fun s=>BT.AG) (fun s h=>by simp only[BT.ev]) q fun m s h x z h' v H1 R S r e post=>?_
 obtain ⟨c,rfl,e2⟩:=sM e
 cases e2
 exact ⟨c,jy r,post.here R (.bl _)⟩
theorem EK {X:Cx}{c a b:BT.E} (σ:L2.St) (H:Hp) (Q:VK) (q:tD X F G (.ite c a b) σ H Q):tIf (tDT X F G c) (tD X F G a) (tD X F G b) σ H Q:=by
 refine EJ (k:=fun s t h=>if t=true then BT.ev F G a s h else BT.ev F G b s h) (kk:=fun s=>BT.AI (BT.ev F G a s) (BT.ev F G b s)) (fun s h=>by simp only[BT.ev]) (fun s x h r e=>A7 e) q fun m s h t z h' H1 R S e post=>?_
 cases t with
 | true=>rw[if_pos rfl] at e ⊢;exact ⟨m,s,h,z,h',R,S,e,post⟩
 | false=>rw[if_neg (by decide)] at e ⊢;exact ⟨m,s,h,z,h',R,S,e,post⟩
theorem EL {X:Cx}{a:BT.E} (σ:L2.St) (H:Hp) (Q:VK) (q:tD X F G (.neg a) σ H Q):tUn (rU fun i=>.int (-i)) (tD X F G a) σ H Q:=by
 refine nX (k:=fun s=>BT.AF) (fun s h=>by simp only[BT.ev]) q fun m s h x z h' v H1 R S r e post=>?_
 obtain ⟨c,rfl,e2⟩:=A8 e
 cases e2
 cases r with | p r=>cases r;exact ⟨c,rfl,post.here R (.int _)⟩
theorem pK {X:Cx}{o o':BT.Cm}{a b c:BT.E} (σ:L2.St) (H:Hp) (Q:VK) (q:tD X F G (.chain o o' a b c) σ H Q) :
 qy (rOp X.prog X.w X.K (BT.fZ o)) (rOp X.prog X.w X.K (BT.fZ o')) (tD X F G a) (tD X F G b) (tD X F G c) σ H Q:=by
 obtain ⟨m,s,h,z,h',R,S,ee,post⟩:=q
 simp only[BT.ev] at ee
 obtain ⟨x,h1,e1,e2⟩:=ak ee
 simp only[BT.k2] at e2
 obtain ⟨y,h2,e3,e4⟩:=ak e2
 refine ⟨m,s,h,x,h1,R,S,e1,fun v H1 m1 x1 R1 r1=>?_⟩
 refine ⟨m1,s,h1,y,h2,R1,S.ext x1,e3,fun u H2 m2 x2 R2 r2=>?_⟩
 unfold BT.oCh at e4
 cases g1:BT.rd x h2 with
 | none=>rw[g1] at e4;cases e4
 | some d =>
  cases y with
  | r _=>rw[g1] at e4;cases e4
  | k _=>rw[g1] at e4;cases e4
  | c _ _=>rw[g1] at e4;cases e4
  | o _=>rw[g1] at e4;cases e4
  | p d' =>
   rw[g1] at e4
   simp only at e4
   have ho:∀ (o:BT.Cm) (x':BT.W) (hh:BT.HH) dd,BT.rd x' hh=some dd->∀ y' dd',BT.rd y' hh=some dd'->BT.fZ o x' y' hh=(BT.dO o dd dd').map fun z=>(.p (.bl z),hh):=by
    intro o x' hh dd q1 y' dd' q2
    unfold BT.fZ
    cases y' with
    | p _=>simp only[q1,q2]
    | r _=>simp only[q1,q2]
    | k _=>cases q2
    | c _ _=>cases q2
    | o _=>cases q2
   cases g3:BT.dO o d d' with
   | none=>rw[g3] at e4;cases e4
   | some t =>
    rw[g3] at e4
    refine ⟨m2,h2,x,.p d',.p (.bl t),h2,R2,r1.ext x2,r2,by rw[ho o x h2 d g1 (.p d') d' rfl,g3];rfl,fun v3 H3 m3 x3 R3 r3=>⟨t,jy r3,?_⟩⟩
    cases t with
    | false =>
     rw[if_neg (by decide)]
     cases e4
     exact post _ H3 m3 ((x1.trans x2).trans x3) R3 (.p (.bl _))
    | true =>
     rw[if_pos rfl]
     obtain ⟨w3,h3,e5,e6⟩:=ak e4
     refine ⟨m3,s,h2,w3,h3,R3,((S.ext x1).ext x2).ext x3,e5,fun v4 H4 m4 x4 R4 r4=>?_⟩
     unfold BT.Hw at e6
     cases g4:BT.rd w3 h3 with
     | none=>rw[g4] at e6;cases e6
     | some f =>
      rw[g4] at e6
      simp only at e6
      refine ⟨m4,h3,.p d',w3,z,h',R4,(r2.ext x3).ext x4,r4,by rw[ho o' (.p d') h3 d' rfl w3 f g4];exact e6,fun v5 H5 m5 x5 R5 r5=>post v5 H5 m5 ((((x1.trans x2).trans x3).trans x4).trans x5) R5 r5⟩
theorem EM {X:Cx}{a:BT.E}{lo hi:BT.Es}{tl th:TO} (hl:∀ σ H (Q:Option Int->Hp->Prop),(∃ m s h l zs h',RH X.K m H h/\RS X.prog X.w X.K m H σ s/\BT.evs F G lo s h=some (zs,h')/\(BT.aV zs).bind BT.nC=some l/\∀ H' m',Ext m H m' H'->RH X.K m' H' h'->Q l H')->tl σ H Q)
 (hh:∀ σ H (Q:Option Int->Hp->Prop),(∃ m s h l zs h',RH X.K m H h/\RS X.prog X.w X.K m H σ s/\BT.evs F G hi s h=some (zs,h')/\(BT.aV zs).bind BT.nC=some l/\∀ H' m',Ext m H m' H'->RH X.K m' H' h'->Q l H')->th σ H Q)
 (σ:L2.St) (H:Hp) (Q:VK) (q:tD X F G (.slc a lo hi) σ H Q):tSl (rSl X.prog X.w X.K) (tD X F G a) tl th σ H Q:=by
 obtain ⟨m,s,h,z,h',R,S,ee,post⟩:=q
 simp only[BT.ev] at ee
 obtain ⟨x,h1,e1,e2⟩:=ak ee
 simp only[BT.Hz] at e2
 obtain ⟨ls,h2,e3,e4⟩:=ak e2
 simp only[BT.Hy] at e4
 obtain ⟨us,h3,e5,e6⟩:=ak e4
 unfold BT.Hx at e6
 cases g1:BT.rd x h3 with
 | none=>rw[g1] at e6;cases e6
 | some d =>
  cases g2:(BT.aV ls).bind BT.nC with
  | none=>rw[g1,g2] at e6;cases e6
  | some l =>
   cases g3:(BT.aV us).bind BT.nC with
   | none=>rw[g1,g2,g3] at e6;cases e6
   | some u =>
    rw[g1,g2,g3] at e6
    simp only at e6
    obtain ⟨b,e7,e8⟩:=aC e6
    cases e8
    refine ⟨m,s,h,x,h1,R,S,e1,fun v H1 m1 x1 R1 r1=>hl σ H1 _ ⟨m1,s,h1,l,ls,h2,R1,S.ext x1,e3,g2,fun H2 m2 x2 R2=>hh σ H2 _ ⟨m2,s,h2,u,us,h',R2,(S.ext x1).ext x2,e5,g3,fun H3 m3 x3 R3=>?_⟩⟩⟩
    exact ⟨m3,h',x,d,b,R3,(r1.ext x2).ext x3,g1,e7,fun v5 H5 m5 x5 R5 r5=>post v5 H5 m5 (((x1.trans x2).trans x3).trans x5) R5 r5⟩
end
end BS
end
section
namespace BS
open PySem PySem.Spec PyProof.Rows L2
section
variable {F:FT}{G:Str->Option BT.W}
theorem sP {X:Cx}{f:Str}{as:BT.Es}{sp:Sp} (hs:sp=spF X.prog X.w X.K (F (.f f))) {σ:L2.St}{H:Hp}{Q:VK} (q:tD X F G (.call f as) σ H Q):wo sp [] E0 (tDs X F G as) σ H Q:=by
 subst hs
 refine jf (k:=fun ws h=>F (.f f) ws h) (fun s h=>by simp only[BT.ev]) q fun m h xs z h' vs H1 R r e post=>?_
 rw[Oa]
 exact ⟨m,xs,h,z,h',R,r,e,post⟩
theorem gT {X:Cx}{σ:L2.St}{H:Hp}{Q:List V->Hp->Prop} (q:tDs X F G .nil σ H Q):wm σ H Q:=by
 obtain ⟨m,s,h,zs,h',R,S,ee,post⟩:=q
 simp only[BT.evs] at ee
 cases ee
 exact post [] H m (.refl _ _) R .nil
theorem yi {X:Cx}{sc:NO}{N:List Str} (O:Ok X F G sc N) {f:Str}{as:BT.Es}{es:List Nn}{p pos:Pos} (hg:aL sc f=true) (hn:cK f=true) (hc:CEs sc N as es) (ha:PA X es (tDs X F G as)) :
 PE X (.Call (.Name f p) es [] pos) (tD X F G (.call f as)):=by
 have hst:=c6 hc
 intro pins s σ H Q I q
 have q0:=q
 obtain ⟨m,s',h,z,h',R,S,ee,post⟩:=q
 simp only[BT.ev] at ee
 obtain ⟨ws,h1,e1,e2⟩:=ak ee
 obtain ⟨fa,fd,ps,k,hm,hk,hb,hr,ok⟩:=O.call _ _ _ _ e2
 cases es with
 | nil =>
  cases as with
  | cons a r=>cases hc
  | nil=>exact (PE.weak (wB ok hr (aQ O hg) hm hk hb .nil kF (dB hn).1) (fun σ H Q z=>gT (sP (X:=X) rfl z))) pins s σ H Q I q0
 | cons e es =>
  simp only[av,Nt] at hst
  exact (PE.weak (Ag ok hr (aQ O hg) hm hk hb .nil kF ha (dB hn).1 (aj hst.1) (aD hst.2)) (fun σ H Q z=>sP rfl z)) pins s σ H Q I q0
theorem qU {X:Cx}{sc:NO}{N:List Str}{me:BT.Me}{o:BT.E}{as:BT.Es}{oe:Nn}{es:List Nn}{name:Str}{apos cpos:Pos}{T id:String} (pa:PlainAttrs T) (slot:Slot T name id)
 (hty:typeOf (.builtin id)=pure (.type "method_descriptor")) (hm:MtR X id (rMe X.prog X.w X.K me)) (hb:aS oe=true) (hl:(apos.endLine==cpos.line)=true) (hlen:es.length < 20) (ho:PE X oe (tD X F G o)) (hc:CEs sc N as es) (ha:PA X es (tDs X F G as))
 (ty:∀ (m:List Addr) (h h2:BT.HH) (H:Hp) (v:V) (x:BT.W) ws r,RH X.K m H h->RW X.prog X.w X.K m H v x->BT.pC x h=true->BT.meW me x ws h2=some r->(∃ σ s,RS X.prog X.w X.K m H σ s/\∃ h0,BT.ev F G o s h0=some (x,h))->tyV X.K T v H) :
 PE X (.Call (.Attribute oe name apos) es [] cpos) (tD X F G (.me me o as)):=by
 have hst:=c6 hc
 have key:∀ σ H Q,tD X F G (.me me o as) σ H Q->tBM X.K T (rMe X.prog X.w X.K me) (tD X F G o) (tDs X F G as) σ H Q:=by
  intro σ H Q q
  obtain ⟨m,s,h,z,h',R,S,ee,post⟩:=q
  simp only[BT.ev] at ee
  obtain ⟨x,h1,e1,e2⟩:=ak ee
  obtain ⟨ok,e2⟩:=sJ e2
  obtain ⟨ws,h2,e3,e4⟩:=ak e2
  refine ⟨m,s,h,x,h1,R,S,e1,fun v H1 m1 x1 R1 r1=>⟨ty m1 h1 h2 H1 v x ws _ R1 r1 ok e4 ⟨σ,s,S.ext x1,h,e1⟩,m1,s,h1,ws,h2,R1,S.ext x1,e3,fun vs H2 m2 x2 R2 r2=>?_⟩⟩
  exact ⟨m2,h2,x,ws,z,h',R2,r1.ext x2,r2,e4,fun v5 H5 m5 x5 R5 r5=>post v5 H5 m5 ((x1.trans x2).trans x5) R5 r5⟩
 cases es with
 | nil =>
  cases as with
  | cons a r=>cases hc
  | nil =>
   refine PE.weak (DW pa slot hty hm ho (jZ hb) hl) fun σ H Q q=>?_
   obtain ⟨m,s,h,z,h',R,S,ee,post⟩:=key σ H Q q
   exact ⟨m,s,h,z,h',R,S,ee,fun v H1 m1 x1 R1 r1=>⟨(post v H1 m1 x1 R1 r1).1,gT (post v H1 m1 x1 R1 r1).2⟩⟩
 | cons e es =>
  simp only[av,Nt] at hst
  refine PE.weak (CY pa slot hty hm ho ha (jZ hb) ?_ hl (aj hst.1) (aD hst.2)) key
  rw[je (es:=e :: es) (by simp only[av,Nt];exact hst)]
  have h30:decide ((e :: es).length+([]:List RE).length+(if ([]:List RE).isEmpty then 0 else 1) < 30)=true:=decide_eq_true (by
   simp only[NS,Ow,List.isEmpty_nil,if_true] at hlen ⊢;omega)
  rw[h30];rfl
theorem gA {X:Cx}{b:BT.Bi}{mu:Bool}{as:BT.Es}{σ:L2.St}{H:Hp}{Q:VK} (q:tD X F G (.bi b mu as) σ H Q):tCB (rBi X.prog X.w X.K b mu) (tDs X F G as) σ H Q:=by
 refine jf (k:=fun ws h=>BT.kBi b mu ws h) (fun s h=>by simp only[BT.ev]) q fun m h xs z h' vs H1 R r e post=>?_
 exact ⟨m,h,xs,z,h',R,r,e,post⟩
theorem EN {X:Cx}{sc:NO}{N:List Str} (O:Ok X F G sc N) {b:BT.Bi}{mu:Bool}{as:BT.Es}{x:Str}{e:Nn}{es:List Nn}{p pos:Pos} (hb:C9 b mu x=true) (hg:aL sc x=true) (hst:av (e :: es)=true) (ha:PA X (e :: es) (tDs X F G as)) :
 PE X (.Call (.Name x p) (e :: es) [] pos) (tD X F G (.bi b mu as)):=by
 simp only[av,Nt] at hst
 have hx:xH b mu=some x:=eq_of_beq hb
 have hB:=O.blt
 cases b<;>cases mu<;>first | (cases hx;done) | (change some _=some _ at hx)
 all_goals (cases hx)
 ·exact PE.weak (dY EE (aQ O hg) (hB _ (by decide)) PySem.boot_len ha (by decide) (by decide) (aj hst.1) (aD hst.2)) (fun σ H Q z=>gA z)
 ·exact PE.weak (dY EF (aQ O hg) (hB _ (by decide)) (by decide +kernel) ha (by decide) (by decide) (aj hst.1) (aD hst.2)) (fun σ H Q z=>gA z)
 ·exact PE.weak (gK EG (aQ O hg) (hB _ (by decide)) (by decide +kernel) ha (by decide) (by decide) (aj hst.1) (aD hst.2)) (fun σ H Q z=>gA z)
 ·exact PE.weak (gK sH (aQ O hg) (hB _ (by decide)) (by decide +kernel) ha (by decide) (by decide) (aj hst.1) (aD hst.2)) (fun σ H Q z=>gA z)
 ·exact PE.weak (gK sH (aQ O hg) (hB _ (by decide)) (by decide +kernel) ha (by decide) (by decide) (aj hst.1) (aD hst.2)) (fun σ H Q z=>gA z)
 ·exact PE.weak (gK xY (aQ O hg) (hB _ (by decide)) (by decide +kernel) ha (by decide) (by decide) (aj hst.1) (aD hst.2)) (fun σ H Q z=>gA z)
 ·exact PE.weak (dY mS (aQ O hg) (hB _ (by decide +kernel)) (by decide +kernel) ha (by decide) (by decide) (aj hst.1) (aD hst.2)) (fun σ H Q z=>gA z)
 ·exact PE.weak (dY mS (aQ O hg) (hB _ (by decide +kernel)) (by decide +kernel) ha (by decide) (by decide) (aj hst.1) (aD hst.2)) (fun σ H Q z=>gA z)
theorem ve {X:Cx}{c:String}{f:BT.D->Bool}{b:BT.Bi} (hb:pF b=some (c,f)):cC X (.builtin "isinstance") (fun vs H Q=>∃ v,vs=[v,.ty c]/\rBi X.prog X.w X.K b false [v] H Q):=by
 intro pins s σ H vs us Q I rus h
 obtain ⟨v,rfl,m,h,ws,z,h',R,rws,e,post⟩:=h
 obtain ⟨u,u2,rfl,ru,ru2⟩:=rus.two
 cases ru2
 obtain ⟨ds,d,e1,e2,⟨_,rfl,rfl⟩ | ⟨_,q,_⟩⟩:=fX e
 ·have rr:=d7 R rws e1
  cases rr with
  | cons r t =>
   cases t
   rw[ya hb] at e2
   cases e2
   exact A3 I r ru (yb hb X.K _) fun tk=>⟨.bl _,H,I.tok tk,rfl,post.here R (.bl _)⟩
 ·cases q
theorem yj {X:Cx}{sc:NO}{N:List Str} (O:Ok X F G sc N) {b:BT.Bi}{c:String}{f:BT.D->Bool}{a:BT.E}{e:Nn}{p p2 pos:Pos} (hb:pF b=some (c,f)) (hg:aL sc "isinstance"=true) (hg2:aL sc (NN c)=true) (hst:noStar e=true) (ha:PE X e (tD X F G a)) :
 PE X (.Call (.Name "isinstance" p) [e,.Name (NN c) p2] [] pos) (tD X F G (.bi b false (.cons a .nil))):=by
 have hB:=O.blt
 have hc:PE X (.Name (NN c) p2) (tC (.ty c)):=by
  cases b<;>simp only[pF] at hb<;>try contradiction
  all_goals (cases hb)
  ·exact iR (aQ O hg2) (hB _ (by decide)) (u:=.type "int") (by decide +kernel) rfl (by decide) (by decide)
  ·exact iR (aQ O hg2) (hB _ (by decide)) (u:=.type "bool") (by decide +kernel) rfl (by decide) (by decide)
  ·exact iR (aQ O hg2) (hB _ (by decide)) (u:=.type "str") (by decide +kernel) rfl (by decide) (by decide)
  ·exact iR (aQ O hg2) (hB _ (by decide)) (u:=.type "tuple") (by decide +kernel) rfl (by decide) (by decide)
  ·exact iR (aQ O hg2) (hB _ (by decide)) (u:=.type "list") (by decide +kernel) rfl (by decide) (by decide)
 refine PE.weak (dY (ve hb) (aQ O hg) (hB _ (by decide)) (by decide +kernel) (gJ ha (gJ hc nk) (aj hst)) (by decide) (by decide) (aj hst) rfl) fun σ H Q q=>?_
 obtain ⟨m,s,h,z,h',R,S,ee,post⟩:=q
 simp only[BT.ev,BT.evs] at ee
 obtain ⟨ws,h1,e1,e2⟩:=ak ee
 obtain ⟨x,h2,e3,e4⟩:=ak e1
 simp only[BT.kM,BT.bg,BT.iA] at e4
 cases e4
 refine ⟨m,s,h,x,h1,R,S,e3,fun v H1 m1 x1 R1 r1=>?_⟩
 exact ⟨v,rfl,m1,h1,[x],z,h',R1,.cons r1 .nil,e2,fun v5 H5 m5 x5 R5 r5=>post v5 H5 m5 (x1.trans x5) R5 r5⟩
theorem EO {X:Cx}{as:BT.Es} (σ:L2.St) (H:Hp) (Q:VK) (q:tD X F G (.tup as) σ H Q):G2 (tDs X F G as) σ H Q:=by
 refine jf (k:=fun ws h=>BT.Eg ws h) (fun s h=>by simp only[BT.ev]) q fun m h xs z h' vs H1 R r e post=>?_
 unfold BT.Eg at e
 cases g:BT.aV xs with
 | none=>rw[g] at e;cases e
 | some ds =>
  rw[g] at e
  simp only at e
  split at e
  ·rename_i c
   cases e
   have rd:=r.pure g
   have:=cL
   have hl:=rd.length
   exact ⟨by omega,fun p hp=>ja R hp rd post⟩
  ·cases e
theorem ER {X:Cx}{mu:Bool}{as:BT.Es} (σ:L2.St) (H:Hp) (Q:VK) (q:tD X F G (.lst mu as) σ H Q):G3 (tDs X F G as) σ H Q:=by
 refine jf (k:=fun ws h=>BT.Eh mu ws h) (fun s h=>by simp only[BT.ev]) q fun m h xs z h' vs H1 R r e post=>?_
 unfold BT.Eh at e
 cases g:BT.aV xs with
 | none=>rw[g] at e;cases e
 | some ds =>
  rw[g] at e
  simp only at e
  split at e
  ·rename_i c
   have rd:=r.pure g
   have:=cL
   have hl:=rd.length
   have ez:BT.new mu ds h=(z,h'):=NH e
   exact ⟨by omega,fun p hp=>jY (mu:=mu) R hp rd (by rw[ez];exact post)⟩
  ·cases e
theorem cons_of {X:Cx}{a:BT.E}{as:BT.Es} (σ:L2.St) (H:Hp) (Q:List V->Hp->Prop) (q:tDs X F G (.cons a as) σ H Q):CV (tD X F G a) (tDs X F G as) σ H Q:=by
 obtain ⟨m,s,h,zs,h',R,S,ee,post⟩:=q
 simp only[BT.evs] at ee
 obtain ⟨x,h1,e1,e2⟩:=ak ee
 simp only[BT.kM] at e2
 obtain ⟨xs,h2,e3,e4⟩:=ak e2
 simp only[BT.iA] at e4
 cases e4
 exact ⟨m,s,h,x,h1,R,S,e1,fun v H1 m1 x1 R1 r1=>⟨m1,s,h1,xs,h',R1,S.ext x1,e3,fun vs H2 m2 x2 R2 r2=>post _ H2 m2 (x1.trans x2) R2 (.cons (r1.ext x2) r2)⟩⟩
end
end BS
end
section
namespace BS
open PySem PySem.Spec PyProof.Rows L2
section
variable {K:Nl}{m:List Addr}{H:Hp}
theorem RFs.get {f:Str}{x:BT.W}:∀ {vs:List (Str×V)}{fs:List (Str×BT.W)},RFs K m H vs fs->BT.bf f fs=some x->∃ v,vs.lookup f=some v/\RA K m H v x
 | _,_,.nil,e=>by cases e
 | _,_,.cons (f:=g) r t,e=>by
  rw[BT.mL] at e
  by_cases c:f=g
  ·rw[if_pos c] at e;cases e;subst c;exact ⟨_,by simp,r⟩
  ·rw[if_neg c] at e
   obtain ⟨v,h1,h2⟩:=RFs.get t e
   exact ⟨v,by rw[OV];rw[beq_false_of_ne c];exact h1,h2⟩
theorem RFs.none {f:Str}:∀ {vs:List (Str×V)}{fs:List (Str×BT.W)},RFs K m H vs fs->(BT.bf f fs).isNone=true->vs.lookup f=none
 | _,_,.nil,_=>rfl
 | _,_,.cons (f:=g) r t,e=>by
  rw[BT.mL] at e
  by_cases c:f=g
  ·rw[if_pos c] at e;cases e
  ·rw[if_neg c] at e
   rw[OV,beq_false_of_ne c]
   exact RFs.none t e
theorem RFs.put {f:Str}{v:V}{x:BT.W} (q:RA K m H v x):∀ {vs:List (Str×V)}{fs:List (Str×BT.W)},RFs K m H vs fs->RFs K m H (L2.br f v vs) (BT.br f x fs)
 | _,_,.nil=>.cons q .nil
 | _,_,.cons (f:=g) r t=>by
  rw[L2.br,BT.uV]
  by_cases c:f=g
  ·rw[if_pos c,if_pos c.symm];subst c;exact .cons q t
  ·rw[if_neg c,if_neg (Os c)];exact .cons r (RFs.put q t)
theorem RFs.length:∀ {vs:List (Str×V)}{fs:List (Str×BT.W)},RFs K m H vs fs->vs.length=fs.length
 | _,_,.nil=>rfl
 | _,_,.cons _ t=>by rw[NS,NS,RFs.length t]
end
section
variable {F:FT}{G:Str->Option BT.W}
theorem Bb {f:Str}{x:BT.W}{h:BT.HH}{r:BT.W×BT.HH} (e:BT.AJ f x h=some r):∃ n c fs w,x=.o n/\BT.oat h n=some (c,fs)/\BT.bf f fs=some w/\r=(w,h):=by
 cases x with
 | o n =>
  rw[BT.Ej] at e
  cases g:BT.oat h n with
  | none=>rw[g] at e;cases e
  | some q =>
   obtain ⟨c,fs⟩:=q
   rw[g] at e
   obtain ⟨w,e1,e2⟩:=aC e
   exact ⟨n,c,fs,w,rfl,g,e1,e2.symm⟩
 | p d=>cases e
 | r n=>cases e
 | k q=>cases e
 | c _ _=>cases e
theorem Bc {X:Cx}{sc:NO}{N:List Str}{a:BT.E}{f:Str}{x:Nn}{p:Pos} (hb:aS x=true) (hf:attrName f=true) (ha:PE X x (tD X F G a)):PE X (.Attribute x f p) (tD X F G (.fld a f)):=by
 refine PE.weak (DM ha (jZ hb)) fun σ H Q q=>?_
 refine Dd (k:=BT.AJ f) (fun s h=>by simp only[BT.ev]) q fun m h x z h' v H1 R r e post=>?_
 obtain ⟨n,c,fs,w,rfl,e1,e2,e3⟩:=Bb e
 cases e3
 cases r with
 | o hn =>
  obtain ⟨C,dx,vs,h1,h2,h3⟩:=R.mQ _ _ _ _ hn e1
  obtain ⟨u,l,ra⟩:=h3.get e2
  exact ⟨_,C,dx,vs,u,rfl,h1,h2.cls,h2.no f hf,l,post u H1 m (.refl _ _) R ra.rw⟩
theorem jz {o:Nn}{m:Str}{apos pos:Pos}{args:List Nn}{env:Env} (hb:aS o=true) (hst:av args=true) (hlen:args.length < 20) (hl:(apos.endLine==pos.line)=true) :
 eval (.Call (.Attribute o m apos) args [] pos) env=(do
  let ov ← eval o env
  standAt apos.atName
  let (f,first) ← holding [ov] (RM ov m (do return (← importBound o env).getD true))
  callWith pos f first (Po pos (NZ args env)) (Rk pos (P1 [] env))):=by
 have hf:methodCallForm (args.length+([]:List RE).length) (Po pos (NZ args env)) (Rk pos (P1 [] env))=true:=by
  unfold methodCallForm
  have h30:decide (args.length+([]:List RE).length+(if (Rk pos (P1 [] env)).isEmpty then 0 else 1) < 30)=true:=decide_eq_true (by
   show args.length+0+0 < 30
   omega)
  rw[h30,je hst];rfl
 rw[arm_eval_Call,jZ hb]
 unfold methodCall
 rw[hf]
 have hp:methodCallPos true o env apos pos=pure pos:=by
  unfold methodCallPos
  rw[hl];rfl
 rw[hp]
 rfl
theorem yk {m:Str}{ea:BT.HH->Option (List BT.W×BT.HH)}{x:BT.W}{h:BT.HH}{r:BT.W×BT.HH} (e:BT.xo F m ea x h=some r) :
 ∃ n c fs ws g,x=.o n/\BT.oat h n=some (c,fs)/\(BT.bf m fs).isNone=true/\ea h=some (ws,g)/\F (.m c m) (.o n :: ws) g=some r:=by
 cases x with
 | o n =>
  rw[BT.AK] at e
  cases g:BT.oat h n with
  | none=>rw[g] at e;cases e
  | some q =>
   obtain ⟨c,fs⟩:=q
   rw[g] at e
   simp only at e
   split at e
   ·rename_i c1
    obtain ⟨ws,g2,e1,e2⟩:=ak e
    exact ⟨n,c,fs,ws,g2,rfl,g,c1,e1,e2⟩
   ·cases e
 | p d=>cases e
 | r n=>cases e
 | k q=>cases e
 | c _ _=>cases e
theorem yl {X:Cx}{sc:NO}{N:List Str} (O:Ok X F G sc N) {o:BT.E}{m:Str}{as:BT.Es}{oe:Nn}{apos cpos:Pos}{es:List Nn} (hb:aS oe=true) (hl:(apos.endLine==cpos.line)=true) (hlen:es.length < 20) (ho:PE X oe (tD X F G o)) (hc:CEs sc N as es) (ha:PA X es (tDs X F G as)) :
 PE X (.Call (.Attribute oe m apos) es [] cpos) (tD X F G (.meth o m as)):=by
 have hst:=c6 hc
 intro pins s σ H Q I q
 obtain ⟨m0,s',h,z,h',R,S,ee,post⟩:=q
 simp only[BT.ev] at ee
 obtain ⟨x,h1,e1,e2⟩:=ak ee
 obtain ⟨n,c,fs,ws,g,rfl,e3,e4,e5,e6⟩:=yk e2
 obtain ⟨C,ga,fd,ps,k,hC,hM,hB,hR,ok⟩:=O.meth _ _ _ _ _ e6
 have key:wu C m (spF X.prog X.w X.K (F (.m c m))) [] E0 (tD X F G o) (tDs X F G as) σ H Q:=by
  refine ⟨m0,s',h,.o n,h1,R,S,e1,fun v H1 m1 x1 R1 r1=>?_⟩
  cases r1 with
  | @o a _ hn =>
   obtain ⟨C',dx,vs,q1,q2,q3⟩:=R1.mQ _ _ _ _ hn e3
   cases q2.cn.inj hC.cn
   refine ⟨a,dx,vs,rfl,q1,q3.none e4,m1,s',h1,ws,g,R1,S.ext x1,e5,fun us H2 m2 x2 R2 r2=>?_⟩
   show spF X.prog X.w X.K (F (.m c m)) (V.ref a :: (us++[])) H2 Q E0
   rw[Oa]
   exact ⟨m2,.o n :: ws,g,z,h',R2,.cons (.o (x2.ix hn)) r2,e6,fun v5 H5 m5 x5 R5 r5=>post v5 H5 m5 ((x1.trans x2).trans x5) R5 r5⟩
 cases es with
 | nil =>
  cases as with
  | cons a r=>cases hc
  | nil =>
   refine wC ho hC.cls hM ok hR hB .nil kF (jz hb hst hlen hl) pins s σ H Q I ?_
   obtain ⟨m,s,h,z,h',R,S,ee,post⟩:=key
   refine ⟨m,s,h,z,h',R,S,ee,fun v H1 m1 x1 R1 r1=>?_⟩
   obtain ⟨a,dx,fs,q1,q2,q3,q4⟩:=post v H1 m1 x1 R1 r1
   exact ⟨a,dx,fs,q1,q2,q3,gT q4⟩
 | cons e es =>
  have hst':=hst
  simp only[av,Nt] at hst'
  exact Ah ho hC.cls hM ok hR hB .nil kF ha (aj hst'.1) (aD hst'.2) (jz hb hst hlen hl) pins s σ H Q I key
theorem ym {X:Cx}{sc:NO}{N:List Str} (O:Ok X F G sc N) {c:Str}{as:BT.Es}{es:List Nn}{p pos:Pos} (hg:aL sc c=true) (hn:cK c=true) (hc:CEs sc N as es) (ha:PA X es (tDs X F G as)) :
 PE X (.Call (.Name c p) es [] pos) (tD X F G (.make c as)):=by
 have hst:=c6 hc
 intro pins s σ H Q I q
 obtain ⟨m0,s',h,z,h',R,S,ee,post⟩:=q
 simp only[BT.ev] at ee
 obtain ⟨ws,h1,e1,e2⟩:=ak ee
 rw[BT.xq] at e2
 obtain ⟨y,h2,e3,e4⟩:=ak e2
 have e5:y=.p .non/\(z,h')=(.o h1.length,h2):=by
  cases y with
  | p d=>cases d<;>simp[BT.sA] at e4;exact ⟨rfl,by rw[e4.1,e4.2]⟩
  | r n=>cases e4
  | k q=>cases e4
  | c _ _=>cases e4
  | o n=>cases e4
 obtain ⟨rfl,e5⟩:=e5
 cases e5
 obtain ⟨C,ga,fd,ps,k,hC,hmg,hM,hB,hR,ok⟩:=O.mkc _ _ _ _ e3
 have key:wA C (spF X.prog X.w X.K (F (.m c "__init__"))) [] E0 (tDs X F G as) σ H Q:=by
  refine ⟨m0,s',h,ws,h1,R,S,e1,fun us H1 m1 x1 R1 r1 x dx nx ndx ne=>?_⟩
  rw[Oa]
  have xa:Ext m1 H1 m1 (upd H1 dx (.own x)):=fk ndx
  have Ra:RH X.K m1 (upd H1 dx (.own x)) h1:=R1.new ndx
  have nx':upd H1 dx (.own x) x=none:=by rw[ao (Os ne)];exact nx
  have xb:Ext m1 (upd H1 dx (.own x)) (m1++[x]) (upd (upd H1 dx (.own x)) x (.ins C dx [])):=i8 nx'
  have Rb:RH X.K (m1++[x]) (upd (upd H1 dx (.own x)) x (.ins C dx [])) (h1++[.o c []]):=Ra.Ib nx' ⟨C,dx,[],aB,hC,.nil⟩
  have ix:(m1++[x])[h1.length]?=some x:=by rw[← R1.len];simp
  refine ⟨m1++[x],.o h1.length :: ws,h1++[.o c []],.p .non,h',Rb,.cons (.o ix) (r1.ext (xa.trans xb)),e3,fun v H2 m2 x2 R2 r2=>?_⟩
  cases r2 with
  | p r2 =>
   cases r2
   exact ⟨rfl,post _ H2 m2 (((x1.trans xa).trans xb).trans x2) R2 (.o (x2.ix ix))⟩
 cases es with
 | nil =>
  cases as with
  | cons a r=>cases hc
  | nil =>
   refine wD hM ok hR (aQ O hg) hmg hB .nil kF (dB hn).1 pins s σ H Q I ?_
   exact gT key
 | cons e es =>
  simp only[av,Nt] at hst
  exact Ai hM ok hR (aQ O hg) hmg hB .nil kF ha (dB hn).1 (aj hst.1) (aD hst.2) pins s σ H Q I key
noncomputable def ES (o:BT.Bin):TIp:=fun x y H Q=>∃ i j z,x=.int i/\y=.int j/\BT.kG o (.int i) (.int j)=some (.int z)/\Q (.int z) H
noncomputable def yo:BT.Bin->Qa->Bool
 | .add,.Add=>true
 | .sub,.Sub=>true
 | .mul,.Mult=>true
 | _,_=>false
theorem sQ {X:Cx}{o:BT.Bin}{op:Qa} (h:yo o op=true):PIp X op (ES o):=by
 rintro pins s σ H x y u v Q I rx ry ⟨i,j,z,rfl,rfl,e,q⟩
 obtain ⟨t,rfl⟩:=(show ∃ t,u=Qt i t from rx)
 obtain ⟨t',rfl⟩:=(show ∃ t',v=Qt j t' from ry)
 cases o<;>cases op<;>cases h
 ·cases e;exact PyProof.Rows.iadd_int ⟨.int (i+j),H,I.tok _,⟨_,rfl⟩,q⟩
 ·cases e;exact PyProof.Rows.isub_int ⟨.int (i - j),H,I.tok _,⟨_,rfl⟩,q⟩
 ·rw[BT.pq] at e
  split at e
  ·rename_i c
   cases e
   have hc:z9 i j:=by
    rcases Pn _ _ ▸ c with c | c
    ·exact .inl (nR c)
    ·exact .inr (nR c)
   exact PyProof.Rows.imul_int ⟨.int (i*j),H,I.tok _,⟨_,rfl⟩,q⟩ hc.ok
  ·cases e
theorem sR {o:BT.Bin}{d e z:BT.D} (h:BT.kG o d e=some z):∃ i j k,d=.int i/\e=.int j/\z=.int k:=by
 cases d with
 | int i =>
  cases e with
  | int j =>
   refine ⟨i,j,?_⟩
   cases o with
   | add=>exact ⟨_,rfl,rfl,(NH h).symm⟩
   | sub=>exact ⟨_,rfl,rfl,(NH h).symm⟩
   | mul =>
    rw[BT.pq] at h
    split at h
    ·exact ⟨_,rfl,rfl,(NH h).symm⟩
    ·cases h
   | _=>exact ai h
  | _=>cases o<;>exact ai h
 | _=>cases o<;>exact ai h
end
end BS
end
section
namespace BS
open PySem PySem.Spec PyProof.Rows L2
section
variable {K:Nl}{m:List Addr}{H:Hp}
theorem RDs.pick {vs:List V}{ds:List BT.D} (r:RDs K m H vs ds):∀ l:List Nat,RDs K m H (l.filterMap fun i=>vs[i]?) (l.filterMap fun i=>ds[i]?)
 | []=>.nil
 | i :: l=>by
  rw[N3,N3]
  cases g:ds[i]? with
  | none =>
   have:vs[i]?=none:=by
    have h:=r.length
    rw[Sq] at g ⊢
    omega
   rw[this]
   exact RDs.pick r l
  | some d =>
   obtain ⟨v,e,q⟩:=r.get g
   rw[e]
   exact .cons q (RDs.pick r l)
end
theorem jA {vs:List V}{us:List Np} (r:au vs us):∀ l:List Nat,au (l.filterMap fun i=>vs[i]?) (l.filterMap fun i=>us[i]?)
 | []=>.nil
 | i :: l=>by
  rw[N3,N3]
  cases g:vs[i]? with
  | none =>
   have:us[i]?=none:=by
    have h:=r.length
    rw[Sq] at g ⊢
    omega
   rw[this]
   exact jA r l
  | some d =>
   obtain ⟨v,e,q⟩:=r.get g
   rw[e]
   exact .cons q (jA r l)
noncomputable def pL (k:Int) (xs:List V):List V:=(Rj (N4 none none (some k) xs.length).1 (N4 none none (some k) xs.length).2.1 (N4 none none (some k) xs.length).2.2).filterMap fun i=>xs[i]?
section
variable {F:FT}{G:Str->Option BT.W}
theorem ET {X:Cx}{e se:Nn}{te:TE}{k:Int}{p2 pos:Pos} (hk:k≠0) (he:PE X e te) (hs:PE X se (tC (.int k))) :
 PE X (.Subscript e (.Slice none none (some se) p2) pos) (fun σ H Q=>te σ H fun x H1=>∃ a xs,x=.ref a/\SqL X.K H1 a xs/\∀ p,H1 p=none->Q (.ref p) (upd H1 p (.lst (pL k xs)))):=by
 intro pins s σ H Q I h
 refine Subscript_ (thn (he pins s σ H _ I h) fun v s1 ⟨x,H1,I1,r1,a,xs,ex,hx,q⟩=>?_)
 subst ex
 cases r1
 refine wpAny_Slice ?_
 rw[Tz]
 refine wpAny_pure (wpAny_pure ?_)
 rw[evalPart_some]
 refine thn (hs pins s1 σ H1 (fun v H'=>v=.int k/\H'=H1) I1 ⟨rfl,rfl⟩) fun vs s3 ⟨y,H3,I3,r3,hy,hh⟩=>?_
 subst hy hh
 obtain ⟨t,rfl⟩:=r3
 have I4:Inv X pins σ H3 { s3 with heap:=s3.heap.push { cls:=.type "slice",data:=.fields #[.none,.none,.int k t] } }:=I3.kept (t':=s3.toks) fun b ob q=>Nq _ q
 obtain ⟨its,rv,p,hz⟩:=I4.list hx
 have hg:wpAny (NR X.prog X.w) X.A (R8 (.ref a) (.ref s3.heap.objs.size)) (EP X pins σ Q) X.xe { s3 with heap:=s3.heap.push { cls:=.type "slice",data:=.fields #[.none,.none,.int k t] } }:=by
  have hlen:=rv.length
  refine Tg p.isList (RQ ..) .none .none (.int k t) (by intro z;exact hk (NH z)) ?_ (by rw[Nv];omega)
  have hp:slicePick its.toArray none none (some k)=((Rj (N4 none none (some k) xs.length).1 (N4 none none (some k) xs.length).2.1 (N4 none none (some k) xs.length).2.2).filterMap fun i=>its[i]?).toArray:=by
   unfold slicePick
   rw[Nv,← hlen]
   simp
  rw[hp]
  have hq:=jA rv (Rj (N4 none none (some k) xs.length).1 (N4 none none (some k) xs.length).2.1 (N4 none none (some k) xs.length).2.2)
  have hz':(pL k xs).length<=xs.length:=by
   have:=slicePick_size_le its.toArray none none (some k)
   rw[hp,Nv,Nv] at this
   have e:=hq.length
   unfold pL
   omega
  refine ⟨.ref (s3.heap.push { cls:=.type "slice",data:=.fields #[.none,.none,.int k t] }).objs.size,_,I4.laid (t':=s3.toks) (o:=.lst (pL k xs)) (fun b ob q=>Nq _ q) (Nu _) ?_,rfl,q _ (I4.hok.fresh (Nu _))⟩
  exact ⟨by omega,_,0,hq,Nz _ rfl⟩
 show wpAny (NR X.prog X.w) X.A (Tv e (.Slice none none (some se) p2) (.ref a) (.ref s3.heap.objs.size)) (EP X pins σ Q) X.xe { s3 with heap:=s3.heap.push { cls:=.type "slice",data:=.fields #[.none,.none,.int k t] } }
 exact tail_any (ops:=[.ref a,.ref s3.heap.objs.size]) p.isList.typeIs slot_list_getitem.lookup hg (by with_unfolding_all rfl)
theorem sS {e:Nn}{k:Int} (h:(AW e).bind cInt=some k):∃ a b,e=.Constant (.int k) a b:=by
 cases e with
 | Constant c a b =>
  cases c with
  | int j=>cases h;exact ⟨a,b,rfl⟩
  | _=>exact absurd (show (none:Option Int)=some _ from h) (fun z=>nomatch z)
 | _=>exact absurd (show (none:Option Int)=some _ from h) (fun z=>nomatch z)
theorem yp {k:Int}{e:Nn} (h:nM k e=true):(∃ a b,e=.Constant (.int k) a b/\0 < k)\/∃ j a b p,e=.UnaryOp .USub (.Constant (.int j) a b) p/\k=-j/\0 < j:=by
 unfold nM at h
 rw[Pn,Nt,Nt,decide_eq_true_eq,decide_eq_true_eq] at h
 rcases h with ⟨h1,h2⟩ | ⟨h1,h2⟩
 ·obtain ⟨a,b,e1⟩:=sS (eq_of_beq h1)
  exact .inl ⟨a,b,e1,h2⟩
 ·have h1:=eq_of_beq h1
  cases e with
  | UnaryOp o e p =>
   by_cases c:o=.USub
   ·subst c
    have h3:(AW e).bind cInt=some (-k):=h1
    obtain ⟨a,b,rfl⟩:=sS h3
    exact .inr ⟨-k,a,b,p,rfl,by omega,by omega⟩
   ·have:unE (.UnaryOp o e p)=none:=if_neg c
    rw[this] at h1
    cases h1
  | _=>exact absurd (show (none:Option Int)=some _ from h1) (fun z=>nomatch z)
theorem Bd {X:Cx}{a:BT.E}{mu:Bool}{k:Int}{x se:Nn}{p2 p:Pos} (hk:nM k se=true) (ha:PE X x (tD X F G a)):PE X (.Subscript x (.Slice none none (some se) p2) p) (tD X F G (.stp mu k a)):=by
 have hs:k≠0/\PE X se (tC (.int k)):=by
  rcases yp hk with ⟨a,b,rfl,h⟩ | ⟨j,a,b,p,rfl,rfl,h⟩
  ·exact ⟨by omega,qu⟩
  ·exact ⟨by omega,PE.weak (CQ vY qu) fun σ H Q q=>⟨_,rfl,q⟩⟩
 refine PE.weak (ET hs.1 ha hs.2) fun σ H Q q=>?_
 refine Dd (k:=BT.Ei mu k) (fun s h=>by simp only[BT.ev]) q fun m h x z h' v H1 R r e post=>?_
 unfold BT.Ei at e
 cases g:BT.rd x h with
 | none=>rw[g] at e;cases e
 | some d =>
  rw[g] at e
  cases d with
  | lst xs =>
   simp only at e
   have r1:=aF R r g
   obtain ⟨a,vs,rfl,hl,rr⟩:=r1.lst
   have ez:BT.new mu (BT.pB k xs) h=(z,h'):=NH e
   refine ⟨a,vs,rfl,hl.sq,fun p hp=>jY (mu:=mu) R hp ?_ (by rw[ez];exact post)⟩
   unfold pL BT.pB
   rw[rr.length]
   exact RDs.pick rr _
  | _=>cases e
theorem yq {X:Cx}{b:BT.Bi}{g:Int->Int->Int} (hb:∀ ds d,BT.biD b ds=some d->∃ i j,ds=[.int i,.int j]/\d=.int (g i j)) {id:String} (hc:cC X (.builtin id) (fun xs H Q=>∃ i j,xs=[.int i,.int j]/\Q (.int (g i j)) H)):cC X (.builtin id) (rBi X.prog X.w X.K b false):=by
 intro pins s σ H vs us Q I rus h
 obtain ⟨m,h,ws,z,h',R,rws,e,post⟩:=h
 obtain ⟨ds,d,e1,e2,⟨_,rfl,rfl⟩ | ⟨_,q,_⟩⟩:=fX e
 ·have rr:=d7 R rws e1
  obtain ⟨i,j,rfl,rfl⟩:=hb _ _ e2
  cases rr with
  | cons r t =>
   cases t with
   | cons r' t' =>
    cases t'
    cases r.int
    cases r'.int
    exact hc pins s σ H _ us Q I rus ⟨i,j,rfl,post.here R (.int _)⟩
 ·cases q
theorem Be {X:Cx}{sc:NO}{N:List Str} (O:Ok X F G sc N) {b:BT.Bi}{as:BT.Es}{x:Str}{e:Nn}{es:List Nn}{p pos:Pos} (hb:xJ b x=true) (hg:aL sc x=true) (hst:av (e :: es)=true) (ha:PA X (e :: es) (tDs X F G as)) :
 PE X (.Call (.Name x p) (e :: es) [] pos) (tD X F G (.bi b false as)):=by
 simp only[av,Nt] at hst
 have hB:=O.blt
 cases b<;>first | (cases hb;done) | (replace hb:=eq_of_beq hb)
 ·subst hb
  refine PE.weak (dY (yq (b:=.min2) (g:=fun i j=>if j < i then j else i) (fun ds d h=>?_) (uG O.calm)) (aQ O hg) (hB _ (by decide +kernel)) (by decide +kernel) ha (by decide) (by decide) (aj hst.1) (aD hst.2)) (fun σ H Q z=>gA z)
  match ds,h with
  | [.int i,.int j],h=>exact ⟨i,j,rfl,(NH h).symm⟩
 ·subst hb
  refine PE.weak (dY (yq (b:=.max2) (g:=fun i j=>if j > i then j else i) (fun ds d h=>?_) (uF O.calm)) (aQ O hg) (hB _ (by decide +kernel)) (by decide +kernel) ha (by decide) (by decide) (aj hst.1) (aD hst.2)) (fun σ H Q z=>gA z)
  match ds,h with
  | [.int i,.int j],h=>exact ⟨i,j,rfl,(NH h).symm⟩
end
end BS
end
section
namespace BS
open PySem PySem.Spec PyProof.Rows L2
section
variable {P:NG}{w:N2}{K:Nl}{m:List Addr}{H H':Hp}
noncomputable def kT (H H':Hp):Prop:=(∀ a vs,Rd H a (.tup vs)->Rd H' a (.tup vs))/\∀ a vs,Rd H a (.lst vs)->Rd H' a (.lst vs)
mutual
theorem RD.tr (q:kT H H'):∀ {v:V}{d:BT.D},RD K m H v d->RD K m H' v d
 | _,_,.non=>.non
 | _,_,.bl b=>.bl b
 | _,_,.int i=>.int i
 | _,_,.str y h=>.str y h
 | _,_,.tup h r=>.tup (h.elim (fun z=>.inl ⟨q.1 _ _ z.1,z.2⟩) .inr) (RDs.tr q r)
 | _,_,.lst h r=>.lst (h.elim (fun z=>.inl ⟨q.2 _ _ z.1,z.2⟩) .inr) (RDs.tr q r)
theorem RDs.tr (q:kT H H'):∀ {vs:List V}{ds:List BT.D},RDs K m H vs ds->RDs K m H' vs ds
 | _,_,.nil=>.nil
 | _,_,.cons r t=>.cons (RD.tr q r) (RDs.tr q t)
end
theorem RA.tr (q:kT H H') {v:V}{x:BT.W} (r:RA K m H v x):RA K m H' v x:=by
 cases r with
 | p r=>exact .p (r.tr q)
 | r h=>exact .r h
 | o h=>exact .o h
theorem RFs.tr (q:kT H H') {vs:List (Str×V)}{fs:List (Str×BT.W)} (r:RFs K m H vs fs):RFs K m H' vs fs:=by
 induction r with
 | nil=>exact .nil
 | cons r t ih=>exact .cons (r.tr q) ih
theorem RCs.tr (q:kT H H') {vs:List V}{cs:List BT.Cp} (r:RCs K m H vs cs):RCs K m H' vs cs:=by
 induction r with
 | nil=>exact .nil
 | cons r t ih=>exact .cons (r.tr q) ih
theorem RWs.tr (q:kT H H') {vs:List V}{ws:List BT.W} (r:RWs P w K m H vs ws) (n:BT.noC ws=true):RWs P w K m H' vs ws:=by
 induction r with
 | nil=>exact .nil
 | cons r t ih =>
  cases r with
  | p r=>exact .cons (.p (r.tr q)) (ih n)
  | r h=>exact .cons (.r h) (ih n)
  | k h r=>exact .cons (.k h r) (ih n)
  | o h=>exact .cons (.o h) (ih n)
  | c _ _=>cases n
  | g _ _=>cases n
theorem RCs.ws {vs:List V}{cs:List BT.Cp} (r:RCs K m H vs cs):RWs P w K m H vs (cs.map BT.Cp.w):=by
 induction r with
 | nil=>exact .nil
 | cons r t ih=>exact .cons r.rw ih
theorem RWs.app {vs us:List V}{ws zs:List BT.W} (r:RWs P w K m H vs ws) (t:RWs P w K m H us zs):RWs P w K m H (vs++us) (ws++zs):=by
 induction r with
 | nil=>exact t
 | cons r _ ih=>exact .cons r ih
theorem RKs.tr (q:kT H H') {vs:List (Key×V)}{kvs:List (BT.Ky×BT.D)} (r:RKs K m H vs kvs):RKs K m H' vs kvs:=by
 induction r with
 | nil=>exact .nil
 | cons hk r t ih=>exact .cons (hk.tr q) (r.tr q) ih
theorem RH.tr {h:BT.HH} (R:RH K m H h) (q:kT H H') (k:∀ a∈m,H' a=H a) (tb:TB K H'):RH K m H' h:=by
 refine ⟨R.nd,R.len,fun i a c e1 e2=>?_,tb⟩
 have z:=R.cl i a c e1 e2
 have e:=k a (NJ e1)
 cases c with
 | l xs=>obtain ⟨vs,h1,h2⟩:=z;exact ⟨vs,e.trans h1,h2.tr q⟩
 | o c fs=>obtain ⟨C,dx,vs,h1,h2,h3⟩:=z;exact ⟨C,dx,vs,e.trans h1,h2,h3.tr q⟩
 | d kvs=>obtain ⟨vs,h1,h2⟩:=z;exact ⟨vs,e.trans h1,h2.tr q⟩
theorem Le.sq (q:Le H H'):kT H H':=⟨fun a vs r=>r.elim (fun z=>.inl (q _ _ z)) fun ⟨o,z⟩=>.inr ⟨o,q _ _ z⟩,fun a vs r=>r.elim (fun z=>.inl (q _ _ z)) fun ⟨o,z⟩=>.inr ⟨o,q _ _ z⟩⟩
theorem RH.le {h:BT.HH} (R:RH K m H h) (q:Le H H'):RH K m H' h:=R.tr q.sq (fun a ha=>by
 obtain ⟨o,e,_⟩:=R.mu ha
 rw[e];exact q _ _ e) (q.tb R.tb)
theorem f6.le (q:Le H H') {cl:List (Str×Addr)}{xs:List Str}{vs:List V} (r:f6 m H cl xs vs):f6 m H' cl xs vs:=by
 induction r with
 | nil=>exact .nil
 | cons h1 h2 h3 r t ih=>exact .cons h1 ⟨q _ _ h2.1,h2.2⟩ h3 r ih
theorem gr.le (q:Le H H') {f:Addr}{L:Nat}{vs:List V} (h:gr m H f L vs):gr m H' f L vs:=by
 obtain ⟨bt,ps,fs,pa,be,sc,cl,pm,ctv,c',oc,os,t,ql,h0,h1,h2,h3,h4,h5,h6,h7,h8,h9,h10⟩:=h
 exact ⟨bt,ps,fs,pa,be,sc,cl,pm,ctv,c',oc,os,t,ql,h0,h1,h2,h3,h4,h5,⟨q _ _ h6.1,h6.2⟩,⟨q _ _ h7.1,h7.2⟩,h8,h9,h10.le q⟩
theorem RW.le (q:Le H H') {v:V}{x:BT.W} (r:RW P w K m H v x):RW P w K m H' v x:=by
 cases r with
 | p r=>exact .p (r.tr q.sq)
 | r h=>exact .r h
 | k h r=>exact .k h r
 | o h=>exact .o h
 | c h r=>exact .c (h.le q) (r.tr q.sq)
 | g h r=>exact .g h r
end
noncomputable def cg (cl:List (Str×Addr)) (H:Hp):Prop:=∀ x c,cl.lookup x=some c->∃ o u,H c=some (.frz o (.own 0))/\o.data=.cell u
open Classical in
noncomputable def hid (cl:List (Str×Addr)) (H:Hp):Hp:=fun b=>if ∃ x,cl.lookup x=some b then none else H b
open Classical in
noncomputable def ret (cl:List (Str×Addr)) (H0 H:Hp):Hp:=fun b=>if ∃ x,cl.lookup x=some b then H0 b else H b
section
variable {cl:List (Str×Addr)}{H H':Hp}{b:Addr}{u:HO}
theorem qV {x:Str} (e:cl.lookup x=some b):hid cl H b=none:=if_pos ⟨x,e⟩
theorem dj (e:¬ ∃ x,cl.lookup x=some b):hid cl H b=H b:=if_neg e
theorem ef (e:H b=none):hid cl H b=none:=by
 unfold hid;split<;>first | rfl | exact e
theorem nY {x:Str} (e:cl.lookup x=some b):ret cl H H' b=H b:=if_pos ⟨x,e⟩
theorem fm (e:¬ ∃ x,cl.lookup x=some b):ret cl H H' b=H' b:=if_neg e
theorem EU (e:hid cl H b=some u):H b=some u/\¬ ∃ x,cl.lookup x=some b:=by
 unfold hid at e
 split at e
 ·cases e
 ·rename_i c;exact ⟨e,c⟩
noncomputable def j4:HO->Bool
 | .frz o (.own _)=>match o.data with | .cell _=>true | _=>false
 | _=>false
theorem cg.out (C:cg cl H) (e:H b=some u) (n:j4 u=false):¬ ∃ x,cl.lookup x=some b:=fun ⟨x,q⟩=>by
 obtain ⟨o,v,h1,h2⟩:=C x b q
 rw[e] at h1;cases h1
 simp[j4,h2] at n
theorem cg.hid (C:cg cl H) (e:H b=some u) (n:j4 u=false):BS.hid cl H b=some u:=by rw[dj (C.out e n)];exact e
theorem cg.sq (C:cg cl H):kT H (BS.hid cl H):=⟨fun a vs r=>r.elim (fun z=>.inl (C.hid z rfl)) fun ⟨o,z⟩=>.inr ⟨o,C.hid z rfl⟩,fun a vs r=>r.elim (fun z=>.inl (C.hid z rfl)) fun ⟨o,z⟩=>.inr ⟨o,C.hid z rfl⟩⟩
theorem cg.tb (C:cg cl H) {K:Nl} (t:TB K H):TB K (BS.hid cl H):=t.mono (fun P ps e=>C.hid e rfl) fun a o vs d e=>C.hid e (by simp[j4,d])
theorem cg.rh (C:cg cl H) {K:Nl}{m:List Addr}{h:BT.HH} (R:RH K m H h):RH K m (BS.hid cl H) h:=R.tr C.sq (fun a ha=>by
 obtain ⟨o,e,z⟩:=R.mu ha
 rw[e];exact C.hid e (by cases o<;>first | rfl | cases z)) (C.tb R.tb)
theorem EV (N:∀ x c,cl.lookup x=some c->H' c=none):Le H' (ret cl H H'):=fun a u e=>by
 rw[fm (fun ⟨x,q⟩=>by rw[N x a q] at e;cases e)];exact e
theorem cg.EW (C:cg cl H) (N:∀ x c,cl.lookup x=some c->H' c=none) {K:Nl}{m m':List Addr}{h':BT.HH} (x:Ext m (BS.hid cl H) m' H') (R:RH K m' H' h'):Ext m H m' (ret cl H H'):=by
 obtain ⟨e,hm,he⟩:=x.pre
 refine ⟨⟨e,hm,fun a ha=>?_⟩,fun a o h n t=>?_,fun a h=>?_⟩
 ·have z:=he a ha
  have hne:¬ ∃ y,cl.lookup y=some a:=fun ⟨y,q⟩=>by
   obtain ⟨o,e1,_⟩:=R.mu (a:=a) (by rw[hm];exact N6 _ ha)
   rw[N y a q] at e1;cases e1
  rw[dj hne] at z;exact z
 ·by_cases c:∃ y,cl.lookup y=some a
  ·obtain ⟨y,q⟩:=c;rw[nY q];exact h
  ·rw[fm c];exact x.keep a o (by rw[dj c];exact h) n t
 ·by_cases c:∃ y,cl.lookup y=some a
  ·obtain ⟨y,q⟩:=c;rw[nY q] at h;exact h
  ·rw[fm c] at h;have z:=x.live a h;rw[dj c] at z;exact z
end
theorem f6.get {m:List Addr}{H:Hp}{cl:List (Str×Addr)}{fs:List Str}{vs:List V} (r:f6 m H cl fs vs):∀ {i:Nat}{x:Str},fs[i]?=some x->∃ c o u v,cl.lookup x=some c/\Tr m H c o/\o.data=.cell (some u)/\vs[i]?=some v/\RelV v u:=by
 induction r with
 | nil=>intro i x e;simp at e
 | cons h1 h2 h3 r t ih =>
  intro i x e
  cases i with
  | zero=>simp at e;subst e;exact ⟨_,_,_,_,h1,h2,h3,rfl,r⟩
  | succ i=>simpa using ih (by simpa using e)
theorem f6.len {m:List Addr}{H:Hp}{cl:List (Str×Addr)}{fs:List Str}{vs:List V} (r:f6 m H cl fs vs):vs.length=fs.length:=by
 induction r with
 | nil=>rfl
 | cons h1 h2 h3 r t ih=>simp[ih]
theorem f6.cells {m:List Addr}{H:Hp}{cl:List (Str×Addr)}{fs:List Str}{vs:List V} (r:f6 m H cl fs vs) (hf:∀ x c,cl.lookup x=some c->x∈fs):cg cl H:=fun x c e=>by
 obtain ⟨i,hi⟩:=O4 (hf x c e)
 obtain ⟨c',o,u,v,h1,h2,h3,_⟩:=r.get hi
 rw[e] at h1;cases h1
 exact ⟨o,_,h2.1,h3⟩
theorem Bf {pa:Pe}{ps:List Str} (hp:LPa pa ps) {name q:Str}{be:Nn}{sc:NO}{cl:List (Str×Addr)}{pm cdv ctv:Np}{us:List Np} (hl:us.length=ps.length):SA (PySem.W.kla_fn name q pa be sc cl pm cdv ctv) ⟨us,[]⟩=pure (ps.zip us):=by
 cases hp with
 | one=>match us,hl with | [_],_=>rfl
 | two=>match us,hl with | [_,_],_=>rfl
theorem EX {pa:Pe}{ps:List Str} (hp:LPa pa ps) (nd:ps.Nodup) {us:List Np} (hl:us.length=ps.length) {i:Nat}{x:Str} (e:ps[i]?=some x):∃ u,us[i]?=some u/\(ps.zip us).reverse.lookup x=some u:=by
 cases hp with
 | one =>
  match us,hl,i,e with
  | [u],_,0,e=>simp at e;subst e;exact ⟨u,rfl,by simp⟩
  | [u],_,i+1,e=>simp at e
 | two =>
  match us,hl,i,e with
  | [u,v],_,0,e =>
   simp at e;subst e
   simp at nd
   exact ⟨u,rfl,by simp[OV,beq_false_of_ne nd]⟩
  | [u,v],_,1,e=>simp at e;subst e;exact ⟨v,rfl,by simp⟩
  | [u,v],_,i+2,e=>simp at e
end BS
end
section
namespace BS
open PySem PySem.Spec PyProof.Rows L2
structure LF (ps fs:List Str) (sc:NO):Prop where
 kd:sc.kind=.function
 co:sc.isCoroutine=false
 ge:sc.isGenerator=false
 cell:∀ y∈sc.names,y.2≠.cell
 loc:∀ x∈ps,sc.names.lookup x=some .local
 fre:∀ x∈fs,sc.names.lookup x=some .free/\(x,Om)∈sc.names
 all:∀ y∈sc.names,y.2=.free->y.1∈fs
 nd:(ps++fs).Nodup
theorem kU:∀ {l:List Str},iE l=true->l.Nodup
 | [],_=>Qn
 | x :: r,h=>by
  simp only[iE,Nt,PU] at h
  refine List.nodup_cons.mpr ⟨fun z=>?_,kU h.2⟩
  have:=h.1
  simp[z] at this
theorem Ik {ps fs:List Str}{sc:NO} (h:mP ps fs sc=true):LF ps fs sc:=by
 simp only[mP,Nt,PU] at h
 obtain ⟨⟨⟨⟨⟨⟨⟨h1,h2⟩,h3⟩,h4⟩,h5⟩,h6⟩,h7⟩,h8⟩:=h
 rw[OM] at h4 h5 h6 h7
 refine ⟨eq_of_beq h1,h2,h3,fun y hy e=>?_,fun x hx=>eq_of_beq (h5 x hx),fun x hx=>?_,fun y hy e=>?_,kU h8⟩
 ·have:=h4 y hy;rw[e] at this;cases this
 ·have:=h6 x hx
  simp only[Nt] at this
  exact ⟨eq_of_beq this.1,by simpa using this.2⟩
 ·have:=h7 y hy
  rw[e] at this
  simpa using this
noncomputable def yr (P:NG) (w:N2) (K:Nl) (mg:Str->Option Np) (base:Heap) (N:List Str) (q:Str) (sc:NO) (cl:List (Str×Addr)) (f c':Addr) (A:Oz) (outer:List Env) (s:Nr) (H:Hp):Cx where
 prog:=P
 w:=w
 K:=K
 mg:=mg
 base:=base
 A:=A.deeper (Qf q sc s.heap.objs.size f (.ref c') cl)
 N:=N
 s₀:=s
 H₀:=hid cl H
 env:=Qf q sc s.heap.objs.size f (.ref c') cl
 outer:=outer
 stack:=Qf q sc s.heap.objs.size f (.ref c') cl :: outer
 ex:=[]
 calm:=true
 fn:=fun _=>false
 pn:=[]
 xe:=fun _ _=>False
theorem sU {P:NG}{w:N2}{cl:List (Str×Addr)}{H:Hp}{h h1:Heap} (C:cg cl H) (ok:HOk P w H h) (k:∀ b o,h.get? b=some o->h1.get? b=some o):HOk P w (hid cl H) h1:=fun b u e=>by
 obtain ⟨e1,_⟩:=EU e
 exact (ok b u e1).stay (fun c o _ q=>k c o q) (fun c q=>C.hid q rfl) fun c xs q=>C.hid q rfl
theorem Bg {P:NG}{w:N2}{K:Nl}{mg:Str->Option Np}{base:Heap}{A:Oz}{outer:List Env}{s:Nr}{H:Hp}{f c':Addr}{us:List Np}{vs cvs:List V}{m:List Addr}{ps fs:List Str}{pa:Pe}{sc:NO}{cl:List (Str×Addr)}{q:Str}{h1:Heap}{tk:Nat}
 (hp:LPa pa ps) (F:LF ps fs sc) (inj:∀ x y c,cl.lookup x=some c->cl.lookup y=some c->x=y) (hfs:∀ x c,cl.lookup x=some c->x∈fs) (cp:f6 m H cl fs cvs) (hd:A.handled=none) (e0:lN P w K mg base A outer s H) (r:au vs us) (hl:us.length=ps.length)
 (hns:h1.Ns s.heap.objs.size (fun y=>(ps.zip us).reverse.lookup y)) (hk1:∀ b o,s.heap.get? b=some o->h1.get? b=some o) :
 Inv (yr P w K mg base (ps++fs) q sc cl f c' A outer s H) [] (vs.map some++cvs.map some) (hid cl H) { s with heap:=h1,toks:=tk }:=by
 have C:=cp.cells hfs
 have lv:vs.length=ps.length:=r.length.trans hl
 have lc:=cp.len
 have noA:∀ b:Addr,b∉(yr P w K mg base (ps++fs) q sc cl f c' A outer s H).ex:=fun b z=>absurd (show b∈([]:List Addr) from z) (by simp)
 have cel:∀ x c,cl.lookup x=some c->∃ u,s.heap.IsCell c (some u):=fun x c e=>by
  obtain ⟨i,hi⟩:=O4 (hfs x c e)
  obtain ⟨c2,o,u,v,g1,g2,g3,_⟩:=cp.get hi
  rw[e] at g1;cases g1
  exact ⟨u,o,(e0.hok _ _ g2.1).1,g3⟩
 refine ⟨⟨e0.mod,F.kd,rfl,rfl,Nu _,inj,fun x hx=>?_,fun x c z=>absurd (show false=true from z) (by decide),fun _=>hd,SS e0.frames,.inr ⟨rfl,rfl⟩,fun b z=>absurd z (noA b),fun b o e=>⟨(e0.bs b o e).1,ef (e0.bs b o e).2⟩,e0.bsz,fun b _ _=>noA b,fun b z=>absurd z (noA b),e0.iw,fun b hb=>ef (e0.frf b hb)⟩,
  rfl,e0.bare,Un.kept hk1,⟨_,hns,fun i x v g1 g2 g3=>?_⟩,fun x c e=>?_,ef (e0.hok.fresh (Nu _)),fun x c e=>qV e,fun p hp=>absurd (show p∈([]:List (Addr×Obj)) from hp) (by simp),sU C e0.hok hk1,?_⟩
 ·have hx:sc.names.lookup x=some .cell\/sc.names.lookup x=some .free:=hx
  rcases hx with hx | hx
  ·exact absurd rfl (F.cell _ (OP hx))
  ·obtain ⟨i,hi⟩:=O4 (F.all _ (OP hx) rfl)
   obtain ⟨c,_,_,_,g1,_⟩:=cp.get hi
   exact ⟨c,g1⟩
 ·have g1:(ps++fs)[i]?=some x:=g1
  by_cases c:i < ps.length
  ·rw[Ny c] at g1
   rw[Ny (by simpa [lv] using c),N1] at g2
   obtain ⟨u,g4,g5⟩:=EX hp (F.nd.sublist (List.sublist_append_left _ _)) hl g1
   obtain ⟨v',g6,g7⟩:=Option.map_eq_some_iff.mp g2
   cases g7
   obtain ⟨u',g8,rv⟩:=r.get g6
   rw[g4] at g8;cases g8
   exact ⟨u,rv,.inl ⟨F.loc x (NJ g1),g5⟩⟩
  ·rw[NY (by omega)] at g1
   rw[NY (by simp[lv];omega),N1] at g2
   simp only[NP,lv] at g2
   obtain ⟨c2,o,u,v2,k1,k2,k3,k4,k5⟩:=cp.get g1
   rw[k4] at g2
   cases g2
   exact ⟨u,k5,.inr ⟨.inr (F.fre x (NJ g1)).1,c2,k1,o,hk1 _ _ (e0.hok _ _ k2.1).1,k3⟩⟩
 ·obtain ⟨u,o,z1,z2⟩:=cel x c e
  exact ⟨some u,o,hk1 _ _ z1,z2⟩
 ·show _=(ps++fs).length
  simp[lv,lc]
section
variable {F:FT}{G:Str->Option BT.W}
theorem vf {o:Option (Option BT.W)}{ws:List BT.W}{h:BT.HH}{r:BT.W×BT.HH} (e:BT.nH F o ws h=some r):∃ k cs,o=some (some (.c k cs))/\BT.noC ws=true/\F k (ws++cs.map BT.Cp.w) h=some r:=by
 unfold BT.nH at e
 split at e
 ·rename_i k cs
  split at e
  ·rename_i c;exact ⟨k,cs,rfl,c,e⟩
  ·cases e
 ·cases e
theorem gr.fnAt {P:NG}{w:N2}{m:List Addr}{H:Hp}{f:Addr}{L:Nat}{vs:List V}{h:Heap} (l:gr m H f L vs) (ok:HOk P w H h):PySem.W.FnAt f h:=by
 obtain ⟨bt,ps,fs,pa,be,sc,cl,pm,ctv,c',oc,os,t,ql,h0,h1,h2,h3,h4,h5,h6,_⟩:=l
 exact ⟨_,_,_,_,(ok _ _ h6.1).1⟩
theorem Post.ext {P:NG}{w:N2}{K:Nl}{m m':List Addr}{H H':Hp}{z:BT.W}{h':BT.HH}{Q:VK} (p:Post P w K m H z h' Q) (x:Ext m H m' H'):Post P w K m' H' z h' Q:=fun v H2 m2 y R r=>p v H2 m2 (x.trans y) R r
theorem yt {X:Cx}{sc:NO}{N:List Str} (O:Ok X F G sc N) {i:Nat}{x:Str}{as:BT.Es}{e:Nn}{es:List Nn}{np pos:Pos} (h1:N[i]?=some x) (h2:kN sc x=true) (h3:cK x=true) (hc:CEs sc N as (e :: es)) (ha:PA X (e :: es) (tDs X F G as)) :
 PE X (.Call (.Name x np) (e :: es) [] pos) (tD X F G (.callv i x as)):=by
 have hst:=c6 hc
 simp only[av,Nt] at hst
 intro pins s σ H Q I q
 obtain ⟨m,s',h,z,h',R,S,ee,post⟩:=q
 simp only[BT.ev] at ee
 obtain ⟨ws,g,e1,e2⟩:=ak ee
 obtain ⟨k,cs,k1,k2,k3⟩:=vf e2
 obtain ⟨v,hv,rv⟩:=S.get i _ k1
 obtain ⟨d1,d2,_⟩:=dB h3
 refine O2 ?_
 refine thn (vM (i:=i) (by rw[O.hN];exact h1) (yd O h2) d1 d2 pins s σ H (fun v2 H2=>v2=v/\H2=H) I ⟨v,hv,rfl,rfl⟩) fun u s1 ⟨v2,H2,I2,r2,ev,eh⟩=>?_
 subst ev eh
 have hA:tDs X F G as σ H2 (fun vs2 H3=>∃ m3,Ext m H2 m3 H3/\RH X.K m3 H3 g/\RWs X.prog X.w X.K m3 H3 vs2 ws):=⟨m,s',h,ws,g,R,S,e1,fun vs2 H3 m3 x3 R3 r3=>⟨m3,x3,R3,r3⟩⟩
 cases rv with
 | @c f L cvs _ hL rc =>
  obtain rfl:u=.ref f:=r2
  refine PySem.W.callWith_F (hL.fnAt I2.hok) (thn (ha pos pins s1 σ H2 _ I2 hA) fun us s2 ⟨vs2,H3,I3,r3,m3,x3,R3,w3⟩=>⟨(hL.ext x3).fnAt I3.hok,?_⟩) (aj hst.1) (aD hst.2)
  obtain ⟨k,hr,lo⟩:=O.lam _ _ _ _ k3
  refine QJ (codeAny_mono (lo X.A X.stack s2 H3 f us vs2 cvs m3 ws cs g z h' Q E0 hr I3.DQ r3 R3 w3 k2 (hL.ext x3) (rc.ext x3) k3 (post.ext x3)) fun r s' hq=>?_)
  cases r with
  | error e=>exact Of hq
  | ok fl =>
   cases fl with
   | ret u=>exact I3.after hq
   | next=>exact Of hq
   | brk=>exact Of hq
   | cont=>exact Of hq
 | @g f x' hn hk =>
  obtain rfl:u=.ref f:=r2
  have k3':F (.f x') ws g=some (z,h'):=by simpa using k3
  obtain ⟨fa,fd,ps,k,hm,_,hb,hr,ok⟩:=O.call _ _ _ _ k3'
  have hm':=Pd I2.ok.mod.kin I2.ok.mod.glob hn
  rw[hm] at hm'
  cases hm'
  refine PB (h₀:=X.base) I2.ok.mod.kin hk (thn (ha pos pins s1 σ H2 _ I2 hA) fun us s2 ⟨vs2,H3,I3,r3,m3,x3,R3,w3⟩=>⟨I3.kIn,?_⟩) (aj hst.1) (aD hst.2)
  refine kC (E:=E0) ok hr hb .nil kF I3 r3 ?_
  rw[Oa]
  exact ⟨m3,ws,g,z,h',R3,w3,k3',post.ext x3⟩
end
end BS
end
section
namespace BS
open PySem PySem.Spec PyProof.Rows L2
structure qW (K:Nl) (J:It) (m0:List Addr) (H0:Hp) (ds:List BT.D):Prop where
 go:∀ m H (i:Nat),Ext m0 H0 m H->i < ds.length->J.go i H
 yld:∀ m H h (i:Nat) x H' d,Ext m0 H0 m H->RH K m H h->ds[i]?=some d->J.yld i H x H'->Ext m H m H'/\Le H H'/\RD K m H' x d
 stop:∀ m H,Ext m0 H0 m H->J.stop ds.length H
noncomputable def Itv (K:Nl) (a:Addr) (n:Nat):It :=
 ⟨fun i H=>i < n/\∃ xs,SqL K H a xs/\xs.length=n,fun i H x H'=>H'=H/\∀ xs,SqL K H a xs->xs[n - 1 - i]?=some x,fun i H=>i=n⟩
theorem yu {P:NG}{w:N2}{K:Nl}{tg:Nn} (a it:Addr) (n:Nat):Turn P w K tg (Itv K a n) [it] it (fun i h=>h.IsRevIter it a ((n:Int) - 1 - i)) where
 mem:=by simp
 obj:=fun i h st b hb=>by
  have e:b=it:=by simpa using hb
  subst e
  obtain ⟨o,e,c,d⟩:=st
  exact ⟨o,e,fun v z=>by rw[d] at z;cases z⟩
 keep:=fun i h h' st k=>st.at fun o e=>k it (by simp) o e
 item:=by
  intro X hP hw hK hc i pins s σ H E I hf st hg
  subst hP hw hK
  obtain ⟨hi,xs,hq,hx⟩:=hg
  obtain ⟨its,rv,p,hz⟩:=I.list hq
  have hl:=rv.length
  have hj:n - 1 - i < xs.length:=by omega
  obtain ⟨u,hu,ru⟩:=rv.get (NB hj)
  obtain ⟨f0,f1,f2,f3,f4,f5⟩:=hf it (by simp)
  have ei:((n:Int) - 1 - (i:Int))=(((n - 1 - i:Nat)):Int):=by omega
  have st':s.heap.IsRevIter it a (((n - 1 - i:Nat)):Int):=by rw[← ei];exact st
  refine wpAny_pyNext_rev_item st' p.isList (x:=u) (by simpa using hu) fun h' st'' sb=>?_
  have I1:Inv X pins σ H { s with heap:=h' }:=I.turned (t':=s.toks) (fun b o hb e=>(sb.2 b hb).trans e) f0 f1 f3 f4 f5
  obtain ⟨o,e,c,d⟩:=id st''
  refine ⟨u,rfl,rS (s:={ s with heap:=h' }) e c d (by decide) ⟨_,H,I1,ru,⟨rfl,fun ys hy=>by rw[I.kr hy hq];exact NB hj⟩,?_,fun b hb=>(hf b hb).1⟩⟩
  have e2:(((n - 1 - i:Nat)):Int) - 1=(n:Int) - 1 - ((i+1:Nat):Int):=by omega
  rw[e2] at st''
  exact st''
 done:=by
  intro X hP hw hK hc i pins s σ H E I hf st hg
  subst hP hw hK
  have hg:i=n:=hg
  subst hg
  obtain ⟨f0,f1,f2,f3,f4,f5⟩:=hf it (by simp)
  have e1:(i:Int) - 1 - (i:Int)=-1:=by omega
  have st':s.heap.IsRevIter it a (-1):=by rw[← e1];exact st
  exact wpAny_pyNext_rev_end (I.ok.hd hc) st' fun h' eb=>⟨rfl,I.turned (t':=s.toks) (fun b o hb e=>eb b o hb e) f0 f1 f3 f4 f5⟩
 self:=fun _ _ _ _ _ st h=>wpAny_pyIter_revIter st h
theorem Inv.Bh {X:Cx}{pins:List (Addr×Obj)}{σ:L2.St}{H H':Hp}{s:Nr}{h':Heap}{fp:List Addr}{tk:Nat} (I:Inv X pins σ H s) (hf:∀ b∈fp,lM X pins H b)
 (k:∀ b o,b∉fp->s.heap.get? b=some o->h'.get? b=some o) (hs:∀ b,b < s.heap.objs.size->H' b=H b) (hok:HOk X.prog X.w H' h'):Inv X pins σ H' { s with heap:=h',toks:=tk }:=by
 have hlt:∀ b u,H b=some u->H' b=some u:=fun b u e=>by rw[hs b (I.hok.lt e)];exact e
 refine I.step (g':=s.gens) (d':=s.drawn) (ch:=fp) (fun b hb=>?_) (fun b o _ _ hc e _=>k b o hc e) (fun b o _ _ hc e _=>⟨o.slots,k b o hc e⟩) (fun b o _ e n=>by rw[hs b (Nx e)];exact n)
  (fun b o hc e=>⟨o,k b o hc e⟩) (fun b xs e=>hlt b _ e) (fun b o u e=>hlt b _ e) (fun b ps e=>⟨#[],by rw[hlt b _ e];simp⟩) (fun m hm=>?_) hok I.bare
 ·obtain ⟨_,f1,_,f3,f4,f5⟩:=hf b hb
  exact ⟨f3,f1,f4,f5⟩
 ·obtain ⟨o,es,ep,ho,r⟩:=hm
  exact ⟨o,es,ep,k _ o (fun z=>(hf _ z).2.1 rfl) ho,r⟩
noncomputable def iD (X:Cx) (F:FT) (G:Str->Option BT.W) (sr:BT.Sr) (sa:BT.Es):TI:=fun σ H R =>
 ∃ m s h ws h' ds,RH X.K m H h/\RS X.prog X.w X.K m H σ s/\BT.evs F G sa s h=some (ws,h')/\(BT.rds ws h').bind (BT.dZ sr)=some ds/\BT.gn ws=true ∧
  ∀ H' m' J,Ext m H m' H'->RH X.K m' H' h'->qW X.K J m' H' ds->R J H'
theorem PI.weak {X:Cx}{tg e:Nn}{t t':TI} (h:PI X tg e t) (q:∀ σ H R,t' σ H R->t σ H R):PI X tg e t':=fun pins s σ H R I hw=>h pins s σ H R I (q _ _ _ hw)
section
variable {F:FT}{G:Str->Option BT.W}
theorem Bj {K:Nl}{m0:List Addr}{H0:Hp}{a:Addr}{vs:List V}{ds:List BT.D} (h:(Rd H0 a (.lst vs)/\a∉m0)\/KL K a vs) (r:RDs K m0 H0 vs ds):qW K (Itl K a) m0 H0 ds:=by
 have k:∀ {m H},Ext m0 H0 m H->SqL K H a vs:=fun x=>LL.sq (h.elim (fun q=>.inl (Rd.ext x q.1 q.2).1) .inr)
 refine ⟨fun m H i x hi=>?_,fun m H hh i v H' d x RR hd y=>?_,fun m H x=>⟨vs,k x,by rw[r.length];exact Nu _⟩⟩
 ·exact ⟨vs,_,k x,NB (by rw[r.length];exact hi)⟩
 ·obtain ⟨rfl,y⟩:=y
  obtain ⟨u,h1,h2⟩:=(r.ext x).get hd
  have:=y vs (k x)
  rw[h1] at this
  cases this
  exact ⟨.refl _ _,fun _ _ e=>e,h2⟩
theorem EY {K:Nl}{m0:List Addr}{H0:Hp}{a:Addr}{vs:List V}{ds:List BT.D} (h:(Rd H0 a (.tup vs)/\a∉m0)\/KT K a vs) (r:RDs K m0 H0 vs ds):qW K (Itt K a) m0 H0 ds:=by
 have k:∀ {m H},Ext m0 H0 m H->SqT K H a vs:=fun x=>h.elim (fun q=>.inl (Rd.ext x q.1 q.2).1) fun ⟨o,its,n,q,_⟩=>.inr ⟨o,its,n,q⟩
 refine ⟨fun m H i x hi=>?_,fun m H hh i v H' d x RR hd y=>?_,fun m H x=>⟨vs,k x,by rw[r.length];exact Nu _⟩⟩
 ·exact ⟨vs,_,k x,NB (by rw[r.length];exact hi)⟩
 ·obtain ⟨rfl,y⟩:=y
  obtain ⟨u,h1,h2⟩:=(r.ext x).get hd
  have:=y vs (k x)
  rw[h1] at this
  cases this
  exact ⟨.refl _ _,fun _ _ e=>e,h2⟩
theorem EZ {K:Nl}{m0:List Addr}{H0:Hp}{a:Addr}{vs:List V}{ds:List BT.D} (h:(Rd H0 a (.lst vs)/\a∉m0)\/KL K a vs) (r:RDs K m0 H0 vs ds):qW K (Itv K a ds.length) m0 H0 ds.reverse:=by
 have k:∀ {m H},Ext m0 H0 m H->SqL K H a vs:=fun x=>LL.sq (h.elim (fun q=>.inl (Rd.ext x q.1 q.2).1) .inr)
 refine ⟨fun m H i x hi=>?_,fun m H hh i v H' d x RR hd y=>?_,fun m H x=>by show ds.reverse.length=ds.length;simp⟩
 ·exact ⟨by simpa using hi,vs,k x,r.length⟩
 ·obtain ⟨rfl,y⟩:=y
  have hi:i < ds.length:=by
   have:=getD_some hd
   simpa using this
  have hd':ds[ds.length - 1 - i]?=some d:=by
   rw[List.getElem?_reverse hi] at hd
   exact hd
  obtain ⟨u,h1,h2⟩:=(r.ext x).get hd'
  have:=y vs (k x)
  rw[h1] at this
  cases this
  exact ⟨.refl _ _,fun _ _ e=>e,h2⟩
theorem yv {K:Nl}{m0:List Addr}{H0:Hp} (lo:Int) (n:Nat):qW K (Itr lo n) m0 H0 (BT.upto lo n):=by
 have hl:(BT.upto lo n).length=n:=by simp[BT.upto]
 refine ⟨fun m H i x hi=>by rw[hl] at hi;exact hi,fun m H hh i v H' d x RR hd y=>?_,fun m H x=>by rw[hl];exact Nu n⟩
 obtain ⟨rfl,rfl⟩:=y
 have:d=.int (lo+i):=by
  have hi:i < n:=by
   have:=getD_some hd
   rw[hl] at this
   exact this
  simp only[BT.upto,N1] at hd
  rw[Qh hi] at hd
  simpa using hd.symm
 subst this
 exact ⟨.refl _ _,fun _ _ e=>e,.int _⟩
theorem sV:∀ {ws:List BT.W},BT.gn ws=true->∃ ds:List BT.D,ws=ds.map BT.W.p:=by
 intro ws
 induction ws with
 | nil=>exact fun _=>⟨[],rfl⟩
 | cons w ws ih =>
  intro h
  cases w with
  | p d =>
   obtain ⟨ds,rfl⟩:=ih h
   exact ⟨d :: ds,rfl⟩
  | _=>cases h
theorem yw (h:BT.HH) (ds:List BT.D):BT.rds (ds.map BT.W.p) h=some ds:=by
 induction ds with
 | nil=>rfl
 | cons d ds ih =>
  show (BT.rds (ds.map BT.W.p) h).map (d :: ·)=_
  rw[ih];rfl
theorem yx {ws:List BT.W}{h:BT.HH}{sr:BT.Sr}{ds:List BT.D} (hs:sr=.seq\/sr=.rev\/sr=.rng1) (e:(BT.rds ws h).bind (BT.dZ sr)=some ds) (ha:BT.gn ws=true):∃ d,ws=[.p d]/\BT.dZ sr [d]=some ds:=by
 obtain ⟨xs,rfl⟩:=sV ha
 rw[yw,OJ] at e
 cases xs with
 | nil=>rcases hs with rfl | rfl | rfl<;>cases e
 | cons d xs =>
  cases xs with
  | nil=>exact ⟨d,rfl,e⟩
  | cons d2 xs=>rcases hs with rfl | rfl | rfl<;>cases d<;>cases e
theorem sW {a:BT.E}{s:BT.Sl}{h h':BT.HH}{ws:List BT.W} (e:BT.evs F G (.cons a .nil) s h=some (ws,h')):∃ w,ws=[w]/\BT.ev F G a s h=some (w,h'):=by
 simp only[BT.evs] at e
 obtain ⟨w,g,e1,e2⟩:=ak e
 simp only[BT.kM,BT.bg,BT.iA] at e2
 cases e2
 exact ⟨w,rfl,e1⟩
theorem sY {X:Cx}{tg x:Nn}{a:BT.E} (he:PE X x (tD X F G a)):PI X tg x (iD X F G .seq (.cons a .nil)):=by
 intro pins s σ H R I q
 obtain ⟨m,s',h,ws,h',ds,RR,S,e,e2,ha,post⟩:=q
 obtain ⟨d,rfl,e3⟩:=yx (.inl rfl) e2 ha
 obtain ⟨w,ew,e4⟩:=sW e
 cases ew
 rw[BT.xh] at e3
 cases d<;>simp only[BT.nE] at e3<;>try contradiction
 ·cases e3
  refine DC he pins s σ H R I ⟨m,s',h,_,h',RR,S,e4,fun v H1 m1 x1 R1 r1=>?_⟩
  cases r1 with
  | p r1 =>
   cases r1 with
   | @tup a vs _ h r=>exact ⟨a,rfl,⟨vs,h.elim (fun q=>.inl q.1) fun ⟨o,its,n,q,_⟩=>.inr ⟨o,its,n,q⟩⟩,post H1 m1 _ x1 R1 (EY h r)⟩
 ·cases e3
  refine z7 he pins s σ H R I ⟨m,s',h,_,h',RR,S,e4,fun v H1 m1 x1 R1 r1=>?_⟩
  cases r1 with
  | p r1 =>
   cases r1 with
   | @lst a vs _ h r=>exact ⟨a,rfl,⟨vs,LL.sq (h.elim (fun q=>.inl q.1) .inr)⟩,post H1 m1 _ x1 R1 (Bj h r)⟩
theorem pM {X:Cx}{sc:NO}{N:List Str} (O:Ok X F G sc N) {tg e:Nn}{sa:BT.Es}{p pos:Pos} (hg:aL sc "range"=true) (hs:noStar e=true) (ha:PA X [e] (tDs X F G sa)):PI X tg (.Call (.Name "range" p) [e] [] pos) (iD X F G .rng1 sa):=by
 refine PI.weak (uC (aQ O hg) (O.blt _ (by decide)) ha (aj hs)) fun σ H R q=>?_
 obtain ⟨m,s',h,ws,h',ds,RR,S,e,e2,ha,post⟩:=q
 obtain ⟨d,rfl,e3⟩:=yx (.inr (.inr rfl)) e2 ha
 refine ⟨m,s',h,_,h',RR,S,e,fun vs H1 m1 x1 R1 r1=>?_⟩
 obtain ⟨j,rfl⟩:∃ j:Int,d=.int j:=by
  cases d with
  | int j=>exact ⟨j,rfl⟩
  | _=>exact absurd (show (none:Option (List BT.D))=some _ from e3) (fun z=>nomatch z)
 rw[BT.bE] at e3
 split at e3
 ·rename_i c
  simp only[Nt,decide_eq_true_eq] at c
  cases e3
  cases r1 with
  | cons r t =>
   cases t
   cases r with
   | p r =>
    cases r
    exact ⟨j,rfl,by omega,by omega,post H1 m1 _ x1 R1 (yv 0 j.toNat)⟩
 ·cases e3
theorem Il {ws:List BT.W}{h:BT.HH}{ds:List BT.D} (e:(BT.rds ws h).bind (BT.dZ .rng2)=some ds) (ha:BT.gn ws=true):∃ i j:Int,ws=[.p (.int i),.p (.int j)]/\(-100000<=i/\i<=100000/\-100000<=j/\j<=100000)/\ds=BT.upto i (j - i).toNat:=by
 obtain ⟨xs,rfl⟩:=sV ha
 rw[yw,OJ] at e
 have hx:∃ i j:Int,xs=[.int i,.int j]:=by
  match xs,e with
  | [.int i,.int j],_=>exact ⟨i,j,rfl⟩
 obtain ⟨i,j,rfl⟩:=hx
 rw[BT.gO] at e
 split at e
 ·rename_i c
  simp only[Nt,decide_eq_true_eq] at c
  cases e
  exact ⟨i,j,rfl,⟨c.1.1.1,c.1.1.2,c.1.2,c.2⟩,rfl⟩
 ·cases e
theorem pN {X:Cx}{sc:NO}{N:List Str} (O:Ok X F G sc N) {tg x y:Nn}{sa:BT.Es}{p pos:Pos} (hg:aL sc "range"=true) (hs:noStar x=true) (hs2:noStar y=true) (ha:PA X [x,y] (tDs X F G sa)):PI X tg (.Call (.Name "range" p) [x,y] [] pos) (iD X F G .rng2 sa):=by
 refine PI.weak (uD (aQ O hg) (O.blt _ (by decide)) ha (by rw[aj hs,aj hs2];rfl) (by rw[aj hs2];rfl)) fun σ H R q=>?_
 obtain ⟨m,s',h,ws,h',ds,RR,S,e,e2,ha,post⟩:=q
 obtain ⟨i,j,rfl,c,rfl⟩:=Il e2 ha
 refine ⟨m,s',h,_,h',RR,S,e,fun vs H1 m1 x1 R1 r1=>?_⟩
 cases r1 with
 | cons r t =>
  cases t with
  | cons r2 t2 =>
   cases t2
   cases r with
   | p r =>
    cases r
    cases r2 with
    | p r2 =>
     cases r2
     exact ⟨i,j,rfl,⟨by omega,by omega,by omega,by omega⟩,post H1 m1 _ x1 R1 (yv i (j - i).toNat)⟩
theorem sZ {X:Cx}{sc:NO}{N:List Str} (O:Ok X F G sc N) {tg e:Nn}{a:BT.E}{p pos:Pos} (hg:aL sc "reversed"=true) (hs:noStar e=true) (he:PE X e (tD X F G a)):PI X tg (.Call (.Name "reversed" p) [e] [] pos) (iD X F G .rev (.cons a .nil)):=by
 intro pins s σ H R I q
 obtain ⟨m,s',h,ws,h',ds,RR,S,e,e2,ha,post⟩:=q
 obtain ⟨d,rfl,e3⟩:=yx (.inr (.inl rfl)) e2 ha
 obtain ⟨w,ew,e4⟩:=sW e
 cases ew
 obtain ⟨xs,rfl⟩:∃ xs:List BT.D,d=.lst xs:=by
  cases d with
  | lst xs=>exact ⟨xs,rfl⟩
  | _=>exact absurd (show (none:Option (List BT.D))=some _ from e3) (fun z=>nomatch z)
 ·cases e3
  refine Call_ (dX (u:=.type "reversed") I (aQ O hg) (O.blt _ (by decide)) (by decide +kernel) (N8 (thn (gJ he nk (aj hs) pos pins s σ H (fun vs H1=>∃ a vt,vs=[.ref a]/\∃ m1,Ext m H m1 H1/\RH X.K m1 H1 h'/\((Rd H1 a (.lst vt)/\a∉m1)\/KL X.K a vt)/\RDs X.K m1 H1 vt xs) I ?_) fun us s1 ⟨vs,H1,I1,r1,q1⟩=>?_) (aj hs) rfl))
  ·refine ⟨m,s',h,_,h',RR,S,e4,fun v H1 m1 x1 R1 r1=>?_⟩
   cases r1 with
   | p r1 =>
    cases r1 with
    | @lst a vt _ hh r=>exact ⟨a,vt,rfl,m1,x1,R1,hh,r⟩
  ·obtain ⟨a,vt,rfl,m1,x1,R1,hh,r⟩:=q1
   obtain ⟨u,rfl,ru⟩:=vals1 r1
   cases ru
   obtain ⟨z,its,nn,rv,hl,ee⟩:=rdL I1 (hh.elim (fun q=>.inl q.1) .inr)
   have hL:s1.heap.IsList a its.toArray:=⟨_,ee,rfl,_,rfl⟩
   have hlen:=r.length
   refine call_reversed_list hL ?_
   have stt:({ s1 with heap:=s1.heap.push (revObj a ((its.toArray.size:Int) - 1)) }:Nr).heap.IsRevIter s1.heap.objs.size a ((xs.length:Int) - 1 - ((0:Nat):Int)):=by
    refine ⟨_,Nz _ rfl,rfl,?_⟩
    show Data.fields #[.ref a,Pc ((its.toArray.size:Int) - 1)]=_
    rw[Nv,← hl,hlen]
    simp
   refine wpAny_pyIter_revIter stt ?_
   refine ⟨s1.heap.objs.size,[s1.heap.objs.size],_,_,H1,rfl,I1.kept (t':=s1.toks) fun b o e=>Nq _ e,yu a _ xs.length,stt,fun b hb=>?_,post H1 m1 _ x1 R1 (EZ hh r)⟩
   have e:b=s1.heap.objs.size:=by simpa using hb
   subst e
   exact I1.vX (Nu _) (I1.hok.fresh (Nu _))
end
end BS
end
section
namespace BS
open PySem PySem.Spec PyProof.Rows L2
section
variable {P:NG}{w:N2}{K:Nl}{m m':List Addr}{H H':Hp}
theorem RKs.length {vs:List (Key×V)}{kvs:List (BT.Ky×BT.D)} (r:RKs K m H vs kvs):vs.length=kvs.length:=by
 induction r with
 | nil=>rfl
 | cons _ _ _ ih=>simp[ih]
theorem RKs.any {vs:List (Key×V)}{kvs:List (BT.Ky×BT.D)} (r:RKs K m H vs kvs) (k:Key):(vs.any fun kv=>decide (kv.1=k))=kvs.any fun kv=>decide (kv.1=k):=by
 induction r with
 | nil=>rfl
 | cons _ _ _ ih=>rw[Rn,Rn,ih]
theorem RKs.snoc {vs:List (Key×V)}{kvs:List (BT.Ky×BT.D)} (r:RKs K m H vs kvs) (k:Key) {v:V}{d:BT.D} (hk:RD K m H (kV k) (BT.qJ k)) (q:RD K m H v d):RKs K m H (vs++[(k,v)]) (kvs++[(k,d)]):=by
 induction r with
 | nil=>exact .cons hk q .nil
 | cons h r _ ih=>exact .cons h r ih
theorem RKs.repl {vs:List (Key×V)}{kvs:List (BT.Ky×BT.D)} (r:RKs K m H vs kvs) (k:Key) {v:V}{d:BT.D} (q:RD K m H v d):RKs K m H (vs.map fun kv=>if kv.1=k then (kv.1,v) else kv) (kvs.map fun kv=>if kv.1=k then (kv.1,d) else kv):=by
 induction r with
 | nil=>exact .nil
 | @cons j v1 d1 vs kvs hk r t ih =>
  rw[NW,NW]
  by_cases c:j=k
  ·rw[if_pos c,if_pos c];exact .cons hk q ih
  ·rw[if_neg c,if_neg c];exact .cons hk r ih
theorem RKs.put {vs:List (Key×V)}{kvs:List (BT.Ky×BT.D)} (r:RKs K m H vs kvs) (k:Key) {v:V}{d:BT.D} (hk:RD K m H (kV k) (BT.qJ k)) (q:RD K m H v d):RKs K m H (putK vs k v) (BT.rZ kvs k d):=by
 unfold putK BT.rZ
 rw[r.any k]
 split
 ·exact r.repl k q
 ·exact r.snoc k hk q
theorem E1 {v:V}{d:BT.D}{k:Key} (r:RD K m H v d) (e:BT.o9 d=some k):v=kV k:=by
 cases r<;>cases e<;>rfl
theorem E2 {v:V}{d:BT.D}{k:Key} (r:RD K m H v d) (e:BT.o9 d=some k):RD K m H (kV k) (BT.qJ k):=by
 cases r with
 | int i=>cases e;exact .int i
 | str x h=>cases e;exact .str x h
 | _=>cases e
end
section
variable {X:Cx}{F:FT}{G:Str->Option BT.W}
noncomputable def Im:V->V->V->Hp->(Hp->Prop)->Prop:=fun o i v H Q=>∃ p kvs k,o=.ref p/\i=kV k/\H p=some (.dK kvs)/\kvs.length < sizeLine/\Q (upd H p (.dK (putK kvs k v)))
end
section
variable {prog:NG}{w:N2}{A:Oz}{E:Np->Nr->Prop}{s:Nr}
theorem pO {v:Np}{Q:Np->Nr->Prop} (hc:wpAny (NR prog w) A.in1 (collect v) (fun vs s1=>vs.length<=sizeLine/\wpAny (NR prog w) A.in1.in1 (Builtin.«list.sort» { pos:=[.ref s1.heap.objs.size] }) (fun fin s2=>∃ u,fin=.done (.ret u)/\Q (.ref s1.heap.objs.size) s2) E
 { s1 with heap:=s1.heap.push (seqObj "list" vs.toArray 0) }) E s):wpAny (NR prog w) A (call (.builtin "sorted") [v]) Q E s:=by
 refine Calls.call_function_entry kind_sorted plain_sorted entry_sorted (args_sorted1 v) ?_
 show wpAny _ _ (Builtin.sorted { pos:=[v] }) _ _ s
 unfold Builtin.sorted
 refine wpAny_bind (wpAny_pure ?_)
 refine wpAny_bind (wpAny_mono hc (fun vs s1 h1=>?_) fun _ _ x=>x)
 obtain ⟨hz,h1⟩:=h1
 simp only[newList]
 refine wpAny_bind (Oc ?_ (by first | size_fits | (rw[Nv];exact hz) | exact hz))
 refine wpAny_bind (OL (PL slot_list_sort ⟨_,Nz _ rfl,rfl⟩ entry_list_sort ?_ (args_list_sort _)))
 refine wpAny_mono h1 (fun fin s2 q=>?_) fun _ _ x=>x
 obtain ⟨u,rfl,q⟩:=q
 exact ⟨u,rfl,wpAny_pure ⟨_,rfl,q⟩⟩
end
section
variable {X:Cx}{F:FT}{G:Str->Option BT.W}
end
end BS
end
section
namespace BS
open PySem PySem.Spec PyProof.Rows L2
theorem kW:∀ (ns:List Int),(ND ns.length).map (fun i=>ns.getD i 0)=ns:=by
 intro ns
 refine List.ext_getElem (by simp) fun i h1 h2=>?_
 simp only[List.getElem_map,List.getElem_range]
 rw[Qk,NB h2];rfl
theorem Bk (ns:List Int):O3 (fun i=>ns.getD i 0) ns.length=BT.ded ns:=by
 unfold O3
 rw[kW];rfl
section
variable {F:FT}{G:Str->Option BT.W}
theorem Bl:∀ {xs:List V}{us:List Np},xs.length=us.length->(∀ (j:Nat) x u,xs[j]?=some x->us[j]?=some u->RelV x u)->au xs us:=by
 intro xs
 induction xs with
 | nil =>
  intro us h _
  cases us with
  | nil=>exact .nil
  | cons _ _=>simp at h
 | cons x xs ih =>
  intro us h q
  cases us with
  | nil=>simp at h
  | cons u us=>exact .cons (q 0 x u rfl rfl) (ih (by simpa using h) fun j a b e1 e2=>q (j+1) a b (by simpa using e1) (by simpa using e2))
theorem yy {X:Cx}{sc:NO}{N:List Str} (O:Ok X F G sc N) {mu:Bool}{ex:Nn}{sa:BT.Es}{np zp p pos:Pos} (hg:aL sc "list"=true) (hg2:aL sc "range"=true) (hs:noStar ex=true) (hA:PA X [ex] (tDs X F G sa)) :
 PE X (.Call (.Name "list" np) [.Call (.Name "range" zp) [ex] [] pos] [] p) (tD X F G (.lsr mu .rng1 sa)):=by
 intro pins s σ H Q I q
 have q:=jf (as:=sa) (k:=fun ws h=>BT.kLs mu .rng1 ws h) (fun s h=>by simp only[BT.ev]) q (R':=fun vs H1=>∃ m h ws z h',RH X.K m H1 h/\RWs X.prog X.w X.K m H1 vs ws/\BT.kLs mu .rng1 ws h=some (z,h')/\Post X.prog X.w X.K m H1 z h' Q) fun m h xs z h' vs H1 R r e post=>⟨m,h,xs,z,h',R,r,e,post⟩
 refine Call_ (dX (u:=.type "list") I (aQ O hg) (O.blt _ (by decide)) (by decide +kernel) (N8 ?_ (aj rfl) rfl))
 rw[aj (show noStar (.Call (.Name "range" zp) [ex] [] pos)=true from rfl)]
 show wpAny _ _ (R6 ((false,eval (.Call (.Name "range" zp) [ex] [] pos) X.env) :: Po p (NZ [] X.env))) _ _ s
 refine O9 (Call_ (dX (u:=.type "range") I (aQ O hg2) (O.blt _ (by decide)) (by decide +kernel) (N8 (thn (hA pos pins s σ H _ I q) fun us s1 ⟨vs,H1,I1,r1,q1⟩=>?_) (aj hs) rfl)))
 obtain ⟨m,h,ws,z,h',R,rws,e,post⟩:=q1
 unfold BT.kLs at e
 cases g1:(BT.rds ws h).bind (BT.dZ .rng1) with
 | none=>rw[g1] at e;cases e
 | some ds =>
  rw[g1] at e
  simp only at e
  by_cases cl:ds.length<=BT.lim
  case neg=>rw[if_neg cl] at e;cases e
  rw[if_pos cl] at e
  have ez:BT.new mu ds h=(z,h'):=NH e
  obtain ⟨xs,e1,e2⟩:=Option.bind_eq_some_iff.mp g1
  have rr:=d7 R rws e1
  have hd:∃ j:Int,xs=[.int j]:=by
   match xs,e2 with
   | [.int j],_=>exact ⟨j,rfl⟩
  obtain ⟨j,rfl⟩:=hd
  rw[BT.bE] at e2
  split at e2
  case isFalse=>cases e2
  rename_i c
  simp only[Nt,decide_eq_true_eq] at c
  have ed:BT.upto 0 j.toNat=ds:=NH e2
  obtain ⟨v,rfl,r⟩:=rr.one
  cases r with
  | d r =>
   cases r
   obtain ⟨u,rfl,eu⟩:=vals1 r1
   obtain ⟨t,rfl⟩:=eu
   refine call_range_1 (PP ?_)
   refine call_list_range (s:={ s1 with heap:=s1.heap.push { cls:=.type "range",data:=.fields #[.int 0 s1.toks,.int j t,.int 1 (s1.toks+1)] },toks:=s1.toks+1+1 }) (I1.ok.hd O.calm) (IsRange.new ..) (small_one (by omega) (by omega) (by omega) (by omega)) (n:=j.toNat) (by rw[rangeSize_one];split<;>omega) (by omega) fun h2 tk acc c' hk hS hacc=>?_
   have nn:ds=((ND j.toNat).map fun (k:Nat)=>(0:Int)+(k:Int)).map BT.D.int:=by rw[← ed,PD];rfl
   have hk':∀ b u,s1.heap.get? b=some u->h2.get? b=some u:=fun b u q=>hk b u (Nq _ q)
   have hle:s1.heap.objs.size<=(s1.heap.push { cls:=.type "range",data:=.fields #[.int 0 s1.toks,.int j t,.int 1 (s1.toks+1)] }).objs.size:=by rw[OO];exact Ox _
   have hv:au (((ND j.toNat).map fun (k:Nat)=>(0:Int)+(k:Int)).map V.int) acc.toList:=by
    refine Bl (by simp[hacc.1]) fun i x u e1 e2=>?_
    obtain ⟨t',rfl⟩:=hacc.2 i u (by simpa using e2)
    have:x=.int (0+(i:Int)):=by
     rw[PD,N1] at e1
     rcases NK i j.toNat with z | z
     ·rw[Qh z] at e1
      exact (NH e1).symm
     ·rw[NF (by simpa using z)] at e1;cases e1
    subst this
    exact ⟨t',by simp⟩
   have sl:sizeLine=16777216:=Ry
   refine ⟨.ref _,_,I1.laid (h':=h2) (t':=tk) (o:=.lst (((ND j.toNat).map fun (k:Nat)=>(0:Int)+(k:Int)).map V.int)) hk' hle ⟨by rw[NP,NP,O5];omega,acc.toList,c',hv,by simpa using hS⟩,rfl,?_⟩
   refine jY (mu:=mu) R (I1.hok.fresh hle) (jd _) ?_
   rw[← nn,ez]
   exact post
end
end BS
end
section
namespace BX
open PySem PyProof.Rows
theorem NX.keep {w:N2}{h h':Heap}{it a S:Addr}{ord:List Np}{i:Nat}{oS:Obj} (N:NX w h it a ord i) (hS:h.get? S=some oS) (hc:oS.cls=.type "list") (ha:a≠S) (k:∀ b o,b≠S->h.get? b=some o->h'.get? b=some o):NX w h' it a ord i:=by
 obtain ⟨o,es,ep,t,first,ho,hd,hf,hi,m⟩:=N.ex
 refine ⟨o,es,ep,t,first,k _ _ ha ho,hd,hf,k _ _ (fun z=>?_) hi,?_⟩
 ·subst z
  rw[hS] at hi
  cases hi
  exact absurd (show (Qs "set_iterator")=.type "list" from hc) (by decide)
 ·cases m with
  | A hb=>exact .A hb
  | B hT hp =>
   obtain ⟨oT,e,c,n,d⟩:=hT
   refine .B ⟨oT,k _ _ (fun z=>?_) e,c,n,d⟩ hp
   subst z
   rw[hS] at e
   cases e
   rw[hc] at c
   exact absurd c (by decide)
  | C hb hd ht=>exact .C hb hd ht
section
variable {prog:NG}{w:N2}{A:Oz}{E:Np->Nr->Prop}{s:Nr}{R:SK->Nr->Prop}
theorem yz (hh:A.handled=none) {it a S:Addr}{ord:List Np}{oa:Obj}{es:Array (Int×Np)}{ep:Nat}{t:SetTable}{h₁:Heap} (hia:it≠a) (haS:a≠S) (hiS:it≠S) (hn:ord.length<=sizeLine) (hA:h₁.get? a=some oa) (hd:oa.data=.set es ep t) (hl:ord.length=es.size) (res:Np)
 (hR:∀ h' c,(∀ b o,b≠S->b≠it->h₁.get? b=some o->h'.get? b=some o)->h'.get? S=some { cls:=.type "list",dict:=none,data:=.seq ord.toArray c,slots:=#[] }->R (.ok (.ret res)) { s with heap:=h' }) :
 ∀ (k i:Nat) (h:Heap) (c:Nat),ord.length - i=k->i<=ord.length->NX w h it a ord i->(∀ b o,b≠S->b≠it->h₁.get? b=some o->h.get? b=some o) →
  h.get? S=some { cls:=.type "list",dict:=none,data:=.seq (ord.take i).toArray c,slots:=#[] } →
  codeAny (NR prog w) A (.builtin "list.extend.loop" ⟨[.ref S,.ref it,res],[]⟩) R { s with heap:=h }:=by
 intro k
 induction k with
 | zero =>
  intro i h c hk hi N hkeep hS
  have hin:i=ord.length:=by omega
  refine codeAny_builtin RO ?_
  rw[O1 OU _]
  show wpAny _ A.in1 (RL (.ref it) >>= _) _ _ _
  refine wpAny_bind (D5 (s:={ s with heap:=h }) (A:=A.in1) hh N hin (fun o es' ep' t' e1 e2=>?_) fun h' he=>?_)
  ·have e3:=hkeep a oa haS hia.symm hA
   replace e1:h.get? a=some o:=e1
   rw[e3] at e1
   cases e1
   rw[hd] at e2
   cases e2
   exact hl
  ·subst hin
   rw[List.take_length] at hS
   exact wpAny_pure (hR h' c (fun b o n1 n2 e=>he b o n2 (hkeep b o n1 n2 e)) (he S _ hiS.symm hS))
 | succ k ih =>
  intro i h c hk hi N hkeep hS
  have hlt:i < ord.length:=by omega
  have hx:ord[i]?=some ord[i]:=NB hlt
  refine codeAny_builtin RO ?_
  rw[O1 OU _]
  show wpAny _ A.in1 (RL (.ref it) >>= _) _ _ _
  refine wpAny_bind (AA (s:={ s with heap:=h }) N hia hx fun h' N' sb=>?_)
  have hkp:∀ b o,b≠it->h.get? b=some o->h'.get? b=some o:=sb.extBut
  have hS':=hkp S _ hiS.symm hS
  have up:∀ b o,b≠S->h'.get? b=some o->(h'.update S (Pr (·.push ord[i]))).get? b=some o:=fun b o hb e=>(O8 _ _ (Os hb)).trans e
  have hsz:(ord.take i).toArray.size=i:=by simp;omega
  show wpAny _ A.in1 (updateSeq S (·.push ord[i]) >>= _) _ _ _
  refine wpAny_bind ?_
  have tk:(ord.take i).toArray.push ord[i]=(ord.take (i+1)).toArray:=by rw[List.push_toArray,List.take_append_getElem]
  obtain ⟨c',hg⟩:∃ c',(h'.update S (Pr (·.push ord[i]))).get? S=some { cls:=.type "list",dict:=none,data:=.seq (ord.take (i+1)).toArray c',slots:=#[] }:=⟨_,by rw[← tk];exact Od (Pr (·.push ord[i])) hS' rfl⟩
  exact Q7 hS' rfl (wpAny_pure ⟨plainId_quiet OU _,ih (i+1) _ c' (by omega) hlt (N'.keep hS' rfl haS up) (fun b o h1 h2 e=>up b o h1 (hkp b o h2 (hkeep b o h1 h2 e))) hg⟩) (by rw[hsz];omega) (by show ((ord.take i).toArray.push ord[i]).size<=sizeLine+1;rw[Array.size_push,hsz];omega)
end
theorem Bm:typeLookup (.type "set") "__len__"=pure (some (.builtin "set.__len__")):=by rw[typeLookup_type,builtinLookup_eq_fast];kernel_rfl
section
variable {prog:NG}{w:N2}{A:Oz}{E:Np->Nr->Prop}{s:Nr}
theorem yC {r:Addr} (hT:s.TypeIs (.ref r) "set") {Q:Bool->Nr->Prop} (h:Q false s):wpAny (NR prog w) A (Q6 (.ref r)) Q E s:=by
 unfold Q6
 refine wpAny_bind (wpAny_specialOf hT Bm ?_)
 generalize hid:("set.__len__":String)=id0
 wp_delta
 rw[show splitId id0=some ("set","__len__") from by subst hid;decide +kernel]
 subst hid
 refine wpAny_bind (Qi (T:="set") (b:=true) hT (by rw[isSubtype_type];kernel_rfl) ?_)
 refine Q8 (fun hab=>absurd hab (by decide)) (fun _=>?_)
 refine Q8 (fun _=>?_) (fun hab=>absurd (by decide +kernel) hab)
 refine wpAny_bind (Qc hT ?_)
 exact wpAny_pure h
theorem qX {R:SK->Nr->Prop} (hh:A.handled=none) {a S:Addr}{o:Obj}{es:Array (Int×Np)}{ep:Nat}{t:SetTable} (ho:s.heap.get? a=some o) (hx:o.ExactSet) (hd:o.data=.set es ep t) (hf:t.fits es.size=true) (hb:es.size < Qd) (ht:Tb (w.params.followText "set-order") t) (haS:a≠S) (res:Np) (c₀:Nat) (hS:s.heap.get? S=some { cls:=.type "list",data:=.seq #[] c₀ })
 (hR:∀ h' d (ord:List Np) c,(∀ b o,b≠S->s.heap.get? b=some o->h'.get? b=some o)->ord.Perm (es.toList.map (·.2))->h'.get? S=some { cls:=.type "list",dict:=none,data:=.seq ord.toArray c,slots:=#[] }->R (.ok (.ret res)) { s with heap:=h',drawn:=d }) :
 wpAny (NR prog w) A.in1 (PR (.ref S) (.ref a) res)
  (fun fin s'=>match fin with | .done f=>R (.ok f) s' | .again c'=>c'.quiet=true/\codeAny (NR prog w) A c' R s') (fun e s'=>R (.error e) s') s:=by
 have hT:s.TypeIs (.ref a) "set":=⟨o,ho,hx.1⟩
 have al:a < s.heap.objs.size:=Nx ho
 have Sl:S < s.heap.objs.size:=Nx hS
 unfold PR
 refine wpAny_bind (Qc hT ?_)
 have h1:Ru (.ref S) (.ref a)=false:=by simp[Ru,haS.symm]
 have h2:(Qs "set"==Qs "list")=false:=by decide
 have h3:(Qs "set"==Qs "tuple")=false:=by decide
 simp only[h1,h2,h3,Ro,Bool.false_eq_true,if_false]
 refine wpAny_bind (wY (s:=s) ho hx hd hf hb ht fun h₁ d it ord N up hit hsz hp=>?_)
 have ln:ord.length=es.size:=by rw[hp.length_eq,NP,OF]
 have fit:=P4 hb
 have key:∀ (h:Heap) (c₁:Nat),(∀ b o,b≠S->h₁.get? b=some o->h.get? b=some o)->h.get? S=some { cls:=.type "list",data:=.seq #[] c₁ }->codeAny (NR prog w) A (.builtin "list.extend.loop" ⟨[.ref S,.ref it,res],[]⟩) R { s with heap:=h,drawn:=d }:=by
  intro h c₁ hk hS₁
  refine yz (s:={ s with drawn:=d }) (h₁:=h₁) (t:=t) hh (O6 (NU al hit)) haS (O6 (NU Sl hit)) (by omega) (up a o ho) hd ln res (fun h' c hk' hS'=>hR h' d ord c (fun b o hb e=>hk' b o hb (NV (NU (Nx e) hit)) (up b o e)) hp hS')
   ord.length 0 h c₁ (Nat.sub_zero _) (N5 _) (N.keep (up S _ hS) rfl haS hk) (fun b o hb _ e=>hk b o hb e) (by simpa using hS₁)
 have hS₁:=up S _ hS
 refine wpAny_bind (OL (yC (s:={ s with heap:=h₁,drawn:=d }) ⟨o,up a o ho,hx.1⟩ ?_))
 refine Q8 (fun _=>?_) (fun _=>wpAny_pure ⟨plainId_quiet OU _,key _ c₀ (fun b o _ e=>e) hS₁⟩)
 refine wpAny_bind (RZ ?_)
 refine wpAny_bind ?_
 show wpAny _ _ (updateSeq S (·.push .none) >>= fun _=>updateSeq S (·.pop)) _ _ _
 refine wpAny_bind (Q7 hS₁ rfl ?_)
 have hS₂:=Od (Pr (·.push P9)) hS₁ rfl
 refine Q7 (hz:=by seq_fits) hS₂ rfl ?_
 have hS₃:=Od (Pr (·.pop)) hS₂ rfl
 refine wpAny_pure ⟨plainId_quiet OU _,key _ _ (fun b o hb e=>?_) hS₃⟩
 exact (O8 _ _ (Os hb)).trans ((O8 _ _ (Os hb)).trans e)
theorem pP {R:List Np->Nr->Prop} (hh:A.handled=none) {a:Addr}{o:Obj}{es:Array (Int×Np)}{ep:Nat}{t:SetTable} (ho:s.heap.get? a=some o) (hx:o.ExactSet) (hd:o.data=.set es ep t) (hf:t.fits es.size=true) (hb:es.size < Qd) (ht:Tb (w.params.followText "set-order") t)
 (h:∀ h' d ord,s.heap.objs.size < h'.objs.size->(∀ b o,s.heap.get? b=some o->h'.get? b=some o)->ord.Perm (es.toList.map (·.2))->R ord { s with heap:=h',drawn:=d }) :
 wpAny (NR prog w) A (collect (.ref a)) R E s:=by
 have hr:a < s.heap.objs.size:=Nx ho
 unfold collect
 refine wpAny_bind (wpAny_runValue (codeAny_builtin PySem.F.entry_proto_collect ?_))
 rw[O1 PySem.F.plain_proto_collect _]
 show wpAny _ A.in1 (newList [] >>= fun l=>again (.builtin "list.__iadd__" ⟨[l,.ref a],[]⟩)) _ _ s
 refine wpAny_bind (Oc ?_)
 refine wpAny_pure ⟨plainId_quiet Sf _,codeAny_builtin PySem.F.entry_list_iadd ?_⟩
 rw[O1 Sf _]
 have hS₁:(s.heap.push { cls:=.type "list",data:=.seq ([]:List Np).toArray }).get? s.heap.objs.size=some { cls:=.type "list",data:=.seq #[] }:=Nz _ rfl
 show wpAny _ A.in1 (PR (.ref s.heap.objs.size) (.ref a) (.ref s.heap.objs.size)) _ _ _
 have key:=qX (prog:=prog) (A:=A) (s:={ s with heap:=s.heap.push { cls:=.type "list",data:=.seq ([]:List Np).toArray } })
  (R:=fun (q:SK) (s':Nr)=>∃ (h':Heap) (d:Drawn) (ord:List Np) (c':Nat),q=.ok (.ret (.ref s.heap.objs.size))/\s'={ s with heap:=h',drawn:=d } ∧
   (∀ b o,s.heap.get? b=some o->h'.get? b=some o)/\ord.Perm (es.toList.map (·.2))/\h'.get? s.heap.objs.size=some { cls:=.type "list",dict:=none,data:=.seq ord.toArray c',slots:=#[] })
  hh (Nq _ ho) hx hd hf hb ht (NV hr) (.ref s.heap.objs.size) 0 hS₁
  (fun h' d ord c' hk hp hS'=>⟨h',d,ord,c',rfl,rfl,fun b o e=>hk b o (NV (Nx e)) (Nq _ e),hp,hS'⟩)
 refine wpAny_mono key (fun fin s' x=>?_) fun e s' x=>?_
 ·cases fin with
  | done f =>
   obtain ⟨h',d,ord,c',e,rfl,hk,hp,hS'⟩:=x
   cases e
   show wpAny _ A (load s.heap.objs.size >>= _) _ _ _
   refine wpAny_bind (wpAny_load hS' ?_)
   refine wpAny_pure ?_
   show R ord.toArray.toList _
   exact h h' d ord (Nx hS') hk hp
  | again c₁ =>
   refine ⟨x.1,codeAny_mono x.2 fun q s₂ y=>?_⟩
   obtain ⟨h',d,ord,c',rfl,rfl,hk,hp,hS'⟩:=y
   show wpAny _ A (load s.heap.objs.size >>= _) _ _ _
   refine wpAny_bind (wpAny_load hS' ?_)
   refine wpAny_pure ?_
   show R ord.toArray.toList _
   exact h h' d ord (Nx hS') hk hp
 ·obtain ⟨_,_,_,_,e',_⟩:=x
  cases e'
theorem tw:∀ {vs:List Np},(∀ v∈vs,∃ k,S9 k v=true)->∃ ks,Qw vs ks/\∀ k,k∈ks↔∃ v∈vs,S9 k v=true
 | [],_=>⟨[],.nil,fun k=>by simp⟩
 | v :: vs,h=>by
  obtain ⟨k,hk⟩:=h v NI
  obtain ⟨ks,h1,h2⟩:=tw fun u hu=>h u (NC _ hu)
  obtain ⟨t,rfl⟩:=TJ hk
  refine ⟨k :: ks,.cons k t h1,fun j=>?_⟩
  constructor
  ·intro hj
   rcases List.mem_cons.mp hj with rfl | hj
   ·exact ⟨_,NI,hk⟩
   ·obtain ⟨u,u1,u2⟩:=(h2 j).mp hj
    exact ⟨u,NC _ u1,u2⟩
  ·rintro ⟨u,u1,u2⟩
   rcases List.mem_cons.mp u1 with rfl | u1
   ·rw[Value.isInt_inj _ _ _ u2 hk];exact NI
   ·exact NC _ ((h2 j).mpr ⟨u,u1,u2⟩)
theorem mT:∀ {l ks:List Int},l.Nodup->(∀ k∈l,k∈ks)->ks.length=l.length->l.Perm ks
 | [],ks,_,_,h=>by rw[List.length_eq_zero_iff.mp h]
 | x :: l,ks,n,m,h=>by
  have hx:=m x NI
  obtain ⟨n1,n2⟩:=List.nodup_cons.mp n
  have:=mT (l:=l) (ks:=ks.erase x) n2 (fun k hk=>(List.mem_erase_of_ne (a:=k) (b:=x) (fun z=>n1 (by rw[← z];exact hk))).mpr (m k (NC _ hk))) (by rw[List.length_erase_of_mem hx,h];simp)
  exact (this.cons x).trans (List.perm_cons_erase hx).symm
theorem qY:∀ (ns acc:List Int),acc.Nodup->(ns.foldl (fun σ v=>if σ.any (·==v) then σ else σ++[v]) acc).Nodup
 | [],acc,h=>h
 | n :: ns,acc,h=>by
  show (ns.foldl _ (if acc.any (·==n) then acc else acc++[n])).Nodup
  by_cases c:acc.any (·==n)=true
  ·rw[if_pos c];exact qY ns acc h
  ·rw[if_neg c]
   refine qY ns _ (List.nodup_append.mpr ⟨h,by simp,fun a ha b hb=>?_⟩)
   rw[List.mem_singleton.mp hb]
   intro z
   subst z
   exact c (List.any_eq_true.mpr ⟨a,ha,by simp⟩)
theorem vg (ns:List Int):(BT.ded ns).Nodup:=qY ns [] Qn
theorem vh {vs us:List Np}{ks:List Int} (p:us.Perm vs) (h:Qw vs ks):∃ ks',Qw us ks'/\ks'.Perm ks:=by
 induction p generalizing ks with
 | nil=>exact ⟨ks,h,.refl _⟩
 | cons x p ih =>
  cases h with
  | cons n t h =>
   obtain ⟨ks',a,b⟩:=ih h
   exact ⟨n :: ks',.cons n t a,b.cons n⟩
 | swap x y l =>
  cases h with
  | cons n t h =>
   cases h with
   | cons n2 t2 h=>exact ⟨n2 :: n :: _,.cons n2 t2 (.cons n t h),.swap _ _ _⟩
 | trans p q ih1 ih2 =>
  obtain ⟨k1,a,b⟩:=ih2 h
  obtain ⟨k2,a2,b2⟩:=ih1 a
  exact ⟨k2,a2,b2.trans b⟩
theorem qZ {a:Addr}{ns:List Int}{Q:Np->Nr->Prop} (hh:A.handled=none) (hs:lP prog w (w.params.followText "set-order") s.heap a (fun k'=>(BT.ded ns).any (·==k')) (BT.ded ns).length) (h64:(BT.ded ns).length < 64)
 (hQ:∀ h' d p out e,Qw out.toList (BT.sortI (BT.ded ns))->(∀ b o,s.heap.get? b=some o->h'.get? b=some o)->s.heap.objs.size<=p->h'.get? p=some (seqObj "list" out e)->Q (.ref p) { s with heap:=h',drawn:=d }) :
 wpAny (NR prog w) A (call (.builtin "sorted") [.ref a]) Q E s:=by
 obtain ⟨o,es,ep,t,ho,hex,hd,hel,hS,hb,hf,hn,ht⟩:=hs
 have fit:=P4 hb
 refine BS.pO (pP (A:=A.in1) hh ho hex hd hf hb ht fun h' d ord al up hp=>⟨by rw[hp.length_eq,NP,OF];omega,?_⟩)
 obtain ⟨ks,k1,k2⟩:=tw (vs:=es.toList.map (·.2)) fun v hv=>by
  obtain ⟨e,he,rfl⟩:=List.mem_map.mp hv
  obtain ⟨⟨k,hk,_⟩,_⟩:=hel e he
  exact ⟨k,hk⟩
 obtain ⟨ks',k3,k4⟩:=vh hp k1
 have ln:ks.length=(BT.ded ns).length:=by
  have:=Tn k1
  simp at this
  omega
 have pm:(BT.ded ns).Perm ks:=mT (vg ns) (fun k hk=>(k2 k).mpr (by
  obtain ⟨e,he,q⟩:=(hS k).mp (List.any_eq_true.mpr ⟨k,hk,by simp⟩)
  exact ⟨e.2,List.mem_map.mpr ⟨e,he,rfl⟩,q⟩)) ln
 refine PyProof.Rows.list_sort_tree (Nz _ rfl) k3 (by rw[hp.length_eq,NP,OF];omega) fun out ns' a1 a2 a3=>⟨_,rfl,?_⟩
 obtain ⟨e,he⟩:=PyProof.Rows.sortedHeap_at (h:=h'.push (seqObj "list" ord.toArray 0)) (a:=h'.objs.size) (vs:=ord) (n:=0) (out:=out) (Nz _ rfl)
 have es':ns'=BT.sortI (BT.ded ns):=Rp ((a2.trans k4).trans (pm.symm.trans (BT.sortI_perm _).symm)) a3 (BT.kJ _)
 subst es'
 refine hQ _ d _ out e a1 (fun b ob q=>?_) (OI al) he
 have q2:=up b ob q
 have lt:=Nx q2
 rw[PyProof.Rows.sortedHeap_old (NV lt) (by rw[OO];exact RC lt)]
 exact Nq _ q2
end
end BX
namespace BS
open PySem PySem.Spec PyProof.Rows L2
theorem Inv.drew {X:Cx}{pins:List (Addr×Obj)}{σ:List (Option V)}{H:Hp}{s:Nr}{d:Drawn} (I:Inv X pins σ H s):Inv X pins σ H { s with drawn:=d }:=⟨I.ok,I.os,I.bare,I.base,I.loc,I.cell,I.free,I.freeC,I.pin,I.hok,I.len⟩
theorem q9:∀ (ns acc:List Int),(ns.foldl (fun σ v=>if σ.any (·==v) then σ else σ++[v]) acc).length<=ns.length+acc.length
 | [],acc=>by simp
 | n :: ns,acc=>by
  show (ns.foldl _ (if acc.any (·==n) then acc else acc++[n])).length<=_
  by_cases c:acc.any (·==n)=true
  ·rw[if_pos c]
   have:=q9 ns acc
   simp only[NS]
   omega
  ·rw[if_neg c]
   have:=q9 ns (acc++[n])
   simp only[NS,NT,Ow] at this ⊢
   omega
section
variable {F:FT}{G:Str->Option BT.W}
theorem yD {X:Cx}{sc:NO}{N:List Str} (O:Ok X F G sc N) {ex:Nn}{sa:BT.Es}{np zp p pos:Pos} (hg:aL sc "sorted"=true) (hg2:aL sc "set"=true) (hs:noStar ex=true) (hA:PA X [ex] (tDs X F G sa)) :
 PE X (.Call (.Name "sorted" np) [.Call (.Name "set" zp) [ex] [] pos] [] p) (tD X F G (.bi .sset false sa)):=by
 intro pins s σ H Q I q
 have q:=gA q
 refine Call_ (dX (u:=.builtin "sorted") I (aQ O hg) (O.blt _ (by decide)) (by decide +kernel) (QV ?_ (aj rfl) rfl))
 rw[aj (show noStar (.Call (.Name "set" zp) [ex] [] pos)=true from rfl)]
 show wpAny _ _ (R6 ((false,eval (.Call (.Name "set" zp) [ex] [] pos) X.env) :: Po p (NZ [] X.env))) _ _ s
 refine O9 (Call_ (dX (u:=.type "set") I (aQ O hg2) (O.blt _ (by decide)) (by decide +kernel) (N8 (thn (hA pos pins s σ H _ I q) fun us s1 ⟨vs,H1,I1,r1,q1⟩=>?_) (aj hs) rfl)))
 obtain ⟨m,h,ws,z,h',R,rws,e,post⟩:=q1
 obtain ⟨ds,d,e1,e2,⟨_,rfl,rfl⟩ | ⟨_,q,_⟩⟩:=fX e
 rotate_left
 ·cases q
 have rr:=d7 R rws e1
 have hd:∃ xs,ds=[.lst xs]:=by
  match ds,e2 with
  | [.lst xs],_=>exact ⟨xs,rfl⟩
 obtain ⟨xs,rfl⟩:=hd
 rw[BT.pA] at e2
 obtain ⟨ns,g1,g2⟩:=Option.bind_eq_some_iff.mp e2
 by_cases c:ns.length < 64
 rotate_left
 ·rw[if_neg c] at g2;cases g2
 rw[if_pos c] at g2
 cases g2
 obtain ⟨v,rfl,r⟩:=rr.one
 obtain ⟨a,vt,rfl,ha,ra⟩:=r.lst
 rw[iG g1] at ra
 have ev:=fK ra
 subst ev
 obtain ⟨u,rfl,eu⟩:=vals1 r1
 cases eu
 obtain ⟨its,rv,pl,hz⟩:=I1.list ha.sq
 have hi:=intsAre_of rv
 have ln:=rv.length
 rw[NP] at ln
 have sz:its.toArray.size=ns.length:=by simp;omega
 refine BX.wR (items:=its.toArray) (ns:=ns) (I1.ok.hd O.calm) pl.isList (by simpa using hi) (by rw[sz];unfold Qd;omega) fun h2 tk hS hk=>?_
 rw[sz,Bk] at hS
 refine PP ?_
 have dl:=q9 ns []
 have dl2:(BT.ded ns).length < 64:=by
  have:(BT.ded ns).length<=ns.length+0:=dl
  omega
 refine BX.qZ (s:={ s1 with heap:=h2,toks:=tk }) (ns:=ns) (I1.ok.hd O.calm) hS dl2 fun h3 d p out e k1 k2 k3 k4=>?_
 have ge:s1.heap.objs.size<=p:=by
  obtain ⟨o,_,_,_,ho,_⟩:=hS
  exact Oj (OI (Nx ho)) k3
 have hv:=gM k1
 have sl:sizeLine=16777216:=Ry
 have l2:(BT.sortI (BT.ded ns)).length=(BT.ded ns).length:=(BT.sortI_perm _).length_eq
 exact ⟨.ref _,_,Inv.drew (I1.laid (o:=.lst ((BT.sortI (BT.ded ns)).map V.int)) (t':=tk) (fun b u q=>k2 b u (hk b u q)) ge ⟨by rw[NP];omega,out.toList,e,hv,k4⟩),rfl,fV R (I1.hok.fresh ge) (jd _) post⟩
end
end BS
end
section
namespace BS
open PySem PySem.Spec PyProof.Rows L2
noncomputable def Ite (K:Nl) (l:Addr):It :=
 ⟨fun i H=>∃ xs x,SqL K H l xs/\xs[i]?=some x,
  fun i H v H'=>∃ t x,v=.ref t/\H t=none/\H'=upd H t (.tup [.int (i:Nat),x])/\∀ xs,SqL K H l xs->xs[i]?=some x,
  fun i H=>∃ xs,SqL K H l xs/\xs.length<=i⟩
noncomputable def E3 (e it l:Addr) (i:Nat) (h:Heap):Prop:=(∃ old,IsEnum h e it ((i:Nat):Int) old)/\h.IsListIter it l i
theorem vj {P:NG}{w:N2}{K:Nl}{elts:List Nn}{kk:Nat}{tp:Pos}{e it l:Addr} (hne:e≠it):Turn P w K (.Tuple elts kk tp) (Ite K l) [e,it] e (E3 e it l) where
 mem:=by simp
 obj:=fun i h st b hb=>by
  obtain ⟨⟨old,a1⟩,⟨o1,e1,c1,d1⟩⟩:=st
  simp only[ON,Oo,or_false] at hb
  rcases hb with rfl | rfl
  ·exact ⟨_,a1,fun v q=>by cases (show Data.fields _=Data.cell v from q)⟩
  ·exact ⟨o1,e1,fun v q=>by rw[d1] at q;cases q⟩
 keep:=fun i h h' st k=>by
  obtain ⟨⟨old,a1⟩,a4⟩:=st
  exact ⟨⟨old,k _ (by simp) _ a1⟩,a4.at fun o e=>k _ (by simp) o e⟩
 item:=by
  intro X hP hw hK hc i pins s σ H E I hf st hg
  subst hP hw hK
  obtain ⟨xs,x,hq,hx⟩:=hg
  obtain ⟨its,rv,p,hz⟩:=I.list hq
  obtain ⟨u,hu,ru⟩:=rv.get hx
  obtain ⟨⟨old,a1⟩,a4⟩:=st
  refine wpAny_pyNext_enum_item a1 a4 p.isList (x:=u) (by simpa using hu) hne fun h' b1 b2 b3 b4 b5=>?_
  refine ⟨_,rfl,wpAny_letOwnedTupleGo_enum b1 fun h2 c1 c2=>?_⟩
  have c2:Ou e h' h2:=c2
  have oldk:∀ b o,b∉[e,it]->s.heap.get? b=some o->h2.get? b=some o:=fun b o hb q=>by
   simp only[ON,Oo,or_false,not_or] at hb
   exact c2.extBut b o hb.1 (b5 b o hb.1 hb.2 q)
  have neT:s.heap.objs.size≠e:=O6 (Nx a1)
  have hpair:h2.get? s.heap.objs.size=some { cls:=.type "tuple",data:=.seq #[.int ((i:Nat):Int) s.toks,u] }:=c2.extBut _ _ neT b3
  have hnew:H s.heap.objs.size=none:=I.hok.fresh (Nu _)
  have hok:HOk X.prog X.w (upd H s.heap.objs.size (.tup [.int ((i:Nat):Int),x])) h2:=fun b v q=>by
   by_cases eb:b=s.heap.objs.size
   ·subst eb
    rw[aB] at q
    cases q
    exact ⟨by show 2<=sizeLine;decide,[.int ((i:Nat):Int) s.toks,u],.cons ⟨s.toks,rfl⟩ (.cons ru .nil),_,hpair,rfl,_,rfl⟩
   ·rw[ao eb] at q
    refine (I.hok b v q).stay (fun c v hc z=>oldk c v (fun hb=>?_) z) (fun c z=>?_) fun c l z=>?_
    ·have:=(hf c hb).1
     rcases hc with rfl | hc
     ·rw[this] at q;cases q
     ·rw[this] at hc;cases hc
    ·rw[ao (NV (I.hok.lt z))];exact z
    ·rw[ao (NV (I.hok.lt z))];exact z
  refine ⟨.ref s.heap.objs.size,_,Inv.Bh (s:=s) (tk:=s.toks+1) I hf oldk (fun b hb=>ao (NV hb)) hok,rfl,⟨_,x,rfl,hnew,rfl,fun xs' h'=>by rw[I.kr h' hq];exact hx⟩,?_,fun b hb=>?_⟩
  ·refine ⟨⟨u,?_⟩,b2.extBut c2.extBut (Os hne)⟩
   have e3:(((i+1:Nat)):Int)=((i:Nat):Int)+1:=by simp
   rw[e3]
   exact c1
  ·have hlt:b < s.heap.objs.size:=by
    obtain ⟨o1,e1,_⟩:=a4
    simp only[ON,Oo,or_false] at hb
    rcases hb with rfl | rfl
    ·exact Nx a1
    ·exact Nx e1
   rw[ao (NV hlt)]
   exact (hf b hb).1
 done:=by
  intro X hP hw hK hc i pins s σ H E I hf st hg
  subst hP hw hK
  obtain ⟨xs,hq,hx⟩:=hg
  obtain ⟨its,rv,p,hz⟩:=I.list hq
  obtain ⟨⟨old,a1⟩,a4⟩:=st
  have n1:=rv.length
  refine wpAny_pyNext_enum_end (I.ok.hd hc) a1 a4 p.isList (by simp;omega) fun h' b5=>⟨rfl,?_⟩
  obtain ⟨f0,f1,f2,f3,f4,f5⟩:=hf it (by simp)
  exact I.turned (t':=s.toks) (fun b o hb q=>b5 b o hb q) f0 f1 f3 f4 f5
 self:=fun _ _ _ _ _ st h=>by
  obtain ⟨⟨old,a1⟩,_⟩:=st
  exact wpAny_pyIter_enum a1 h
theorem E4 {K:Nl}{m0:List Addr}{H0:Hp}{a:Addr}{vs:List V}{ds:List BT.D} (h:(Rd H0 a (.lst vs)/\a∉m0)\/KL K a vs) (r:RDs K m0 H0 vs ds):qW K (Ite K a) m0 H0 (BT.ay 0 ds):=by
 have k:∀ {m H},Ext m0 H0 m H->SqL K H a vs:=fun x=>LL.sq (h.elim (fun q=>.inl (Rd.ext x q.1 q.2).1) .inr)
 have len:∀ (ds:List BT.D) (n:Nat),(BT.ay n ds).length=ds.length:=by
  intro ds
  induction ds with
  | nil=>intro n;rfl
  | cons d ds ih=>intro n;simp[BT.ay,ih]
 have get:∀ (ds:List BT.D) (n i:Nat) (d:BT.D),(BT.ay n ds)[i]?=some d->∃ x,ds[i]?=some x/\d=.tup [.int ((n+i:Nat):Int),x]:=by
  intro ds
  induction ds with
  | nil=>intro n i d e;simp[BT.ay] at e
  | cons d0 ds ih =>
   intro n i d e
   cases i with
   | zero=>simp[BT.ay] at e;exact ⟨d0,rfl,by simp[← e]⟩
   | succ i =>
    simp[BT.ay] at e
    obtain ⟨x,h1,h2⟩:=ih (n+1) i d e
    exact ⟨x,by simpa using h1,by rw[h2];simp;omega⟩
 have l1:=r.length
 have ln:=len ds 0
 refine ⟨fun m H i x hi=>?_,fun m H hh i v H' d x RR hd y=>?_,fun m H x=>⟨vs,k x,by rw[ln];omega⟩⟩
 ·rw[ln] at hi
  exact ⟨vs,_,k x,NB (by omega)⟩
 ·obtain ⟨t,v1,rfl,hn,rfl,y1⟩:=y
  obtain ⟨d1,e1,rfl⟩:=get ds 0 i d hd
  obtain ⟨u1,g1,q1⟩:=(r.ext x).get e1
  have:=y1 vs (k x)
  rw[g1] at this
  cases this
  have nt:=RR.fG hn
  have xx:Ext m H m (upd H t (.tup [.int ((i:Nat):Int),v1])):=fk hn
  refine ⟨xx,qR hn,.tup (.inl ⟨.inl aB,nt⟩) (.cons ?_ (.cons (q1.ext xx) .nil))⟩
  rw[RG]
  exact .int _
section
variable {F:FT}{G:Str->Option BT.W}
theorem Io {ws:List BT.W}{h:BT.HH}{ds:List BT.D} (e:(BT.rds ws h).bind (BT.dZ .enu)=some ds) (ha:BT.gn ws=true):∃ xs,ws=[.p (.lst xs)]/\ds=BT.ay 0 xs:=by
 obtain ⟨qs,e1,e2⟩:=Option.bind_eq_some_iff.mp e
 match ws,e1,ha with
 | [],e1,_=>cases e1;exact ai e2
 | [.p d],e1,_ =>
  cases e1
  cases d with
  | lst xs=>rw[BT.xj] at e2;cases e2;exact ⟨xs,rfl,rfl⟩
  | _=>exact ai e2
 | .p d :: .p d2 :: r,e1,_ =>
  simp only[BT.rds,BT.rd] at e1
  simp only[OJ] at e1
  obtain ⟨q,e3,e4⟩:=aC e1
  obtain ⟨q2,e5,e6⟩:=aC e3
  subst e4 e6
  cases d<;>exact ai e2
 | .r _ :: _,_,ha=>cases ha
 | .k _ :: _,_,ha=>cases ha
 | .c _ _ :: _,_,ha=>cases ha
 | .p _ :: .r _ :: _,_,ha=>cases ha
 | .p _ :: .k _ :: _,_,ha=>cases ha
theorem Bo {X:Cx}{sc:NO}{N:List Str} (O:Ok X F G sc N) {elts:List Nn}{kk:Nat}{tp:Pos}{ex:Nn}{sa:BT.Es}{p pos:Pos} (hg:aL sc "enumerate"=true) (hs:noStar ex=true) (hA:PA X [ex] (tDs X F G sa)) :
 PI X (.Tuple elts kk tp) (.Call (.Name "enumerate" p) [ex] [] pos) (iD X F G .enu sa):=by
 intro pins s σ H R I q
 obtain ⟨m,s',h,ws,h',ds,RR,S,e,e2,ha,post⟩:=q
 obtain ⟨xs,rfl,rfl⟩:=Io e2 ha
 refine Call_ (dX (u:=.type "enumerate") I (aQ O hg) (O.blt _ (by decide)) (by decide +kernel) (N8 (thn (hA pos pins s σ H (fun vs H1=>∃ a vt,vs=[.ref a]/\∃ m1,Ext m H m1 H1/\RH X.K m1 H1 h'/\((Rd H1 a (.lst vt)/\a∉m1)\/KL X.K a vt)/\RDs X.K m1 H1 vt xs) I
  ⟨m,s',h,_,h',RR,S,e,fun vs H1 m1 x1 R1 r1=>?_⟩) fun us s1 ⟨vs,H1,I1,r1,q1⟩=>?_) (aj hs) rfl))
 ·cases r1 with
  | cons ra t =>
   cases t
   cases ra with
   | p ra =>
    cases ra with
    | @lst a vt _ h1 ra=>exact ⟨a,vt,rfl,m1,x1,R1,h1,ra⟩
 ·obtain ⟨a,vt,rfl,m1,x1,R1,h1,ra⟩:=q1
  obtain ⟨u1,rfl,ru1⟩:=vals1 r1
  cases ru1
  obtain ⟨z1,its1,n1,rv1,hl1,ee1⟩:=rdL I1 (h1.elim (fun q=>.inl q.1) .inr)
  have L1:s1.heap.IsList a its1.toArray:=⟨_,ee1,rfl,_,rfl⟩
  refine call_enumerate_list L1 fun h2' y1 y2 y3 y4=>?_
  refine wpAny_pyIter_enum y1 ?_
  refine ⟨_,_,_,_,H1,rfl,I1.kept (t':=s1.toks) fun b o e=>y4 b o e,vj (Nat.succ_ne_self _),⟨⟨_,y1⟩,y2⟩,fun c hc=>?_,post H1 m1 _ x1 R1 (E4 h1 ra)⟩
  have hle:s1.heap.objs.size<=c:=by
   simp only[ON,Oo,or_false] at hc
   rcases hc with rfl | rfl
   ·exact Ox _
   ·exact Nu _
  exact I1.vX hle (I1.hok.fresh hle)
end
end BS
end
section
namespace BS
open PySem PySem.Spec PyProof.Rows L2
noncomputable def jS (sc:NO) (x:Str):Bool:=match sc.names.lookup x with
 | some .local=>true
 | some .cell=>true
 | _=>false
inductive CT (sc:NO) (N:List Str):List (Nat×Str)->Nn->Prop where
 | one {i:Nat}{x:Str}{p:Pos} (h1:N[i]?=some x) (h2:jS sc x=true):CT sc N [(i,x)] (.Name x p)
 | two {i j:Nat}{x y:Str}{p p1 p2:Pos}{k:Nat} (h1:N[i]?=some x) (h2:jS sc x=true) (h3:N[j]?=some y) (h4:jS sc y=true):CT sc N [(i,x),(j,y)] (.Tuple [.Name x p1,.Name y p2] k p)
section
variable {F:FT}{G:Str->Option BT.W}
theorem RS.set {P:NG}{w:N2}{K:Nl}{m:List Addr}{H:Hp}{σ:L2.St}{s:BT.Sl}{i:Nat}{v:V}{z:BT.W} (S:RS P w K m H σ s) (r:RW P w K m H v z):RS P w K m H (σ.set i (some v)) (s.set i (some z)):=by
 refine ⟨by simp[S.len],fun j y e=>?_⟩
 by_cases c:i=j
 ·subst c
  have hl:i < s.length:=by
   rcases NK i s.length with q | q
   ·exact q
   ·rw[NF (by simpa using q)] at e;cases e
  rw[OC hl] at e
  cases e
  exact ⟨v,by rw[OC (by rw[S.len];exact hl)],r⟩
 ·rw[N9 c] at e
  obtain ⟨u,h1,h2⟩:=S.get j y e
  exact ⟨u,by rw[N9 c];exact h1,h2⟩
theorem iH {X:Cx}{sc:NO}{N:List Str} (O:Ok X F G sc N) {x:Str} (h:jS sc x=true):L2.Loc X.env.scope x:=by
 rw[O.hsc]
 unfold jS at h
 unfold L2.Loc
 cases e:sc.names.lookup x with
 | none=>rw[e] at h;cases h
 | some k=>rw[e] at h;cases k<;>first | (exact .inl rfl) | (exact .inr rfl) | cases h
theorem tE {e:Nn}{env:Env} (h:iC e=true):∀ x,foldedSetIterable e env x=pure x:=by
 intro x
 cases e<;>first | rfl | cases h
noncomputable def GOk (X:Cx) (tg:List (Nat×Str)) (g:TG):Prop:=∀ (m:List Addr) (H:Hp) (σ:L2.St) (s:BT.Sl) (x:V) (d:BT.D) (ds:List BT.D) (Q:L2.St->Hp->Prop),RS X.prog X.w X.K m H σ s->RD X.K m H x d->BT.target tg.length d=some ds →
 (∀ σ',RS X.prog X.w X.K m H σ' (BT.sets tg ds s)->Q σ' H)->g x σ H Q
theorem sCT {X:Cx}{sc:NO}{N:List Str} (O:Ok X F G sc N) {tg:List (Nat×Str)}{te:Nn} (h:CT sc N tg te) (hf:∀ q∈tg,X.fn q.2=true\/X.env.scope.names.lookup q.2=some .local):∃ g,PG X te g/\GOk X tg g:=by
 cases h with
 | @one i x p h1 h2 =>
  refine ⟨_,nj (i:=i) O.nd (by rw[O.hN];exact h1) (iH O h2) (hf (i,x) (by simp)),?_⟩
  intro m H σ s v d ds Q S r e q
  simp only[NS,Ow,RG,BT.gk] at e
  cases e
  exact q _ (S.set (.p r))
 | @two i j x y p p1 p2 k h1 h2 h3 h4 =>
  refine ⟨_,Dw (n:=2) O.calm (oU (nj (i:=i) O.nd (by rw[O.hN];exact h1) (iH O h2) (hf (i,x) (by simp))) (oU (nj (i:=j) O.nd (by rw[O.hN];exact h3) (iH O h4) (hf (j,y) (by simp))) z6)),?_⟩
  intro m H σ s v d ds Q S r e q
  have e:BT.unpack 2 d=some ds:=e
  cases r with
  | @tup a vs dd h r =>
   rw[BT.xm] at e
   split at e
   ·rename_i c
    cases e
    have hl:=r.length
    refine ⟨a,vs,rfl,h.elim (fun q=>.inl q.1) fun ⟨o,its,n,q,_⟩=>.inr ⟨o,its,n,q⟩,by rw[hl];exact c,?_⟩
    cases r with
    | nil=>simp at c
    | @cons v1 d1 vs' ds' ra t =>
     cases t with
     | nil=>simp at c
     | @cons v2 d2 vs2 ds2 rb t2 =>
      cases t2 with
      | cons _ _=>simp at c
      | nil =>
       refine ⟨v1,[v2],rfl,?_⟩
       show CP (oR j) Dv [v2] (σ.set i (some v1)) H Q
       refine ⟨v2,[],rfl,?_⟩
       show Dv [] ((σ.set i (some v1)).set j (some v2)) H Q
       refine ⟨rfl,q _ ?_⟩
       show RS X.prog X.w X.K m H ((σ.set i (some v1)).set j (some v2)) ((s.set i (some (.p d1))).set j (some (.p d2)))
       exact RS.set (RS.set S (.p ra)) (.p rb)
   ·cases e
  | _=>cases e
end
end BS
end
section
namespace BC
open PySem
section
variable {prog:NG}{w:N2}{A:Oz}{s:Nr}
theorem vm {elt target iter:Nn}{ifs:List Nn}{scope:NO}{pos:Pos}{it acc:Np}{env:Env}{R:SK->Nr->Prop} (I:Nat->Nr->Prop)
 (turn:∀ n s,I n s->wpAny (NR prog w) A (RL it) (fun r s₁=>match r with
  | none=>R (.ok .next) s₁
  | some v=>wpAny (NR prog w) A (Rc target it v) (fun _ s₀=>wpAny (NR prog w) A (SJ target env v) (fun _ s₂ =>
   wpAny (NR prog w) A (forIn ifs true fun c r=>if r=true then do let ok ← isTrue c env (eval c env);pure (QA ok) else pure (QA r)) (fun ok s₃ =>
    if ok=true then wpAny (NR prog w) A (eval elt env) (fun x s₄ =>
     wpAny (NR prog w) A (call (.builtin "list.append") [acc,x]) (fun _ s₅=>∃ m,m < n/\I m s₅) (fun _ _=>False) s₄) (fun _ _=>False) s₃
    else ∃ m,m < n/\I m s₃) (fun _ _=>False) s₂) (fun _ _=>False) s₀) (fun _ _=>False) s₁) (fun _ _=>False) s)
 (n:Nat) (h:I n s):codeAny (NR prog w) A (.compLoop (.ListComp elt [⟨target,iter,ifs,0⟩] scope pos) 0 it acc env) R s:=by
 refine codeAny_loop rfl I (fun n s hI=>?_) n h
 show wpAny _ A ((compTurn (.ListComp elt [⟨target,iter,ifs,0⟩] scope pos) 0 it acc env).onRaise (fun x=>do noteFrame x env;theTreesLotGoes x)) _ _ s
 refine wpAny_noted ?_
 rw[compTurn_list]
 refine wpAny_bind (Tu (wpAny_bind (wpAny_mono (turn n s hI) (fun r s₁ h₁=>?_) fun _ _ h'=>h'.elim)))
 cases r with
 | none=>exact wpAny_pure h₁
 | some v =>
  refine wpAny_bind (wpAny_mono h₁ (fun _ s₀ h₀'=>?_) fun _ _ h'=>h'.elim)
  refine wpAny_bind (wpAny_mono h₀' (fun _ s₂ h₂=>wpAny_bind (wpAny_mono h₂ (fun ok s₃ h₃=>?_) fun _ _ h'=>h'.elim)) fun _ _ h'=>h'.elim)
  cases ok with
  | false=>exact wpAny_pure ⟨rfl,h₃⟩
  | true =>
   exact wpAny_bind (wpAny_bind (wpAny_mono h₃ (fun x s₄ h₄=>wpAny_bind (wpAny_mono h₄ (fun _ s₅ h₅=>wpAny_pure (wpAny_pure ⟨rfl,h₅⟩)) fun _ _ h'=>h'.elim)) fun _ _ h'=>h'.elim))
end
noncomputable def cj (cells:List (Str×Addr)):List (Str×Pw)->List (Str×Addr)->List (Str×Addr)
 | [],acc=>acc
 | (n,k) :: r,acc=>if k==.free then (match cells.lookup n with | some c=>cj cells r ((n,c) :: acc) | none=>cj cells r acc) else cj cells r acc
noncomputable def rf (cells:List (Str×Addr)) (names:List (Str×Pw)):Prop:=∀ x∈names,x.2=.free->∃ c,cells.lookup x.1=some c
theorem kX {env:Env}:∀ (names:List (Str×Pw)) (acc:List (Str×Addr)),rf env.cells names →
 (forIn names acc fun x (r:List (Str×Addr))=>(if x.2==.free then do let c ← cellOf env x.1;pure (QA ((x.1,c) :: r)) else pure (QA r):Sem (ForInStep (List (Str×Addr)))))=pure (cj env.cells names acc)
 | [],acc,_=>rfl
 | (n,k) :: r,acc,h=>by
  have ih:=fun acc=>kX (env:=env) r acc fun x hx=>h x (NC _ hx)
  rw[List.forIn_cons]
  by_cases c:k=.free
  ·subst c
   obtain ⟨a,e⟩:=h (n,.free) NI rfl
   have e:env.cells.lookup n=some a:=e
   simp only[cj,e]
   show (cellOf env n >>= _) >>= _=_
   unfold cellOf
   rw[e]
   exact ih _
  ·have cb:(k==Om)=false:=by simpa using c
   simp only[cj,cb]
   exact ih _
theorem jB {α β:Type}{m m':Sem α}{f:α->Sem β} (h:m=m'):(m >>= f)=(m' >>= f):=by rw[h]
theorem kY {scope:NO}{env:Env} (h:rf env.cells scope.names):closureFor scope env=pure (cj env.cells scope.names []):=by
 have:=kX (env:=env) scope.names [] h
 unfold closureFor
 exact (jB this).trans rfl
theorem kZ {cells:List (Str×Addr)}:∀ {names:List (Str×Pw)}{acc:List (Str×Addr)},(∀ x c,acc.lookup x=some c->cells.lookup x=some c)->∀ x c,(cj cells names acc).lookup x=some c->cells.lookup x=some c
 | [],acc,h,x,c,e=>h x c e
 | (n,k) :: r,acc,h,x,c,e=>by
  rw[cj] at e
  split at e
  ·split at e
   ·rename_i a ea
    refine kZ (fun y b q=>?_) x c e
    rw[OV] at q
    split at q
    ·rename_i hy
     have:y=n:=by simpa using hy
     subst this
     cases q;exact ea
    ·exact h y b q
   ·exact kZ h x c e
  ·exact kZ h x c e
theorem j5 {cells:List (Str×Addr)}{x:Str}:∀ {names:List (Str×Pw)}{acc:List (Str×Addr)},(∃ c,acc.lookup x=some c)->∃ c,(cj cells names acc).lookup x=some c
 | [],acc,h=>h
 | (n,k) :: r,acc,h=>by
  rw[cj]
  split
  ·split
   ·refine j5 ?_
    rw[OV]
    split
    ·exact ⟨_,rfl⟩
    ·exact h
   ·exact j5 h
  ·exact j5 h
theorem k8 {cells:List (Str×Addr)}{x:Str}:∀ {names:List (Str×Pw)}{acc:List (Str×Addr)},(x,Om)∈names->(∃ c,cells.lookup x=some c)->∃ c,(cj cells names acc).lookup x=some c
 | [],acc,h,_=>nomatch h
 | (n,k) :: r,acc,h,q=>by
  rw[cj]
  rcases List.mem_cons.mp h with e | e
  ·cases e
   obtain ⟨c,ec⟩:=q
   rw[if_pos (by rfl),ec]
   refine j5 ?_
   exact ⟨c,by simp⟩
  ·split
   ·split
    ·exact k8 e q
    ·exact k8 e q
   ·exact k8 e q
end BC
end
section
namespace BS
open PySem PySem.Spec PyProof.Rows L2
noncomputable def k9 (F:FT) (G:Str->Option BT.W) (sc:NO) (N:List Str) (cond:BT.Es) (ifs:List Nn):Prop :=
 (cond=.nil/\ifs=[])\/∃ c c',cond=.cons c .nil/\ifs=[c']/\∀ X',Ok X' F G sc N->PT X' c' (tDT X' F G c)
structure pQ (sc:NO) (N tg:List Str) (fv:List (Nat×Str)) (scope:NO):Prop where
 k1:scope.kind=.function
 k2:sc.kind=.function
 cell:∀ y∈scope.names,y.2≠.cell
 loc:∀ y∈scope.names,y.2=.local->scope.names.lookup y.1=some .local
 free:∀ y∈scope.names,y.2=.free->sc.names.lookup y.1=some .cell
 fvs:∀ q∈fv,N[q.1]?=some q.2/\(q.2,Om)∈scope.names/\sc.names.lookup q.2=some .cell/\(aW scope sc).names.lookup q.2=some .cell
 nd:(tg++fv.map (·.2)).Nodup
theorem mU:∀ {l:List Str},iE l=true->l.Nodup
 | [],_=>Qn
 | x :: r,h=>by
  simp only[iE,Nt,PU] at h
  refine List.nodup_cons.mpr ⟨fun z=>?_,mU h.2⟩
  have:=h.1
  simp[z] at this
theorem Ip {sc:NO}{N tg:List Str}{fv:List (Nat×Str)}{scope:NO} (h:iF sc N tg fv scope=true):pQ sc N tg fv scope:=by
 simp only[iF,Nt] at h
 obtain ⟨⟨⟨⟨⟨⟨h1,h2⟩,h3⟩,h4⟩,h5⟩,h6⟩,h7⟩:=h
 rw[OM] at h3 h4 h5 h6
 refine ⟨eq_of_beq h1,eq_of_beq h2,fun y hy e=>?_,fun y hy e=>?_,fun y hy e=>?_,fun q hq=>?_,mU h7⟩
 ·have:=h3 y hy
  rw[e] at this;simp at this
 ·have:=h4 y hy
  rw[e] at this;simpa using this
 ·have:=h5 y hy
  rw[e] at this;simpa using this
 ·have:=h6 q hq
  simp only[Nt] at this
  obtain ⟨⟨⟨a,b⟩,c⟩,d⟩:=this
  exact ⟨by simpa using a,by simpa using b,by simpa using c,by simpa using d⟩
theorem iI {sc:NO}{x:Str}{k:Pw} (hk:k=.cell\/k=.free):∀ {names:List (Str×Pw)},(∀ y∈names,y.2≠.cell) →
 (names.map fun (n,k)=>if (k==Om&&sc.kind==.function&&sc.names.lookup n==some .cell) then (n,QZ) else (n,k)).lookup x=some k->(x,Om)∈names
 | [],_,h=>by simp at h
 | (n,q) :: r,hc,h=>by
  have ih:=iI (sc:=sc) (x:=x) hk (names:=r) fun y hy=>hc y (NC _ hy)
  replace h:Py x ((if (q==Om&&sc.kind==.function&&sc.names.lookup n==some .cell)=true then (n,QZ) else (n,q)) :: (r.map fun (n,k)=>if (k==Om&&sc.kind==.function&&sc.names.lookup n==some .cell) then (n,QZ) else (n,k)))=some k:=h
  have go:∀ (q':Pw),(q'=q\/(q'=.cell/\q=.free))->Py x ((n,q') :: (r.map fun (n,k)=>if (k==Om&&sc.kind==.function&&sc.names.lookup n==some .cell) then (n,QZ) else (n,k)))=some k->(x,Om)∈(n,q) :: r:=by
   intro q' hq gl
   rw[OV] at gl
   split at gl
   ·rename_i hx
    have hx:x=n:=by simpa using hx
    subst hx
    have e:q'=k:=NH gl
    have hqf:q=.free:=by
     rcases hq with rfl | ⟨_,e2⟩
     ·rcases hk with z | z
      ·exact absurd (e.trans z) (hc (x,q') NI)
      ·exact e.trans z
     ·exact e2
    rw[hqf];exact NI
   ·exact NC _ (ih gl)
  by_cases c:(q==Om&&sc.kind==.function&&sc.names.lookup n==some .cell)=true
  ·rw[if_pos c] at h
   refine go .cell (.inr ⟨rfl,?_⟩) h
   simp only[Nt] at c
   exact eq_of_beq c.1.1
  ·rw[if_neg c] at h
   exact go q (.inl rfl) h
noncomputable def blk (X:Cx) (N':List Str) (s2:Nr) (H1:Hp) (scope:NO) (C:Addr) (fp:List Addr):Cx :=
 { X with N:=N',s₀:=s2,H₀:=H1,env:=TF scope (BC.cj X.env.cells scope.names []) C X.env,outer:=X.stack,stack:=X.stack,ex:=fp,fn:=fun _=>false,pn:=[],xe:=fun _ _=>False }
section
variable {X:Cx}{F:FT}{G:Str->Option BT.W}{sc:NO}{N:List Str}{pins:List (Addr×Obj)}{σ:L2.St}{H1:Hp}{s2:Nr}
theorem jM {scope:NO}{x:Str}{c:Addr} (e:(BC.cj X.env.cells scope.names []).lookup x=some c):X.env.cells.lookup x=some c :=
 BC.kZ (fun _ _ z=>by simp at z) x c e
theorem pR (hsc:X.env.scope=sc) {scope:NO}{C:Addr} (x:Str):(TF scope (BC.cj X.env.cells scope.names []) C X.env).kindOf x=(aW scope sc).names.lookup x:=by
 subst hsc;rfl
theorem tF (I1:Inv X pins σ H1 s2) (hsc:X.env.scope=sc) {scope:NO}{tg:List Str}{fv:List (Nat×Str)} (cf:pQ sc N tg fv scope) {x:Str} (hx:(x,Om)∈scope.names):∃ c,(BC.cj X.env.cells scope.names []).lookup x=some c:=by
 refine BC.k8 hx (I1.ok.has x (.inl ?_))
 have:=cf.free _ hx rfl
 rw[← hsc] at this
 exact this
theorem E5 (I1:Inv X pins σ H1 s2) (hsc:X.env.scope=sc) {scope:NO}{tg:List Str}{fv:List (Nat×Str)} (cf:pQ sc N tg fv scope) {N':List Str}{C:Addr}{fp:List Addr} (hC:C=s2.heap.objs.size+1)
 (hf:∀ b∈fp,lM X pins H1 b) (hlt:∀ b∈fp,b < s2.heap.objs.size):(blk X N' s2 H1 scope C fp).Ok where
 mod:=I1.ok.mod
 kind:=cf.k1
 glob:=I1.ok.glob
 blt:=I1.ok.blt
 above:=by show s2.heap.objs.size<=C;rw[hC];exact Ox _
 inj:=fun x y c a b=>I1.ok.inj x y c (jM a) (jM b)
 has:=fun x hx=>by
  refine tF I1 hsc cf ?_
  have hx':(aW scope sc).names.lookup x=some .cell\/(aW scope sc).names.lookup x=some .free:=by
   rw[← pR hsc (C:=C)];exact hx
  rcases hx' with e | e
  ·exact iI (.inl rfl) cf.cell e
  ·exact iI (.inr rfl) cf.cell e
 cab:=fun x c z=>by cases z
 hd:=I1.ok.hd
 frames:=I1.ok.frames
 stk:=.inl rfl
 exf:=fun b hb=>⟨fun z=>by
  have l:=hlt b hb
  have z:b=C:=z
  rw[z,hC] at l
  exact absurd l (Nat.not_lt.mpr (Ox _)),fun x c e=>(hf b hb).2.2.2.2.1 x c (jM e)⟩
 bs:=I1.bs
 bsz:=Oj I1.ok.bsz I1.sz
 noex:=fun b o e hb=>by
  have q:=(I1.ok.bs b o e).1
  rcases (hf b hb).2.2.2.1 with z | z
  ·exact I1.ok.noex b o e z
  ·exact absurd (Nx q) (Nat.not_lt.mpr z)
 exfs:=fun b hb z=>by
  rcases List.mem_cons.mp (I1.ko b z) with e | e
  ·exact (hf b hb).2.1 e
  ·exact (hf b hb).2.2.1 e
 iw:=I1.stack
 frf:=I1.ni
end
noncomputable def lobj (us:List Np) (n:Nat):Obj:={ cls:=.type "list",data:=.seq us.toArray n }
section
variable {X:Cx}{F:FT}{G:Str->Option BT.W}{sc:NO}{N:List Str}{pins:List (Addr×Obj)}{σ:L2.St}{H1:Hp}{s2:Nr}
noncomputable def iJ (n:Nat) (σ:L2.St) (fv:List (Nat×Str)):L2.St:=NQ n none++fv.map fun q=>(σ[q.1]?).getD none
theorem Bp (I1:Inv X pins σ H1 s2) (hsc:X.env.scope=sc) (hN:X.N=N) {scope:NO}{tg:List Str}{fv:List (Nat×Str)} (cf:pQ sc N tg fv scope) {C:Addr}{fp:List Addr} (hC:C=s2.heap.objs.size+1)
 (hf:∀ b∈fp,lM X pins H1 b) (hlt:∀ b∈fp,b < s2.heap.objs.size) {h1:Heap}{tk:Nat}{m:Str->Option Np} (old:∀ b o,s2.heap.get? b=some o->h1.get? b=some o) (hns:h1.Ns C m) (hD:h1.get? s2.heap.objs.size=some (lobj [] 0)) :
 Inv (blk X (tg++fv.map (·.2)) s2 H1 scope C fp) [(s2.heap.objs.size,lobj [] 0)] (iJ tg.length σ fv) H1 { s2 with heap:=h1,toks:=tk } where
 ok:=E5 I1 hsc cf hC hf hlt
 os:=rfl
 bare:=I1.bare
 base:=Un.kept old
 loc:=by
  refine ⟨m,hns,fun i x v e1 e2 e3=>?_⟩
  have e1:(tg++fv.map (·.2))[i]?=some x:=e1
  unfold iJ at e2
  by_cases c:i < tg.length
  ·rw[Ny (by simpa using c),PM,if_pos c] at e2
   cases e2
  ·rw[NY (by simpa using c)] at e2
   rw[NY (by simpa using c)] at e1
   simp only[PY,N1] at e1 e2
   cases g:fv[i - tg.length]? with
   | none=>rw[g] at e1;cases e1
   | some q =>
    rw[g] at e1 e2
    simp only[Option.map_some,Qe] at e1 e2
    subst e1
    obtain ⟨f1,f2,f3,f4⟩:=cf.fvs q (NJ g)
    have e2':σ[q.1]?=some (some v):=by
     cases gg:σ[q.1]? with
     | none=>rw[gg] at e2;cases e2
     | some o=>rw[gg] at e2;simp only[TN] at e2;rw[e2]
    obtain ⟨m0,hn0,hl0⟩:=I1.loc
    obtain ⟨u,ru,lk⟩:=hl0 q.1 q.2 v (by rw[hN];exact f1) e2' (by rw[hsc];exact .inr (.inl f3))
    refine ⟨u,ru,?_⟩
    have kc:X.env.kindOf q.2=some .cell:=by
     show X.env.scope.names.lookup q.2=_
     rw[hsc];exact f3
    rcases lk with ⟨k,_⟩ | ⟨k,c,ec,o,ho,hd⟩
    ·rw[kc] at k;cases k
    ·obtain ⟨c',ec'⟩:=tF I1 hsc cf f2
     have:=jM ec'
     rw[ec] at this
     cases this
     refine .inr ⟨.inl ?_,c,ec',o,old c o ho,hd⟩
     show (TF scope (BC.cj X.env.cells scope.names []) C X.env).kindOf q.2=_
     rw[pR hsc];exact f4
 cell:=fun x c e=>by
  obtain ⟨v,o,ho,hd⟩:=I1.cell x c (jM e)
  exact ⟨v,o,old c o ho,hd⟩
 free:=I1.hok.fresh (by show s2.heap.objs.size<=C;rw[hC];exact Ox _)
 freeC:=fun x c e=>I1.freeC x c (jM e)
 pin:=fun p hp=>by
  have e:p=(s2.heap.objs.size,lobj [] 0):=by
   have:p∈[]++[(s2.heap.objs.size,lobj [] 0)]:=hp
   simpa using this
  subst e
  refine ⟨hD,I1.hok.fresh (Nu _),?_,?_,fun v z=>by cases (show Data.seq _ _=Data.cell v from z)⟩
  ·show s2.heap.objs.size≠C
   rw[hC];exact NV (OW _)
  ·intro z
   obtain ⟨_,o,ho,_⟩:=I1.stack.mem z
   exact absurd (Nx ho) (OZ _)
 hok:=I1.hok.kept old
 len:=by
  show (iJ tg.length σ fv).length=(tg++fv.map (·.2)).length
  simp[iJ]
end
noncomputable def tgI:List Str->List (Nat×Str)
 | [x]=>[(0,x)]
 | [x,y]=>[(0,x),(1,y)]
 | _=>[]
theorem nZ {te:Nn}{x:Str} (h:nmE te=some x):∃ p,te=.Name x p:=by
 cases te with
 | Name y p=>cases h;exact ⟨p,rfl⟩
 | _=>exact absurd (show (none:Option Str)=some _ from h) (fun z=>nomatch z)
theorem yE {te a:Nn}{l:List Nn} (h:Er te=a :: l):∃ k p,te=.Tuple (a :: l) k p:=by
 cases te with
 | Tuple xs k p=>cases h;exact ⟨k,p,rfl⟩
 | _=>exact absurd (show ([]:List Nn)=_ :: _ from h) (fun z=>nomatch z)
theorem Bq {sc:NO}{tg:List Str}{fs:List Str}{te:Nn} (h:pG sc tg te=true):CT sc (tg++fs) (tgI tg) te/\(tgI tg).length=tg.length/\∀ q∈tgI tg,sc.names.lookup q.2=some .local:=by
 have st:∀ {x:Str},sc.names.lookup x=some .local->jS sc x=true:=fun e=>by unfold jS;rw[e]
 unfold pG at h
 rw[Nt,Pn,Nt,OM] at h
 obtain ⟨h,ha⟩:=h
 have lo:∀ {x},x∈tg->sc.names.lookup x=some .local:=fun {x} hx=>eq_of_beq (ha x hx)
 rcases h with h | ⟨h1,h2⟩
 ·have e:=eq_of_beq h
  cases tg with
  | nil=>exact absurd (congrArg QC e) (by simp)
  | cons x r =>
   cases r with
   | cons _ _=>exact absurd (congrArg QC e) (by simp)
   | nil =>
    obtain ⟨p,rfl⟩:=nZ (QD e).symm
    have l:sc.names.lookup x=some .local:=lo NI
    exact ⟨.one rfl (st l),rfl,fun q hq=>by simp[tgI] at hq;subst hq;exact l⟩
 ·have e:=eq_of_beq h2
  obtain ⟨x,y,rfl⟩:∃ x y,tg=[x,y]:=by
   have h1:=eq_of_beq h1
   cases tg with
   | nil=>simp at h1
   | cons x r =>
    cases r with
    | nil=>simp at h1
    | cons y r =>
     cases r with
     | nil=>exact ⟨x,y,rfl⟩
     | cons _ _=>simp at h1
  cases g:Er te with
  | nil=>rw[g] at e;exact absurd (congrArg QC e) (by simp)
  | cons a l =>
   rw[g] at e
   cases l with
   | nil=>exact absurd (congrArg QC e) (by simp)
   | cons b r =>
    cases r with
    | cons _ _=>exact absurd (congrArg QC e) (by simp)
    | nil =>
     have e1:some x=nmE a:=QD e
     have e2:some y=nmE b:=QD (List.tail_eq_of_cons_eq e)
     obtain ⟨p1,rfl⟩:=nZ e1.symm
     obtain ⟨p2,rfl⟩:=nZ e2.symm
     obtain ⟨k,p,rfl⟩:=yE g
     have l1:sc.names.lookup x=some .local:=lo NI
     have l2:sc.names.lookup y=some .local:=lo (NC _ NI)
     exact ⟨.two rfl (st l1) rfl (st l2),rfl,fun q hq=>by
      simp[tgI] at hq
      rcases hq with rfl | rfl
      ·exact l1
      ·exact l2⟩
theorem Br {tg:List Str}{d0:BT.D}{ds:List BT.D}{sl fs:BT.Sl} (h:(tgI tg).length=tg.length) (h0:tg≠[]) (hd:BT.target tg.length d0=some ds) (hl:sl.length=tg.length+fs.length) (hr:sl.drop tg.length=fs) :
 BT.sets (tgI tg) ds sl=ds.map BT.bQ++fs/\(ds.map BT.bQ++fs).length=tg.length+fs.length/\(ds.map BT.bQ++fs).drop tg.length=fs:=by
 match tg,h,h0 with
 | [],_,h0=>exact absurd rfl h0
 | [x],_,_ =>
  simp only[NS,Ow,RG,BT.gk] at hd hl hr
  cases hd
  match sl,hl,hr with
  | a :: r,hl,hr =>
   simp only[Tt,Q2] at hr
   subst hr
   exact ⟨rfl,by simp[Nat.add_comm],rfl⟩
 | [x,y],_,_ =>
  have hd:BT.unpack 2 d0=some ds:=hd
  cases d0<;>simp only[BT.unpack] at hd<;>try contradiction
  split at hd
  ·rename_i c
   cases hd
   match ds,c with
   | [d1,d2],_ =>
    simp only[NS,Ow,RG] at hl hr
    match sl,hl,hr with
    | a :: b :: r,hl,hr =>
     simp only[Tt,Q2] at hr
     subst hr
     exact ⟨rfl,by simp;omega,rfl⟩
    | [a],hl,_=>simp at hl;omega
    | [],hl,_=>simp at hl;omega
  ·cases hd
 | x :: y :: z :: r,h,_=>simp[tgI] at h
theorem jC {s:BT.Sl}:∀ {fv:List (Nat×Str)}{fs:BT.Sl},BT.frees s fv=some fs->fs.length=fv.length/\∀ (i:Nat) (q:Nat×Str),fv[i]?=some q->fs[i]?=s[q.1]?
 | [],fs,e=>by simp[BT.frees] at e;subst e;exact ⟨rfl,fun i q z=>by simp at z⟩
 | q :: r,fs,e=>by
  simp only[BT.frees] at e
  cases g:s[q.1]? with
  | none=>rw[g] at e;cases e
  | some w =>
   rw[g] at e
   obtain ⟨fs',e1,e2⟩:=aC e
   subst e2
   obtain ⟨h1,h2⟩:=jC e1
   refine ⟨by simp[h1],fun i p z=>?_⟩
   cases i with
   | zero=>simp at z;subst z;simp[g]
   | succ i=>simpa using h2 i p (by simpa using z)
theorem vn {P:NG}{w:N2}{K:Nl}{m:List Addr}{H:Hp}{σ:L2.St}{s fs:BT.Sl}{fv:List (Nat×Str)}{n:Nat} (S:RS P w K m H σ s) (hf:BT.frees s fv=some fs):RS P w K m H (iJ n σ fv) (NQ n none++fs):=by
 obtain ⟨h1,h2⟩:=jC hf
 refine ⟨by simp[iJ,h1],fun i y e=>?_⟩
 by_cases c:i < n
 ·rw[Ny (by simpa using c),PM,if_pos c] at e
  cases e
 ·rw[NY (by simpa using c)] at e
  simp only[PY] at e
  have hi:i - n < fv.length:=by
   rw[← h1]
   rcases NK (i - n) fs.length with z | z
   ·exact z
   ·rw[NF z] at e;cases e
  have g:=NB hi
  rw[h2 _ _ g] at e
  obtain ⟨v,hv,r⟩:=S.get _ _ e
  refine ⟨v,?_,r⟩
  unfold iJ
  rw[NY (by simpa using c)]
  simp only[PY,N1,g,Option.map_some,hv,TN]
theorem Bs {f:List BT.D->BT.HH->Option (Option BT.D×BT.HH)}{n:Nat}{d:BT.D}{r rest:List BT.D}{h h2:BT.HH} (e:BT.aR f n (d :: r) h=some (rest,h2)) :
 ∃ xs o hA rest',BT.target n d=some xs/\f xs h=some (o,hA)/\BT.aR f n r hA=some (rest',h2)/\rest=(match o with | some x=>x :: rest' | none=>rest'):=by
 rw[BT.aR] at e
 cases g:BT.target n d with
 | none=>rw[g] at e;cases e
 | some xs =>
  rw[g] at e
  obtain ⟨o,hA,e1,e2⟩:=ak e
  unfold BT.uU at e2
  obtain ⟨rest',h3,e3,e4⟩:=ak e2
  unfold BT.su at e4
  cases e4
  exact ⟨xs,o,hA,rest',rfl,e1,e3,rfl⟩
theorem Un.behind {fs ex:List Addr}{H H' H2:Hp}{h h1 h2:Heap} (u:Un fs ex H H' h h1) (a:∀ b,b < h.objs.size->H2 b=H' b) (lt:∀ b o,H b=some o->b < h.objs.size) (k:∀ b o,b < h.objs.size->h1.get? b=some o->h2.get? b=some o):Un fs ex H H2 h h2 where
 keep:=fun b o e n c d=>k b o (Nx e) (u.keep b o e n c d)
 slot:=fun b o e n c d=>by obtain ⟨sl,q⟩:=u.slot b o e n c d;exact ⟨sl,k b _ (Nx e) q⟩
 free:=fun b o e n d=>by rw[a b (Nx e)];exact u.free b o e n d
 there:=fun b o e d=>by obtain ⟨o',q⟩:=u.there b o e d;exact ⟨o',k b o' (Nx e) q⟩
 tups:=fun b xs e=>by rw[a b (lt b _ e)];exact u.tups b xs e
 frzs:=fun b o w e=>by rw[a b (lt b _ e)];exact u.frzs b o w e
 tbls:=fun b ps e=>by rw[a b (lt b _ e)];exact u.tbls b ps e
section
variable {X:Cx}{F:FT}{G:Str->Option BT.W}{sc:NO}{N:List Str}
theorem E6 (O:Ok X F G sc N) {scope:NO}{tg:List Str}{fv:List (Nat×Str)} (cf:pQ sc N tg fv scope) {s2:Nr}{H1:Hp}{C:Addr}{fp:List Addr} :
 Ok (blk X (tg++fv.map (·.2)) s2 H1 scope C fp) F G (aW scope sc) (tg++fv.map (·.2)) where
 hsc:=by have:=O.hsc;subst this;rfl
 hN:=rfl
 nd:=cf.nd
 calm:=O.calm
 hu:=O.hu
 own:=Rq
 glob:=O.glob
 call:=O.call
 meth:=O.meth
 mkc:=O.mkc
 blt:=O.blt
 lam:=O.lam
 lamx:=fun h=>absurd (show false=true from h "") (by decide)
noncomputable abbrev LI (X:Cx) (F:FT) (G:Str->Option BT.W) (scope:NO) (tg:List Str) (fv:List (Nat×Str)) (cond:BT.Es) (elt:BT.E) (s2:Nr) (H1:Hp) (C:Addr) (fp:List Addr) (tn:Nat->Heap->Prop) (m1:List Addr) (ds outs:List BT.D) (fs:BT.Sl) (h2:BT.HH) (n:Nat) (s:Nr):Prop :=
 ∃ (i:Nat) (σ':L2.St) (H':Hp) (m':List Addr) (hh:BT.HH) (out rest:List BT.D) (vs:List V) (us:List Np) (nn:Nat) (sl:BT.Sl),
  i<=ds.length/\n=ds.length - i/\Inv (blk X (tg++fv.map (·.2)) s2 H1 scope C fp) [(s2.heap.objs.size,lobj us nn)] σ' H' s/\tn i s.heap/\(∀ b∈fp,H' b=none)/\Ext m1 H1 m' H'/\RH X.K m' H' hh ∧
  RS X.prog X.w X.K m' H' σ' sl/\sl.length=tg.length+fs.length/\sl.drop tg.length=fs/\au vs us/\RDs X.K m' H' vs out/\BT.aR (BT.cE (BT.evs F G cond) (BT.ev F G elt) fs) tg.length (ds.drop i) hh=some (rest,h2)/\out++rest=outs
structure Apart (X:Cx) (pins:List (Addr×Obj)) (H:Hp) (C:Addr):Prop where
 fr:H C=none
 lo:C≠X.env.locals
 ab:X.s₀.heap.objs.size<=C
 ce:∀ x c,X.env.cells.lookup x=some c->c≠C
 pi:∀ p∈X.pn++pins,p.1≠C
theorem mV (O:Ok X F G sc N) {mu:Bool}{sr:BT.Sr}{sa:BT.Es}{tg:List Str}{fv:List (Nat×Str)}{cond:BT.Es}{elt:BT.E}{te iter elt':Nn}{ifs:List Nn}{scope:NO}{pos:Pos}
 (hk:iF sc N tg fv scope=true) (ht:pG (aW scope sc) tg te=true) (hset:iC iter=true) (hI:PI X te iter (iD X F G sr sa)) (hC:k9 F G (aW scope sc) (tg++fv.map (·.2)) cond ifs)
 (hE:∀ X',Ok X' F G (aW scope sc) (tg++fv.map (·.2))->PE X' elt' (tD X' F G elt)):∀ (pins:List (Addr×Obj)) (s:Nr) (σ:L2.St) (H:Hp) (Q:VK) (use:Option (Np->Sem Unit)) (Q':Np->Nr->Prop),Inv X pins σ H s->tD X F G (.comp mu sr sa tg fv cond elt) σ H Q →
 (∀ (s6:Nr) (H6:Hp) (C D:Addr) (m:Str->Option Np),Inv X pins σ H6 s6->s6.heap.Ns C m->Apart X pins H6 C->Q (.ref D) H6->compPost (NR X.prog X.w) X.A X.xe use Q' (.ref D) C (.ok .next) s6) →
 wpAny (NR X.prog X.w) X.A (comprehension (.ListComp elt' [⟨te,iter,ifs,0⟩] scope pos) scope X.env (firstIterPos [⟨te,iter,ifs,0⟩] pos) (newList []) false (eval iter X.env) use) Q' X.xe s:=by
 have cf:=Ip hk
 obtain ⟨ct,tl,tloc⟩:=Bq (fs:=fv.map (·.2)) ht
 have t0:tg≠[]:=by
  rintro rfl
  simp[pG] at ht
 intro pins s σ H Q use Q' I q hfin
 obtain ⟨m,s',h,z,h',R,S,ee,post⟩:=q
 simp only[BT.ev] at ee
 obtain ⟨ws,h1,e1,e2⟩:=ak ee
 unfold BT.xr at e2
 cases g1:(BT.rds ws h1).bind (BT.dZ sr) with
 | none=>rw[g1] at e2;cases e2
 | some ds =>
  cases g2:BT.frees s' fv with
  | none=>rw[g1,g2] at e2;cases e2
  | some fs =>
   rw[g1,g2] at e2
   simp only at e2
   by_cases ca:BT.gn ws=true
   case neg=>rw[if_neg ca] at e2;cases e2
   rw[if_pos ca] at e2
   obtain ⟨outs,h2,e3,e4⟩:=ak e2
   unfold BT.kL at e4
   by_cases cl:outs.length<=BT.lim
   case neg=>rw[if_neg cl] at e4;cases e4
   rw[if_pos cl] at e4
   have ez:BT.new mu outs h2=(z,h'):=NH e4
   have hfree:BC.rf X.env.cells scope.names:=fun x hx e=>I.ok.has x.1 (.inl (by
    have:=cf.free x hx e
    show X.env.scope.names.lookup x.1=_
    rw[O.hsc];exact this))
   refine wpAny_comprehension_free (use:=use) rfl (tE hset) (BC.kY hfree) cf.k1 cf.loc
    (thn (hI pins s σ H (fun J H1=>∃ m1,Ext m H m1 H1/\RH X.K m1 H1 h1/\qW X.K J m1 H1 ds) I ⟨m,s',h,ws,h1,ds,R,S,e1,g1,ca,fun H1 m1 J x1 R1 it=>⟨m1,x1,R1,it⟩⟩) fun v s1 hv=>thn hv fun itv s2 h2'=>?_)
   obtain ⟨it,fp,tn,J,H1,rfl,I1,T,st,hf,m1,x1,R1,ito⟩:=h2'
   have hlt:∀ b∈fp,b < s2.heap.objs.size:=fun b hb=>by
    obtain ⟨o,ho,_⟩:=T.obj 0 _ st b hb
    exact Nx ho
   refine Oc (wpAny_newFunctionEnv cf.cell (by intro y hy;simp at hy) (fun h3 hns hsb=>?_) cf.k1)
   dsimp only at hns hsb ⊢
   generalize hH2:s2.heap.push { cls:=.type "list",dict:=none,data:=.seq ([]:List Np).toArray }=H2 at hns hsb ⊢
   have hCs:H2.objs.size=s2.heap.objs.size+1:=by rw[← hH2,OO]
   have old:∀ b o,s2.heap.get? b=some o->h3.get? b=some o:=fun b o e=>hsb.extBut b o (by rw[hCs];exact NV (RC (Nx e))) (Nq _ (hH2 ▸ Nq _ e))
   have hacc:h3.get? s2.heap.objs.size=some (lobj [] 0):=hsb.extBut _ _ (by rw[hCs];exact NV (OW _)) (Nq _ (hH2 ▸ Nz _ rfl))
   have I4:=Bp (tk:=s2.toks+([]:List (Str×Np)).length) I1 O.hsc O.hN cf hCs hf hlt old hns hacc
   have O':=E6 (s2:=s2) (H1:=H1) (C:=H2.objs.size) (fp:=fp) O cf
   obtain ⟨g,hg1,hg2⟩:=sCT O' ct fun q hq=>.inr (by rw[O'.hsc];exact tloc q hq)
   have hfl:fs.length=fv.length:=(jC g2).1
   have stat:∀ {H':Hp}{o:Obj},(∀ b∈fp,H' b=none)->∀ b∈fp,lM (blk X (tg++fv.map (·.2)) s2 H1 scope H2.objs.size fp) [(s2.heap.objs.size,o)] H' b:=fun {H' o} hn b hb=>by
    refine ⟨hn b hb,?_,?_,.inl hb,fun x c e=>(hf b hb).2.2.2.2.1 x c (jM e),fun p hp=>?_⟩
    ·show b≠H2.objs.size
     rw[hCs];exact NV (RC (hlt b hb))
    ·intro zz
     rcases List.mem_cons.mp (I1.ko b zz) with e | e
     ·exact (hf b hb).2.1 e
     ·exact (hf b hb).2.2.1 e
    ·have hp':p=(s2.heap.objs.size,o):=by
      have:p∈[]++[(s2.heap.objs.size,o)]:=hp
      simpa using this
     rw[hp']
     show s2.heap.objs.size≠b
     exact O6 (hlt b hb)
   have loop:∀ s4:Nr,s4={ s2 with heap:=h3,toks:=s2.toks+([]:List (Str×Np)).length } →
    codeAny (NR X.prog X.w) X.A (.compLoop (.ListComp elt' [⟨te,iter,ifs,0⟩] scope pos) 0 (.ref it) (.ref s2.heap.objs.size) (TF scope (BC.cj X.env.cells scope.names []) H2.objs.size X.env))
     (compPost (NR X.prog X.w) X.A X.xe use Q' (.ref s2.heap.objs.size) H2.objs.size) s4:=by
    rintro s4 rfl
    refine BC.vm (LI X F G scope tg fv cond elt s2 H1 H2.objs.size fp tn m1 ds outs fs h2) ?_
     ds.length ⟨0,_,H1,m1,h1,[],outs,[],[],0,_,N5 _,rfl,I4,T.keep 0 _ _ st (fun b hb o e=>old b o e),fun b hb=>(hf b hb).1,.refl _ _,R1,vn (S.ext x1) g2,by simp,by simp,.nil,.nil,by rw[Q2];exact e3,rfl⟩
    rintro n s5 ⟨i,σ5,H5,m5,hh,out,rest,vs,us,nn,sl,hi,rfl,I5,st5,fr5,x5,R5,S5,sl1,sl2,rv5,rd5,go5,ou5⟩
    by_cases c:i < ds.length
    ·rw[Ss c] at go5
     obtain ⟨xs,o,hA,rest',eT,eF,eG,eR⟩:=Bs go5
     refine thn (T.item (blk X (tg++fv.map (·.2)) s2 H1 scope H2.objs.size fp) rfl rfl rfl O.calm i _ s5 σ5 H5 _ I5 (stat fr5) st5 (ito.go m5 H5 i x5 c)) fun r s6 hr=>?_
     obtain ⟨u,rfl,hr⟩:=hr
     refine thn hr fun _ s7 ⟨x,H7,I7,r7,y7,st7,fr7⟩=>?_
     obtain ⟨x7,k7,rd7⟩:=ito.yld m5 H5 hh i x H7 ds[i] x5 R5 (NB c) y7
     have R7:=R5.ext x7 k7
     have I7':=I7.pinned (stat fr7) (T.obj _ _ st7)
     obtain ⟨sq1,sq2,sq3⟩:=Br tl t0 eT sl1 sl2
     refine thn (hg1 _ s7 σ5 H7 x u (fun σ8 H8=>H8=H7/\RS X.prog X.w X.K m5 H7 σ8 (xs.map BT.bQ++fs)) I7' r7 (hg2 m5 H7 σ5 sl x ds[i] xs _ (S5.ext x7) rd7 (by rw[tl];exact eT) fun σ8 S8=>⟨rfl,by rw[← sq1];exact S8⟩)) fun _ s8 h8=>?_
     obtain ⟨σ8,H8,I8,rfl,S8⟩:=h8
     have kept:∀ {s9:Nr}{σ9:L2.St}{H9:Hp},Inv (blk X (tg++fv.map (·.2)) s2 H1 scope H2.objs.size fp) ([(s2.heap.objs.size,lobj us nn)]++jr fp s7.heap) σ9 H9 s9->tn (i+1) s9.heap/\∀ b∈fp,H9 b=none:=fun {s9 σ9 H9} I9=>by
      refine ⟨T.keep _ _ _ st7 fun b hb o e=>(I9.pin (b,o) (N6 _ (N6 _ (fR hb e)))).1,fun b hb=>?_⟩
      obtain ⟨o,e,_⟩:=T.obj _ _ st7 b hb
      exact (I9.pin (b,o) (N6 _ (N6 _ (fR hb e)))).2.1
     have elem:∀ {s9:Nr}{H9:Hp}{m9:List Addr}{h9:BT.HH}{w:BT.W}{hB:BT.HH}{d:BT.D},Inv (blk X (tg++fv.map (·.2)) s2 H1 scope H2.objs.size fp) ([(s2.heap.objs.size,lobj us nn)]++jr fp s7.heap) σ8 H9 s9->Ext m5 H8 m9 H9->RH X.K m9 H9 h9 →
      BT.ev F G elt (xs.map BT.bQ++fs) h9=some (w,hB)->BT.lT w hB=some (some d,hA)->o=some d →
      wpAny (NR X.prog X.w) X.A (eval elt' (TF scope (BC.cj X.env.cells scope.names []) H2.objs.size X.env)) (fun x s₄ =>
       wpAny (NR X.prog X.w) X.A (call (.builtin "list.append") [.ref s2.heap.objs.size,x]) (fun _ s₅=>∃ m,m < ds.length - i/\LI X F G scope tg fv cond elt s2 H1 H2.objs.size fp tn m1 ds outs fs h2 m s₅) (fun _ _=>False) s₄) (fun _ _=>False) s9:=by
      intro s9 H9 m9 h9 w hB d I9 x9 R9 eE eK eO
      have ew:w=.p d/\hB=hA:=by
       unfold BT.lT at eK
       cases w with
       | p d'=>cases eK;exact ⟨rfl,rfl⟩
       | r _=>cases eK
       | k _=>cases eK
       | c _ _=>cases eK
       | o _=>cases eK
      obtain ⟨rfl,rfl⟩:=ew
      refine thn (hE _ O' _ s9 σ8 H9 (fun v Ha=>∃ ma,Ext m9 H9 ma Ha/\RH X.K ma Ha hB/\RD X.K ma Ha v d) I9 ⟨m9,_,h9,_,hB,R9,S8.ext x9,eE,fun v Ha ma xa Ra ra=>by
       cases ra with | p ra=>exact ⟨ma,xa,Ra,ra⟩⟩) fun u10 s10 ⟨v10,H10,I10,r10,m10,x10,R10,rd10⟩=>?_
      obtain ⟨pD,nD,neD,nfD,_⟩:=I10.pin (s2.heap.objs.size,lobj us nn) (by simp)
      have lus:=rv5.length
      have lvs:=rd5.length
      have lou:out.length<=outs.length:=by rw[← ou5];simp
      have lle:=cL
      have cl':outs.length<=BT.lim:=cl
      refine wpAny_list_append_plain ⟨nn,pD⟩ (fun h11 hp11 sb11=>?_) (by rw[Nv];omega)
      obtain ⟨nn',hp11⟩:=hp11
      have hp11:h11.get? s2.heap.objs.size=some (lobj (us++[u10]) nn'):=by rw[hp11];simp[lobj]
      have sb11:Ou s2.heap.objs.size s10.heap h11:=sb11
      obtain ⟨st10,fr10⟩:=kept I10
      have I11:Inv (blk X (tg++fv.map (·.2)) s2 H1 scope H2.objs.size fp) [] σ8 H10 { s10 with heap:=h11 } :=
       Inv.turned (t':=s10.toks) (I10.jV (fun p hp=>by cases hp)) (fun b o hb e=>(sb11.2 b hb).trans e) nD neD (.inr (Nu _)) (fun x c e zz=>by
        obtain ⟨v,o,ho,_⟩:=I1.cell x c (jM e)
        have:=Nx ho
        rw[zz] at this
        exact absurd this (OZ _)) fun p hp=>by cases hp
      have I12:Inv (blk X (tg++fv.map (·.2)) s2 H1 scope H2.objs.size fp) [(s2.heap.objs.size,lobj (us++[u10]) nn')] σ8 H10 { s10 with heap:=h11 }:=I11.jV fun p hp=>by
       simp only[List.mem_singleton] at hp
       subst hp
       exact ⟨hp11,nD,neD,nfD,fun v zz=>by cases (show Data.seq _ _=Data.cell v from zz)⟩
      have xt:Ext m5 H5 m10 H10:=(x7.trans x9).trans x10
      refine ⟨ds.length - (i+1),by omega,i+1,σ8,H10,m10,hB,out++[d],rest',vs++[v10],us++[u10],nn',_,c,rfl,I12,?_,fr10,x5.trans xt,R10,(S8.ext x9).ext x10,sq2,sq3,rv5.append (.cons r10 .nil),(rd5.ext xt).append (.cons rd10 .nil),eG,?_⟩
      ·refine T.keep _ _ _ st10 fun b hb o' e=>(sb11.2 b ?_).trans e
       exact NV (hlt b hb)
      ·rw[← ou5,eR,eO,Ot];rfl
     unfold BT.cE at eF
     obtain ⟨cs,hc,eC,eK⟩:=ak eF
     rcases hC with ⟨rfl,rfl⟩ | ⟨cc,cc',rfl,rfl,hCC⟩
     ·simp only[BT.evs] at eC
      cases eC
      have eK:=(show BT.bnd _ BT.lT=_ from eK)
      obtain ⟨w,hB,eE,eL⟩:=ak eK
      refine wpAny_tests_nil ?_
      rw[if_pos rfl]
      have:∃ d,o=some d:=by
       unfold BT.lT at eL
       cases w with
       | p d'=>cases eL;exact ⟨_,rfl⟩
       | r _=>cases eL
       | k _=>cases eL
       | c _ _=>cases eL
       | o _=>cases eL
      obtain ⟨d,rfl⟩:=this
      exact elem I8 (.refl _ _) R7 eE eL rfl
     ·simp only[BT.evs] at eC
      obtain ⟨wc,hc2,eC1,eC2⟩:=ak eC
      simp only[BT.kM,BT.bg,BT.iA] at eC2
      cases eC2
      have hb:∃ b,wc=.p (.bl b):=by
       cases wc with
       | p d =>
        cases d<;>first | exact ⟨_,rfl⟩ | exact ai eK
       | r _=>exact ai eK
       | k _=>exact ai eK
       | c _ _=>exact ai eK
       | o _=>exact ai eK
      obtain ⟨b,rfl⟩:=hb
      refine wpAny_tests_one (thn (hCC _ O' _ s8 σ8 H8 (fun b' Ha=>b'=b/\∃ ma,Ext m5 H8 ma Ha/\RH X.K ma Ha hc) I8 ⟨m5,_,hh,b,hc,R7,S8,eC1,fun Ha ma xa Ra=>⟨rfl,ma,xa,Ra⟩⟩) fun b' s9 ⟨H9,I9,hbb,m9,x9,R9⟩=>?_)
      subst hbb
      cases b' with
      | false =>
       have eK:=(show some ((none:Option BT.D),hc)=some _ from eK)
       cases eK
       rw[if_neg (by decide)]
       obtain ⟨st9,fr9⟩:=kept I9
       have xt:Ext m5 H5 m9 H9:=x7.trans x9
       refine ⟨ds.length - (i+1),by omega,i+1,σ8,H9,m9,hA,out,rest',vs,us,nn,_,c,rfl,I9.iS,st9,fr9,x5.trans xt,R9,S8.ext x9,sq2,sq3,rv5,rd5.ext xt,eG,?_⟩
       rw[← ou5,eR]
      | true =>
       have eK:=(show BT.bnd _ BT.lT=_ from eK)
       rw[if_pos rfl]
       obtain ⟨w,hB,eE,eL⟩:=ak eK
       have:∃ d,o=some d:=by
        unfold BT.lT at eL
        cases w with
        | p d'=>cases eL;exact ⟨_,rfl⟩
        | r _=>cases eL
        | k _=>cases eL
        | c _ _=>cases eL
        | o _=>cases eL
       obtain ⟨d,rfl⟩:=this
       exact elem I9 x9 R9 eE eL rfl
    ·have ei:i=ds.length:=by omega
     subst ei
     rw[List.drop_length,BT.aR] at go5
     cases go5
     rw[Oa] at ou5
     subst ou5
     refine thn (T.done (blk X (tg++fv.map (·.2)) s2 H1 scope H2.objs.size fp) rfl rfl rfl O.calm _ _ s5 σ5 H5 _ I5 (stat fr5) st5 (ito.stop m5 H5 x5)) fun r s6 ⟨hr,I6⟩=>?_
     subst hr
     obtain ⟨mm,hmm,_⟩:=I6.loc
     obtain ⟨pD,nD,neD,nfD,_⟩:=I6.pin (s2.heap.objs.size,lobj us nn) (by simp)
     have neD:s2.heap.objs.size≠H2.objs.size:=neD
     have hos:s6.os=s2.os:=I6.os
     have lus:=rv5.length
     have lvs:=rd5.length
     have lle:=cL
     have cl':out.length<=BT.lim:=cl
     have hok:HOk X.prog X.w (upd H5 s2.heap.objs.size (.lst vs)) s6.heap:=fun b u e=>by
      by_cases eb:b=s2.heap.objs.size
      ·subst eb
       rw[aB] at e
       cases e
       exact ⟨by omega,us,nn,rv5,pD⟩
      ·rw[ao eb] at e
       refine (I6.hok b u e).stay (fun c v hc q=>q) (fun c q=>?_) fun c l q=>?_
       ·rw[ao (fun zz=>by rw[zz,nD] at q;cases q)];exact q
       ·rw[ao (fun zz=>by rw[zz,nD] at q;cases q)];exact q
     have u7:Un (frs X.stack) fp H1 (upd H5 s2.heap.objs.size (.lst vs)) s2.heap s6.heap:=Un.behind (h1:=s6.heap) I6.base (fun b hb=>ao (NV hb)) (fun b o e=>I1.hok.lt e) fun b o hb e=>e
     have I7:=I1.call (g':=s6.gens) (t':=s6.toks) (d':=s6.drawn) (ch:=fp) u7 hok I6.bare fun b hb=>⟨(hf b hb).2.2.2.1,(hf b hb).2.1,(hf b hb).2.2.2.2.1,(hf b hb).2.2.2.2.2⟩
     have fr6:H5 H2.objs.size=none:=I6.free
     have ltC:s2.heap.objs.size < H2.objs.size:=by rw[hCs];exact OW _
     have ap:Apart X pins (upd H5 s2.heap.objs.size (.lst vs)) H2.objs.size:=by
      refine ⟨by rw[ao (Os neD)];exact fr6,?_,?_,fun x c e zz=>?_,fun p hp zz=>?_⟩
      ·exact O6 (Tc I1.lt ltC)
      ·exact Oj I1.sz (OI ltC)
      ·obtain ⟨v,o,ho,_⟩:=I1.cell x c e
       have l:=Nx ho
       rw[zz] at l
       exact absurd (Tc l ltC) (OZ _)
      ·have l:=Nx (I1.pin p hp).1
       rw[zz] at l
       exact absurd (Tc l ltC) (OZ _)
     refine hfin s6 _ _ _ mm ?_ hmm ap (jY (mu:=mu) R5 nD rd5 (by rw[ez];exact fun v' H' m' xx RR rr=>post v' H' m' ((x1.trans x5).trans xx) RR rr))
     obtain ⟨hp6,g6,d6,t6,os6⟩:=s6
     have hos:os6=s2.os:=hos
     subst hos
     exact I7
   exact codeAny_compStart_list (loop _ rfl) (T.self _ 0 _ _ _ (T.keep 0 _ _ st (fun b hb o e=>old b o e)) (loop _ rfl))
theorem Bt (O:Ok X F G sc N) {mu:Bool}{sr:BT.Sr}{sa:BT.Es}{tg:List Str}{fv:List (Nat×Str)}{cond:BT.Es}{elt:BT.E}{te iter elt':Nn}{ifs:List Nn}{scope:NO}{pos:Pos}
 (hk:iF sc N tg fv scope=true) (ht:pG (aW scope sc) tg te=true) (hset:iC iter=true) (hI:PI X te iter (iD X F G sr sa)) (hC:k9 F G (aW scope sc) (tg++fv.map (·.2)) cond ifs)
 (hE:∀ X',Ok X' F G (aW scope sc) (tg++fv.map (·.2))->PE X' elt' (tD X' F G elt)):PE X (.ListComp elt' [⟨te,iter,ifs,0⟩] scope pos) (tD X F G (.comp mu sr sa tg fv cond elt)):=by
 intro pins s σ H Q I q
 rw[eval_ListComp]
 refine mV O hk ht hset hI hC hE pins s σ H Q none _ I q fun s6 H6 C D m I6 hn ap hq=>?_
 refine ⟨m,hn,fun h7 sb7=>?_⟩
 have sb7:Ou C s6.heap h7:=sb7
 exact ⟨.ref D,H6,Inv.turned (t':=s6.toks) I6 (fun b o hb e=>(sb7.2 b hb).trans e) ap.fr ap.lo (.inr ap.ab) ap.ce ap.pi,rfl,hq⟩
theorem Bu (O:Ok X F G sc N) {i:Nat}{y:Str}{mu:Bool}{sr:BT.Sr}{sa:BT.Es}{tg:List Str}{fv:List (Nat×Str)}{cond:BT.Es}{elt:BT.E}{te iter elt':Nn}{ifs:List Nn}{scope:NO}{pos py spos:Pos}
 (hk:iF sc N tg fv scope=true) (ht:pG (aW scope sc) tg te=true) (hset:iC iter=true) (hI:PI X te iter (iD X F G sr sa)) (hC:k9 F G (aW scope sc) (tg++fv.map (·.2)) cond ifs)
 (hE:∀ X',Ok X' F G (aW scope sc) (tg++fv.map (·.2))->PE X' elt' (tD X' F G elt)) (hy:N[i]?=some y) (hl:sc.names.lookup y=some .local)
 (hsw:Qo (.ListComp elt' [⟨te,iter,ifs,0⟩] scope pos) (some (.Name y py)) spos.line X.env=pure true) :
 PS X (.Assign [.Name y py] (.ListComp elt' [⟨te,iter,ifs,0⟩] scope pos) spos) (uA (tD X F G (.comp mu sr sa tg fv cond elt)) (oR i)):=by
 intro pins s σ H D I q
 rw[exec_Assign_Name_used _ _ _ _ hsw]
 refine wpAny_bind (Tu (wpAny_bind ?_))
 show wpAny _ X.A (do let _ ← comprehension (.ListComp elt' [⟨te,iter,ifs,0⟩] scope pos) scope X.env _ (newList []) false (eval iter X.env) (some (SJ (.Name y py) X.env))) _ _ s
 refine wpAny_bind (thn (mV O hk ht hset hI hC hE pins s σ H _ (some (SJ (.Name y py) X.env)) (fun _ s'=>SP X pins D .next s') I q fun s6 H6 C D' m I6 hn ap hq=>?_) fun _ s' hq=>wpAny_pure (wpAny_pure hq))
 show wpAny _ X.A (SJ (.Name y py) X.env (.ref D')) _ _ _
 refine wpAny_assign_Name (mD I6 O.nd (by rw[O.hN];exact hy) (.inl (by rw[O.hsc];exact hl)) (v:=.ref D') rfl (fun s7 I7 hs=>?_) (.inr (by rw[O.hsc];exact hl)))
 obtain ⟨a,sb,ha⟩:=hs
 have neC:C≠a:=by
  rcases ha with rfl | ha
  ·exact ap.lo
  ·exact fun z=>ap.ce y a ha z.symm
 refine ⟨m,hn.sameBut sb neC,fun h8 sb8=>?_⟩
 have sb8:Ou C s7.heap h8:=sb8
 exact ⟨_,H6,Inv.turned (t':=s7.toks) I7 (fun b o hb e=>(sb8.2 b hb).trans e) ap.fr ap.lo (.inr ap.ab) ap.ce ap.pi,hq⟩
end
end BS
end
section
namespace BS
open PySem PySem.Spec PyProof.Rows L2
section
variable {F:FT}{G:Str->Option BT.W}
theorem vo {X:Cx}{v:V}{ds:List BT.D} (r:∀ m H,RW X.prog X.w X.K m H v (.p (.tup ds))):∃ a vs,v=.ref a/\KT X.K a vs:=by
 have z:=r [] (fun _=>none)
 cases z with
 | p z =>
  cases z with
  | @tup a vs _ h _ =>
   rcases h with ⟨h,_⟩ | h
   ·rcases h with h | ⟨o,h⟩<;>cases h
   ·exact ⟨a,vs,rfl,h⟩
theorem vq {X:Cx}{sc:NO}{N:List Str} (O:Ok X F G sc N) {x:Str}{as:BT.Es}{es:List Nn}{np apos cpos:Pos} (h2:aL sc x=true) (h3:cK x=true) (hl:(apos.endLine==cpos.line)=true) (hlen:es.length < 20) (hc:CEs sc N as es) (ha:PA X es (tDs X F G as)) :
 PE X (.Call (.Attribute (.Name x np) "index" apos) es [] cpos) (tD X F G (.me .tindex (.glo x) as)):=by
 have hst:=c6 hc
 intro pins s σ H Q I q
 obtain ⟨m,s',h,z,h',R,S,ee,post⟩:=q
 simp only[BT.ev] at ee
 obtain ⟨w,g,e1,e2⟩:=ak ee
 obtain ⟨_,e2⟩:=sJ e2
 obtain ⟨ws,g2,e3,e4⟩:=ak e2
 obtain ⟨w',e5,e6⟩:=aC e1
 cases e6
 obtain ⟨u,v0,hm,rv,rw0⟩:=O.glob _ _ e5
 have hT:∃ ds xs,BT.aV ws=some ds/\w=.p (.tup xs)/\ds≠[]:=by
  cases w with
  | r n=>cases ws<;>(first | (cases e4;done) | simp[BT.meW] at e4)
  | k q=>cases ws<;>(first | (cases e4;done) | simp[BT.meW] at e4)
  | c _ _=>cases ws<;>(first | (cases e4;done) | simp[BT.meW] at e4)
  | o q=>cases ws<;>(first | (cases e4;done) | simp[BT.meW] at e4)
  | p d =>
   rw[BT.kH] at e4
   cases gp:BT.aV ws with
   | none=>rw[gp] at e4;cases e4
   | some ds =>
    rw[gp] at e4
    obtain ⟨b,e7,e8⟩:=aC e4
    cases d with
    | tup xs=>refine ⟨ds,xs,rfl,rfl,fun z=>?_⟩;subst z;exact ai e7
    | _=>cases ds<;>exact ai e7
 obtain ⟨ds,xs,gp,rfl,hne⟩:=hT
 obtain ⟨a,vt,rfl,o,its,n,⟨k1,k2,k3,k4,k5⟩,k6⟩:=vo rw0
 cases es with
 | nil =>
  cases as with
  | cons a r=>cases hc
  | nil=>simp only[BT.evs] at e3;cases e3;simp[BT.aV] at gp;exact absurd gp hne
 | cons e es =>
  simp only[av,Nt] at hst
  have h30:decide ((e :: es).length+([]:List RE).length+(if ([]:List RE).isEmpty then 0 else 1) < 30)=true:=decide_eq_true (by
   simp only[NS,Ow,List.isEmpty_nil,if_true] at hlen ⊢;omega)
  refine (CY PySem.F.plainAttrs_tuple PySem.F.slot_tuple_index PySem.F.type_tuple_index (vd O.hu) (rR (aQ O h2) hm rv (dB h3).1) ha rfl (by
   rw[je (es:=e :: es) (by simp only[av,Nt];exact hst),h30];rfl) hl (aj hst.1) (aD hst.2)) pins s σ H Q I ?_
  refine ⟨.inr (.inl ⟨rfl,o,k1,k2,k6⟩),m,s',h,ws,g2,R,S,e3,fun vs H2 m2 x2 R2 r2=>?_⟩
  exact ⟨m2,g2,.p (.tup xs),ws,z,h',R2,rw0 m2 H2,r2,e4,fun v5 H5 m5 x5 R5 r5=>post v5 H5 m5 (x2.trans x5) R5 r5⟩
theorem E7 {X:Cx}{me:BT.Me} (hm:me=.append\/me=.pop\/me=.extend) {o:BT.E}:∀ (m:List Addr) (h h2:BT.HH) (H:Hp) (v:V) (x:BT.W) ws r,RH X.K m H h->RW X.prog X.w X.K m H v x->BT.pC x h=true->BT.meW me x ws h2=some r->(∃ σ s,RS X.prog X.w X.K m H σ s/\∃ h0,BT.ev F G o s h0=some (x,h))->tyV X.K "list" v H:=by
 intro m h h2 H v x ws r R rq ok e _
 obtain ⟨n,rfl⟩:=LW hm e
 exact ty_list R rq ok
theorem LY {X:Cx}{e:BT.E} (σ:L2.St) (H:Hp) (Q:Bool->Hp->Prop) (q:tDT X F G e σ H Q):tB (tD X F G e) σ H Q:=by
 obtain ⟨m,s,h0,b,h',R,S,ee,post⟩:=q
 refine ⟨m,s,h0,_,h',R,S,ee,fun v H' m' x R' r=>?_⟩
 exact ⟨b,jy r,post H' m' x R'⟩
noncomputable def XE (F:FT) (G:Str->Option BT.W) (X:Cx) (e':BT.E) (e:Nn):Prop:=PE X e (tD X F G e')/\(tOK e'=true->PT X e (tDT X F G e')/\∀ op vs p,e=.BoolOp op vs p->PW X e (tDT X F G e'))
noncomputable def XO (F:FT) (G:Str->Option BT.W) (X:Cx) (es':BT.Es) (o:Option Nn):Prop:=∃ t,PO X o t ∧
 ∀ σ H (Q:Option Int->Hp->Prop),(∃ m s h l zs h',RH X.K m H h/\RS X.prog X.w X.K m H σ s/\BT.evs F G es' s h=some (zs,h')/\(BT.aV zs).bind BT.nC=some l/\∀ H' m',Ext m H m' H'->RH X.K m' H' h'->Q l H')->t σ H Q
theorem cM {X:Cx}{e':BT.E}{e:Nn} (p:PE X e (tD X F G e')) (hb:∀ op vs q,e≠.BoolOp op vs q) (he:∀ whole,isTrue e X.env whole=(do let v ← whole;standAt e.pos;holding [v] (truthy v)):=by intro _;rfl):XE F G X e' e :=
 ⟨p,fun _=>⟨PT.weak (Dp p he) LY,fun op vs q z=>absurd z (hb op vs q)⟩⟩
theorem E8 {X:Cx}:XO F G X .nil none:=⟨_,Al,fun σ H Q q=>by
 obtain ⟨m,s,h,l,zs,h',R,S,e1,e2,post⟩:=q
 simp only[BT.evs] at e1
 cases e1
 simp[BT.aV,BT.nC] at e2
 subst e2
 exact post H m (.refl _ _) R⟩
theorem E9 {X:Cx}{a:BT.E}{e:Nn} (ha:PE X e (tD X F G a)):XO F G X (.cons a .nil) (some e):=by
 refine ⟨_,Am ha,fun σ H Q q=>?_⟩
 obtain ⟨m,s,h,l,zs,h',R,S,e1,e2,post⟩:=q
 simp only[BT.evs] at e1
 obtain ⟨x,h1,e3,e4⟩:=ak e1
 simp only[BT.kM,BT.bg,BT.iA] at e4
 cases e4
 refine ⟨m,s,h,x,h',R,S,e3,fun v H1 m1 x1 R1 r1=>?_⟩
 cases r1 with
 | r _=>simp[BT.aV] at e2
 | k _ _=>simp[BT.aV] at e2
 | c _ _=>simp[BT.aV] at e2
 | g _ _=>simp[BT.aV] at e2
 | o _=>simp[BT.aV] at e2
 | p r =>
  cases r<;>simp[BT.aV,BT.nC] at e2
  subst e2
  exact ⟨_,rfl,post H1 m1 x1 R1⟩
theorem iK {X:Cx}{a:BT.E}{e:Nn} (ha:PE X e (tD X F G a)) (hs:noStar e=true):PA X [e] (tDs X F G (.cons a .nil)) :=
 PA.weak (gJ ha nk (aj hs)) fun σ H Q q=>by
  obtain ⟨m,s,h,z0,h',R,S,ee,post⟩:=cons_of σ H Q q
  exact ⟨m,s,h,z0,h',R,S,ee,fun v H1 m1 x1 R1 r1=>gT (post v H1 m1 x1 R1 r1)⟩
theorem rj {X:Cx}{a b:BT.E}{e f:Nn} (ha:PE X e (tD X F G a)) (hb:PE X f (tD X F G b)) (hs:noStar e=true) (hs2:noStar f=true):PA X [e,f] (tDs X F G (.cons a (.cons b .nil))) :=
 PA.weak (gJ ha (iK hb hs2) (aj hs)) cons_of
theorem sMe {X:Cx}{sc:NO}{N:List Str} (O:Ok X F G sc N) {m:BT.Me}{o:BT.E}{as:BT.Es}{oe:Nn}{name:Str}{apos cpos:Pos}{es:List Nn} (h1:xN m o=true) (h2:name=xK m) (h3:aS oe=true) (h6:(apos.endLine==cpos.line)=true) (h7:es.length < 20) (ho:CE' sc N o oe) (ha:CEs sc N as es) (hO:PE X oe (tD X F G o)) (hA:PA X es (tDs X F G as)) :
 PE X (.Call (.Attribute oe name apos) es [] cpos) (tD X F G (.me m o as)):=by
 subst h2
 cases m with
 | append=>exact qU (sc:=sc) (N:=N) Qu PySem.F.slot_list_append PySem.F.type_list_append u9 h3 h6 h7 hO ha hA (E7 (.inl rfl))
 | pop=>exact qU (sc:=sc) (N:=N) Qu PySem.F.slot_list_pop PySem.F.type_list_pop ED h3 h6 h7 hO ha hA (E7 (.inr (.inl rfl)))
 | extend=>exact qU (sc:=sc) (N:=N) Qu PySem.F.slot_list_extend PySem.F.type_list_extend vc h3 h6 h7 hO ha hA (E7 (.inr (.inr rfl)))
 | sindex=>simp[xN] at h1
 | tindex =>
  cases ho with
  | glo hg hn=>exact vq O hg hn h6 h7 ha hA
  | _=>simp[xN,xM] at h1
 | dget=>simp[xN] at h1
theorem sIe {X:Cx}{sc:NO}{N:List Str} (O:Ok X F G sc N) {a:BT.E}{x tg:Nn}{p pos:Pos} (hg:aL sc "enumerate"=true) (hs:noStar x=true) (ha:PE X x (tD X F G a)) (hz:mO .enu tg=true):PI X tg (.Call (.Name "enumerate" p) [x] [] pos) (iD X F G .enu (.cons a .nil)):=by
 cases tg with
 | Tuple elts kk tp=>exact Bo O hg hs (iK ha hs)
 | _=>cases hz
theorem Iq {X:Cx}{a b:BT.E}{x:Nn}{r:List Nn}{p:Pos} (pe:PE X (.BoolOp .And (x :: r) p) (tD X F G (.and a b))) (w:tOK (.and a b)=true->PW X (.BoolOp .And (x :: r) p) (tDT X F G (.and a b))):XE F G X (.and a b) (.BoolOp .And (x :: r) p) :=
 ⟨pe,fun ht=>⟨(w ht).pt,fun _ _ _ e=>by cases e;exact w ht⟩⟩
theorem sOr {X:Cx}{a b:BT.E}{x:Nn}{r:List Nn}{p:Pos} (pe:PE X (.BoolOp .Or (x :: r) p) (tD X F G (.or a b))) (w:tOK (.or a b)=true->PW X (.BoolOp .Or (x :: r) p) (tDT X F G (.or a b))):XE F G X (.or a b) (.BoolOp .Or (x :: r) p) :=
 ⟨pe,fun ht=>⟨(w ht).pt,fun _ _ _ e=>by cases e;exact w ht⟩⟩
theorem j6 {a b:BT.E} (h:tOK (.and a b)=true):tOK a=true/\tOK b=true:=by
 have h:(tOK a&&tOK b)=true:=h
 simpa only[Nt] using h
theorem n8 {a b:BT.E} (h:tOK (.or a b)=true):tOK a=true/\tOK b=true:=by
 have h:(tOK a&&tOK b)=true:=h
 simpa only[Nt] using h
theorem sX {sc:NO}{N:List Str}{e':BT.E}{e:Nn} (h:CE' sc N e' e) {X:Cx} (O:Ok X F G sc N):XE F G X e' e:=by
 refine @CE'.rec (fun sc N e' e _=>∀ (X:Cx),Ok X F G sc N->XE F G X e' e) (fun sc N as es _=>∀ (X:Cx),Ok X F G sc N->PA X es (tDs X F G as)) (fun sc N es' o _=>∀ (X:Cx),Ok X F G sc N->XO F G X es' o) (fun sc N cond ifs _=>k9 F G sc N cond ifs) (fun sc N sr sa iter _=>∀ (X:Cx),Ok X F G sc N->∀ (tg:Nn),mO sr tg=true->PI X tg iter (iD X F G sr sa))
  (fun h1 h2 h3 X O=>cM (sI O h1 h2 h3) (fun _ _ _ z=>nomatch z))
  (fun h X O=>cM (A5 h) (fun _ _ _ z=>nomatch z))
  (fun h2 h3 X O=>cM (A6 O h2 h3) (fun _ _ _ z=>nomatch z))
  (fun h _ _ ia ib X O=>cM (PE.weak (GU (opB h) (ia _ O).1 (ib _ O).1) (nW fun s h=>by simp only[BT.ev])) (fun _ _ _ z=>nomatch z))
  (fun _ ia X O=>cM (PE.weak (CQ vY (ia _ O).1) EL) (fun _ _ _ z=>nomatch z))
  (fun _ ia X O=>⟨PE.weak (Ds (ia _ O).1) Ba,fun ht=>⟨PT.weak (Dr ((ia _ O).2 ht).1) A9,fun _ _ _ e=>nomatch e⟩⟩)
  (fun _ _ ia ib X O=>Iq (PE.weak (vP (ia _ O).1 (vO (ib _ O).1)) sN) fun ht=>PW.weak (vN ((ia _ O).2 (j6 ht).1).1 (zY ((ib _ O).2 (j6 ht).2).1)) sO)
  (fun _ _ ia ib X O=>Iq (PE.weak (vP (ia _ O).1 (ib _ O).1) sN) fun ht=>PW.weak (vN ((ia _ O).2 (j6 ht).1).1 (((ib _ O).2 (j6 ht).2).2 _ _ _ rfl)) sO)
  (fun _ _ ia ib X O=>sOr (PE.weak (CM (ia _ O).1 (vO (ib _ O).1)) yf) fun ht=>PW.weak (CH ((ia _ O).2 (n8 ht).1).1 (Dq ((ib _ O).2 (n8 ht).2).1)) yh)
  (fun _ _ ia ib X O=>sOr (PE.weak (CM (ia _ O).1 (ib _ O).1) yf) fun ht=>PW.weak (CH ((ia _ O).2 (n8 ht).1).1 (((ib _ O).2 (n8 ht).2).2 _ _ _ rfl)) yh)
  (fun h _ _ hm ia ib X O=>⟨PE.weak (Ac (opC O h) (ia _ O).1 (ib _ O).1 hm) (nW fun s h=>by simp only[BT.ev]),fun _=>⟨PT.weak (Ad (opC O h) (ia _ O).1 (ib _ O).1 hm) (pJ (nW fun s h=>by simp only[BT.ev])),fun _ _ _ e=>nomatch e⟩⟩)
  (fun h h' _ _ _ hm ia ib ic X O=>⟨PE.weak (v8 (opC O h) (opC O h') (ia _ O).1 (ib _ O).1 (ic _ O).1 hm) pK,fun _=>⟨PT.weak (v9 (opC O h) (opC O h') (ia _ O).1 (ib _ O).1 (ic _ O).1 hm) (pJ pK),fun _ _ _ e=>nomatch e⟩⟩)
  (fun h _ _ _ ic ia ib X O=>⟨PE.weak (vQ ((ic _ O).2 h).1 (ia _ O).1 (ib _ O).1) EK,fun ht=>nomatch ht⟩)
  (fun _ ia X O=>⟨PE.weak (DO (ia _ O)) EO,fun ht=>nomatch ht⟩)
  (fun _ ia X O=>⟨PE.weak (DP (ia _ O)) ER,fun ht=>nomatch ht⟩)
  (fun _ _ hs ia ii X O=>cM (PE.weak (G7 EC (ia _ O).1 (ii _ O).1 (yc hs)) (nW fun s h=>by simp only[BT.ev])) (fun _ _ _ z=>nomatch z))
  (fun _ _ _ ia il iu X O=>cM (by
   obtain ⟨tl,hl1,hl2⟩:=il _ O
   obtain ⟨tu,hu1,hu2⟩:=iu _ O
   exact PE.weak (wG osl (ia _ O).1 hl1 hu1) (EM hl2 hu2)) (fun _ _ _ z=>nomatch z))
  (fun hg hn ha ia X O=>cM (yi O hg hn ha (ia _ O)) (fun _ _ _ z=>nomatch z))
  (fun hg hg2 hs _ ia X O=>cM (yD O hg hg2 hs (iK (ia _ O).1 hs)) (fun _ _ _ z=>nomatch z))
  (fun hg hg2 hs _ ia X O=>cM (yy O hg hg2 hs (iK (ia _ O).1 hs)) (fun _ _ _ z=>nomatch z))
  (fun hb hg hs _ ia X O=>cM (EN O hb hg (by simp[av,hs]) (iK (ia _ O).1 hs)) (fun _ _ _ z=>nomatch z))
  (fun hb hg hg2 hs _ ia X O=>cM (yj O hb hg hg2 hs (ia _ O).1) (fun _ _ _ z=>nomatch z))
  (fun h1 h2 h3 h6 h7 ho ha io ia X O=>cM (sMe O h1 h2 h3 h6 h7 ho ha (io _ O).1 (ia _ O)) (fun _ _ _ z=>nomatch z))
  (fun hk ht hz hs _ _ _ ii ic ie X O=>⟨Bt O hk ht hs (ii _ O _ hz) ic fun X' O'=>(ie _ O').1,fun ht=>nomatch ht⟩)
  (fun hb hf _ ia X O=>cM (Bc (sc:=sc) (N:=N) hb hf (ia _ O).1) (fun _ _ _ z=>nomatch z))
  (fun h3 h6 h7 _ ha io ia X O=>cM (yl O h3 h6 h7 (io _ O).1 ha (ia _ O)) (fun _ _ _ z=>nomatch z))
  (fun hk _ ia X O=>cM (Bd hk (ia _ O).1) (fun _ _ _ z=>nomatch z))
  (fun hb hg hs1 hs2 _ _ ia ib X O=>cM (Be O hb hg (by simp[av,hs1,hs2]) (rj (ia _ O).1 (ib _ O).1 hs1 hs2)) (fun _ _ _ z=>nomatch z))
  (fun hg hn ha ia X O=>cM (ym O hg hn ha (ia _ O)) (fun _ _ _ z=>nomatch z))
  (fun h1 h2 h3 ha ia X O=>cM (yt O h1 h2 h3 ha (ia _ O)) (fun _ _ _ z=>nomatch z))
  (fun X O=>PA.weak nk fun σ H Q q=>gT q)
  (fun hs _ _ ia ir X O=>PA.weak (gJ (ia _ O).1 (ir _ O) (aj hs)) cons_of)
  (fun X O=>E8)
  (fun _ ia X O=>E9 (ia _ O).1)
  (.inl ⟨rfl,rfl⟩)
  (fun ht _ ia=>.inr ⟨_,_,rfl,rfl,fun X' O'=>((ia _ O').2 ht).1⟩)
  (fun hg hs _ ia X O _ _=>pM O hg hs (iK (ia _ O).1 hs))
  (fun hg hs hs2 _ _ ia ib X O _ _=>pN O hg hs hs2 (rj (ia _ O).1 (ib _ O).1 hs hs2))
  (fun hg hs _ ia X O _ _=>sZ O hg hs (ia _ O).1)
  (fun hg hs _ ia X O _ hz=>sIe O hg hs (ia _ O).1 hz)
  (fun _ ia X O _ _=>sY (ia _ O).1)
  sc N e' e h X O
theorem sE {sc:NO}{N:List Str}{e':BT.E}{e:Nn} (h:CE' sc N e' e) {X:Cx} (O:Ok X F G sc N):PE X e (tD X F G e'):=(sX h O).1
theorem sT {sc:NO}{N:List Str}{e':BT.E}{e:Nn} (h:CE' sc N e' e) {X:Cx} (O:Ok X F G sc N) (ht:tOK e'=true):PT X e (tDT X F G e')/\∀ op vs p,e=.BoolOp op vs p->PW X e (tDT X F G e'):=(sX h O).2 ht
theorem sCC {sc:NO}{N:List Str}{cond:BT.Es}{ifs:List Nn} (h:CC sc N cond ifs):k9 F G sc N cond ifs:=by
 cases h with
 | nil=>exact .inl ⟨rfl,rfl⟩
 | one ht ha=>exact .inr ⟨_,_,rfl,rfl,fun X' O'=>(sT ha O' ht).1⟩
theorem sCI {sc:NO}{N:List Str}{sr:BT.Sr}{sa:BT.Es}{iter:Nn} (h:CI sc N sr sa iter) {X:Cx} (O:Ok X F G sc N) {tg:Nn} (hz:mO sr tg=true):PI X tg iter (iD X F G sr sa):=by
 cases h with
 | seq h=>exact sY (sE h O)
 | rng1 hg hs h=>exact pM O hg hs (iK (sE h O) hs)
 | rng2 hg hs hs2 ha hb=>exact pN O hg hs hs2 (rj (sE ha O) (sE hb O) hs hs2)
 | rev hg hs h=>exact sZ O hg hs (sE h O)
 | enu hg hs h=>exact sIe O hg hs (sE h O) hz
end
end BS
end
section
namespace BS
open PySem PySem.Spec PyProof.Rows L2
noncomputable def mk3 (H:Hp) (P c f:Addr) (t c0 f0:HO):Hp:=upd (upd (upd H P t) c c0) f f0
theorem bW {H:Hp}{P c f a:Addr}{t c0 f0 u:HO}{ps:Array Np} (hP:H P=some (.tbl ps)) (hc:H c=none) (hf:H f=none) (e:H a=some u) (n:xS u=false):mk3 H P c f t c0 f0 a=some u:=by
 unfold mk3
 rw[ao (az e hf),ao (az e hc),ao (fun z=>by subst z;rw[hP] at e;cases e;cases n)];exact e
theorem rA {pos:Pos}{a b:Int}{v0 v:Np} (l:List Np) (h:TriplesOk l) (e:Qq pos (l++[Pc a,Pc b,v0])=some v):Qq pos l=some v\/v=v0:=by
 fun_induction TriplesOk l with
 | case1 =>
  simp only[Ph,Pc,Qq] at e
  split at e
  ·cases e;exact .inr rfl
  ·cases e
 | case2 a' t b' u x rest ih =>
  simp only[List.cons_append,Qq] at e ⊢
  split at e
  ·rename_i hc;rw[if_pos hc];exact .inl e
  ·rename_i hc;rw[if_neg hc];exact ih h e
 | case3 l h1 h2=>exact h.elim
structure Made (X:Cx) (pins:List (Addr×Obj)) (σ:L2.St) (m:List Addr) (H:Hp) (h:BT.HH) (q:Str) (pa:Pe) (be:Nn) (sc:NO) (cl:List (Str×Addr)) (f:Addr) (H3:Hp) (s3:Nr):Prop where
 inv:Inv X pins σ H3 s3
 ext:Ext m H m H3
 rh:RH X.K m H3 h
 ex:∃ pm ctv c' oc os t,Tr m H3 f (QE "<lambda>" q pa be sc cl pm c' ctv)/\Tr m H3 c' oc/\oc.data=.fields os/\os[1]?=some (.str q t)
theorem Bv {X:Cx}{pins:List (Addr×Obj)}{σ:L2.St}{H:Hp}{s:Nr}{m:List Addr}{h:BT.HH} (I:Inv X pins σ H s) (R:RH X.K m H h) {x:Str} (lx:LX X x) {c P:Addr} (tc:Oi X.K x=some (c,P)) {ps:Array Np} (hP:H P=some (.tbl ps))
 (ht:TriplesOk ps.toList) (hall:∀ pos v,Qq pos ps.toList=some v->∃ c' oc os t,v=.ref c'/\H c'=some (.frz oc (.own 0))/\oc.data=.fields os/\os[1]?=some (.str (uY x) t))
 (uniq:∀ y∈BT.dg,∀ c2,Oi X.K y=some (c2,P)->y=x)
 {pos:Pos} (hn:Qq pos ps.toList=none) {c' f:Addr}{h':Heap}{tk:Nat}{fo:Obj} (hfo:fo.isFreed=false) {oc:Obj}{os:Array Np}{t:Tok} (hx:RV P s.heap h') (hge:s.heap.objs.size<=c') (hlt:c' < h'.objs.size) (ho:h'.get? c'=some oc) (hd:oc.data=.fields os) (hq:os[1]?=some (.str (uY x) t))
 (hT:h'.get? P=some (Pq (ps++#[Pc pos.line,Pc pos.col,.ref c']))) :
 Inv X pins σ (mk3 H P c' h'.objs.size (.tbl (ps++#[Pc pos.line,Pc pos.col,.ref c'])) (.frz oc (.own 0)) (.frz fo (.own 0))) { s with heap:=h'.push fo,toks:=tk }/\Ext m H m (mk3 H P c' h'.objs.size (.tbl (ps++#[Pc pos.line,Pc pos.col,.ref c'])) (.frz oc (.own 0)) (.frz fo (.own 0))) ∧
 RH X.K m (mk3 H P c' h'.objs.size (.tbl (ps++#[Pc pos.line,Pc pos.col,.ref c'])) (.frz oc (.own 0)) (.frz fo (.own 0))) h:=by
 have hPs:s.heap.get? P=some (Pq ps):=I.hok _ _ hP
 have szP:P < s.heap.objs.size:=Nx hPs
 have cP:c'≠P:=fun z=>by rw[z] at hge;exact absurd szP (Nat.not_lt.mpr hge)
 have fP:h'.objs.size≠P:=fun z=>by rw[← z] at szP;exact absurd (NU szP hge) (Nat.not_lt.mpr (OI hlt))
 have fc:h'.objs.size≠c':=O6 hlt
 have fr:∀ a,s.heap.objs.size<=a->H a=none:=fun a ha=>I.hok.fresh ha
 have hc:=fr c' hge
 have hf:=fr h'.objs.size (OI (Rt hge hlt))
 have at1:∀ t c0 f0,mk3 H P c' h'.objs.size t c0 f0 h'.objs.size=some f0:=fun _ _ _=>aB
 have at2:∀ t c0 f0,mk3 H P c' h'.objs.size t c0 f0 c'=some c0:=fun _ _ _=>by unfold mk3;rw[ao (Os fc),aB]
 have at3:∀ t c0 f0,mk3 H P c' h'.objs.size t c0 f0 P=some t:=fun _ _ _=>by unfold mk3;rw[ao (Os fP),ao (Os cP),aB]
 have at4:∀ t c0 f0 b,b≠P->b≠c'->b≠h'.objs.size->mk3 H P c' h'.objs.size t c0 f0 b=H b:=fun _ _ _ b n1 n2 n3=>by unfold mk3;rw[ao n3,ao n2,ao n1]
 have nP:∀ b,H b=none->b≠P:=fun b e z=>by rw[z,hP] at e;cases e
 have lt:∀ b o,s.heap.get? b=some o->b≠c'/\b≠h'.objs.size:=fun b o e=>by
  have l:=Nx e
  exact ⟨fun z=>by rw[z] at l;exact absurd l (Nat.not_lt.mpr hge),fun z=>by rw[z] at l;exact absurd (NU l hge) (Nat.not_lt.mpr (OI hlt))⟩
 have kp:∀ b o,b≠P->s.heap.get? b=some o->(h'.push fo).get? b=some o:=fun b o n e=>Nq _ (hx b o n e)
 refine ⟨I.un ⟨fun b o e n _ _=>kp b o (nP b n) e,fun b o e n _ _=>⟨o.slots,kp b o (nP b n) e⟩,fun b o e n _=>?_,fun b o e _=>?_,fun b xs e=>bW hP hc hf e rfl,fun b o u e=>bW hP hc hf e rfl,fun b qs e=>?_⟩ fun b u e=>?_,?_,?_⟩
 ·rw[at4 _ _ _ b (nP b n) (lt b o e).1 (lt b o e).2];exact n
 ·by_cases z:b=P
  ·exact ⟨_,by rw[z];exact Nq _ hT⟩
  ·exact ⟨o,kp b o z e⟩
 ·by_cases z:b=P
  ·subst z;rw[hP] at e;cases e;exact ⟨_,at3 _ _ _⟩
  ·exact ⟨#[],by rw[at4 _ _ _ b z (az e hc) (az e hf),e];simp⟩
 ·by_cases z1:b=h'.objs.size
  ·subst z1;rw[at1] at e;cases e;exact ⟨Nz _ hfo,_,Nz _ hfo⟩
  by_cases z2:b=c'
  ·subst z2;rw[at2] at e;cases e;exact ⟨Nq _ ho,_,Nq _ ho⟩
  by_cases z3:b=P
  ·subst z3;rw[at3] at e;cases e;exact Nq _ hT
  rw[at4 _ _ _ b z3 z2 z1] at e
  refine (I.hok b u e).stay (fun d o hd q=>kp d o ?_ q) (fun d q=>bW hP hc hf q rfl) fun d xs q=>bW hP hc hf q rfl
  rcases hd with rfl | hd
  ·exact z3
  ·rintro rfl;rw[hP] at hd;cases hd
 ·refine ⟨⟨[],by simp,by simp⟩,fun a o e n t=>bW hP hc hf e t,fun a e=>?_⟩
  by_cases z1:a=h'.objs.size
  ·rw[z1];exact hf
  by_cases z2:a=c'
  ·rw[z2];exact hc
  by_cases z3:a=P
  ·subst z3;rw[at3] at e;cases e
  rw[at4 _ _ _ a z3 z2 z1] at e;exact e
 ·have sq:kT H (mk3 H P c' h'.objs.size (.tbl (ps++#[Pc pos.line,Pc pos.col,.ref c'])) (.frz oc (.own 0)) (.frz fo (.own 0))) :=
   ⟨fun a vs r=>r.elim (fun z=>.inl (bW hP hc hf z rfl)) fun ⟨o,z⟩=>.inr ⟨o,bW hP hc hf z rfl⟩,fun a vs r=>r.elim (fun z=>.inl (bW hP hc hf z rfl)) fun ⟨o,z⟩=>.inr ⟨o,bW hP hc hf z rfl⟩⟩
  refine R.tr sq (fun a ha=>?_) fun y hy c2 P2 e2=>?_
  ·obtain ⟨o,e,z⟩:=R.mu ha
   rw[e];exact bW hP hc hf e (by cases o<;>first | rfl | cases z)
  ·by_cases z:P2=P
   ·subst z
    obtain rfl:=uniq y hy c2 e2
    refine ⟨_,at3 _ _ _,?_,fun pos' v e=>?_⟩
    ·have:=TriplesOk_snoc pos.line pos.col (.ref c') ps.toList ht
     simpa using this
    ·have e':Qq pos' (ps.toList++[Pc pos.line,Pc pos.col,.ref c'])=some v:=by simpa using e
     rcases rA _ ht e' with q | q
     ·obtain ⟨c3,oc3,os3,t3,q1,q2,q3⟩:=hall pos' v q
      exact ⟨c3,oc3,os3,t3,q1,bW hP hc hf q2 rfl,q3⟩
     ·subst q
      exact ⟨c',oc,os,t,rfl,at2 _ _ _,hd,hq⟩
   ·obtain ⟨qs,e3,e4,e5⟩:=R.tb y hy c2 P2 e2
    refine ⟨qs,by rw[at4 _ _ _ P2 z (az e3 hc) (az e3 hf)];exact e3,e4,fun pos' v e=>?_⟩
    obtain ⟨c3,oc3,os3,t3,q1,q2,q3⟩:=e5 pos' v e
    exact ⟨c3,oc3,os3,t3,q1,bW hP hc hf q2 rfl,q3⟩
theorem yF {X:Cx}{pins:List (Addr×Obj)}{σ:L2.St}{H:Hp}{s:Nr}{m:List Addr}{h:BT.HH} (I:Inv X pins σ H s) (R:RH X.K m H h) {x:Str} (lx:LX X x) {pa:Pe}{be:Nn}{scope:NO}{lp:Pos}{ps:List Str} (hp:LPa pa ps)
 (hfree:∀ y∈scope.names,y.2=.free->X.env.scope.names.lookup y.1=some .cell) {Q:Np->Nr->Prop}{E:Np->Nr->Prop}
 (hQ:∀ f H3 s3,Made X pins σ m H h (uY x) pa be scope (BC.cj X.env.cells scope.names []) f H3 s3->Q (.ref f) s3):wpAny (NR X.prog X.w) X.A (eval (.Lambda pa be scope lp) X.env) Q E s:=by
 obtain ⟨c,P,tc,hcode,chd,uniq⟩:=lx.ex
 obtain ⟨ts,hP,ht,hall⟩:=R.tb x lx.mem c P tc
 have hPs:s.heap.get? P=some (Pq ts):=I.hok _ _ hP
 have hg:=I.ok.mod.glob.keeps I.bk
 obtain ⟨bm,ob,b1,b2,b3,b4,b5,b6⟩:=lx.bm
 have b3':=I.bk _ _ b3
 have hgP:NL≠P:=fun q=>by
  obtain ⟨o,es,ep,e,hd,_⟩:=hg
  rw[q,hPs] at e;cases e;cases hd
 have hbP:bm≠P:=fun q=>by
  rw[q,hPs] at b3';cases b3';cases b4
 have hbG:bm≠NL:=fun q=>by
  obtain ⟨o,es,ep,e,hd,_⟩:=hg
  rw[q,e] at b3';cases b3';rw[hd] at b6;cases b6
 have hcl:closureFor scope X.env=pure (BC.cj X.env.cells scope.names []):=BC.kY fun y hy e=>I.ok.has y.1 (.inl (hfree y hy e))
 have hB:s.heap.BuiltinsAt X.mg P:=⟨bm,ob,b1,b2,hbG,hbP,b3',b4,b5,b6⟩
 refine PySem.W.kla_eval (by cases hp<;>rfl) ?_
 rw[lx.ql]
 cases hq:Qq lp ts.toList with
 | none =>
  refine PySem.W.kla_makeFunction (mg:=X.mg) hcl I.ok.glob hg hcode (chd.keeps I.bk) hPs ht hq hgP hB fun c' ctv h' tk hx hge hlt hrec htb=>?_
  obtain ⟨c2,oc,vs,t,e2,hoc,hd,hv⟩:=hrec
  cases e2
  obtain ⟨z1,z2,z3⟩:=Bv (tk:=tk) (fo:=QE "<lambda>" (uY x) pa be scope (BC.cj X.env.cells scope.names []) ((X.mg "__name__").getD .none) c' ctv) I R lx tc hP ht hall uniq (f:=h'.objs.size) hq rfl hx hge hlt hoc hd hv htb
  have nf:h'.objs.size≠c':=O6 hlt
  have e1:=I.hok.fresh (OI (Rt hge hlt))
  have e2:=I.hok.fresh hge
  exact hQ _ _ _ ⟨z1,z2,z3,_,ctv,c',oc,vs,t,⟨aB,R.fG e1⟩,⟨by unfold mk3;rw[ao (Os nf),aB],R.fG e2⟩,hd,hv⟩
 | some cv =>
  obtain ⟨c',oc,os,t,rfl,q2,q3,q4⟩:=hall _ _ hq
  refine PySem.W.kla_makeFunctionHit (mg:=X.mg) hcl I.ok.glob hg hcode (chd.keeps I.bk) hPs ht hq hB fun ctv h' tk hk hsz=>?_
  have e1:=I.hok.fresh hsz
  refine hQ _ _ _ ⟨I.laid (o:=.frz (QE "<lambda>" (uY x) pa be scope (BC.cj X.env.cells scope.names []) ((X.mg "__name__").getD .none) c' ctv) (.own 0)) (t':=tk) (fun b u e=>Nq _ (hk b u e)) hsz ⟨Nz _ rfl,_,Nz _ rfl⟩,fk e1,R.new e1,_,ctv,c',oc,os,t,⟨aB,R.fG e1⟩,⟨qR e1 _ _ q2,R.nin q2 rfl⟩,q3,q4⟩
end BS
end
section
namespace BS
open PySem PySem.Spec PyProof.Rows L2
open Classical in
noncomputable def jg (cl:List (Str×Addr)) (h:Heap) (H:Hp):Hp:=fun b=>if ∃ x,cl.lookup x=some b then some (.frz ((h.get? b).getD default) (.own 0)) else H b
section
variable {cl:List (Str×Addr)}{h:Heap}{H:Hp}{b:Addr}
theorem j7 {x:Str}{o:Obj} (e:cl.lookup x=some b) (g:h.get? b=some o):jg cl h H b=some (.frz o (.own 0)):=by
 unfold jg;rw[if_pos ⟨x,e⟩,g];rfl
theorem eB (e:¬ ∃ x,cl.lookup x=some b):jg cl h H b=H b:=if_neg e
theorem Bw (N:∀ x c,cl.lookup x=some c->H c=none):Le H (jg cl h H):=fun a u e=>by
 rw[eB (fun ⟨x,q⟩=>by rw[N x a q] at e;cases e)];exact e
end
theorem j8 {cells:List (Str×Addr)}{y:Str}{d:Addr}:∀ {names:List (Str×Pw)}{acc:List (Str×Addr)},(BC.cj cells names acc).lookup y=some d->acc.lookup y=some d\/(y,Om)∈names
 | [],acc,e=>.inl e
 | (n,k) :: r,acc,e=>by
  rw[BC.cj] at e
  split at e
  ·rename_i hk
   have hk:k=.free:=eq_of_beq hk
   split at e
   ·rename_i a ea
    rcases j8 e with q | q
    ·rw[OV] at q
     split at q
     ·rename_i hy
      have:y=n:=by simpa using hy
      subst this;subst hk
      exact .inr NI
     ·exact .inl q
    ·exact .inr (NC _ q)
   ·rcases j8 e with q | q
    ·exact .inl q
    ·exact .inr (NC _ q)
  ·rcases j8 e with q | q
   ·exact .inl q
   ·exact .inr (NC _ q)
theorem Fb {cells:List (Str×Addr)}{y:Str}{d:Addr}{names:List (Str×Pw)} (e:(BC.cj cells names []).lookup y=some d):(y,Om)∈names:=by
 rcases j8 e with q | q
 ·simp at q
 ·exact q
theorem RWs.le {P:NG}{w:N2}{K:Nl}{m:List Addr}{H H':Hp} (q:Le H H') {vs:List V}{ws:List BT.W} (r:RWs P w K m H vs ws):RWs P w K m H' vs ws:=by
 induction r with
 | nil=>exact .nil
 | cons r t ih=>exact .cons (r.le q) ih
section
variable {F:FT}{G:Str->Option BT.W}
theorem Fc {P:NG}{w:N2}{K:Nl}{m:List Addr}{H:Hp}{v:V}{x:BT.W}{cp:BT.Cp} (r:RW P w K m H v x) (e:BT.o7 x=some cp):RA K m H v cp.w:=by
 cases r with
 | p r=>cases e;exact .p r
 | o h=>cases e;exact .o h
 | r h=>cases e
 | k _ _=>cases e
 | c _ _=>cases e
 | g _ _=>cases e
theorem pS {X:Cx}{pins:List (Addr×Obj)}{σ:L2.St}{H:Hp}{s:Nr}{m:List Addr}{g:BT.HH}{cl:List (Str×Addr)}{sc:NO}{N:List Str}{sl:BT.Sl} (I:Inv X pins σ H s) (R:RH X.K m H g) (hsc:X.env.scope=sc) (hN:X.N=N) (S:RS X.prog X.w X.K m H σ sl)
 (hsub:∀ x c,cl.lookup x=some c->X.env.cells.lookup x=some c):∀ (fv:List (Nat×Str)) (cs:List BT.Cp),xO sc N fv=true->(∀ q∈fv,∃ c,cl.lookup q.2=some c)->BT.caps sl fv=some cs->∃ cvs,f6 m (jg cl s.heap H) cl (fv.map (·.2)) cvs/\RCs X.K m H cvs cs
 | [],cs,_,_,e=>by cases e;exact ⟨[],.nil,.nil⟩
 | q :: r,cs,hv,hc,e=>by
  simp only[xO,SC,Nt] at hv
  rw[BT.uW] at e
  split at e
  ·rename_i w g1
   obtain ⟨cp,e1,e2⟩:=Option.bind_eq_some_iff.mp e
   obtain ⟨cs',e3,rfl⟩:=aC e2
   obtain ⟨cvs,c1,c2⟩:=pS I R hsc hN S hsub r cs' hv.2 (fun q hq=>hc q (NC _ hq)) e3
   obtain ⟨v,s1,rv⟩:=S.get _ _ g1
   obtain ⟨c,hcc⟩:=hc q NI
   have hce:=hsub _ _ hcc
   obtain ⟨mm,hn,hl⟩:=I.loc
   have kc:X.env.scope.names.lookup q.2=some .cell:=by rw[hsc];exact eq_of_beq hv.1.2
   obtain ⟨u,ru,lk⟩:=hl q.1 q.2 v (by rw[hN];exact eq_of_beq hv.1.1) s1 (.inr (.inl kc))
   rcases lk with ⟨k,_⟩ | ⟨k,c',ec,o,ho,hd⟩
   ·have:X.env.scope.names.lookup q.2=some .local:=k
    rw[kc] at this;cases this
   ·rw[hce] at ec
    cases ec
    exact ⟨v :: cvs,.cons hcc ⟨j7 hcc ho,R.fG (I.freeC _ _ hce)⟩ hd ru c1,.cons (Fc rv e1) c2⟩
  ·cases e
theorem vv {m:Str}{ea:BT.HH->Option (List BT.W×BT.HH)}{L:Nat}{ocs:Option (List BT.Cp)}{x:BT.W}{h:BT.HH}{r:BT.W×BT.HH} (e:BT.qO F m ea L ocs x h=some r) :
 ∃ n c fs ws g cs,x=.o n/\BT.oat h n=some (c,fs)/\(BT.bf m fs).isNone=true/\ea h=some (ws,g)/\ocs=some cs/\F (.m c m) (.o n :: (ws++[.c (.l L) cs])) g=some r/\BT.noC [r.1]=true:=by
 cases x with
 | o n =>
  rw[BT.xw] at e
  cases g:BT.oat h n with
  | none=>rw[g] at e;cases e
  | some q =>
   obtain ⟨c,fs⟩:=q
   rw[g] at e
   simp only at e
   split at e
   ·rename_i c1
    obtain ⟨ws,g2,e1,e2⟩:=ak e
    cases ocs with
    | none=>cases e2
    | some cs =>
     rw[BT.uX] at e2
     obtain ⟨z,h2,e3,e4⟩:=ak e2
     refine ⟨n,c,fs,ws,g2,cs,rfl,g,c1,e1,rfl,?_⟩
     cases z with
     | c _ _=>cases e4
     | p _=>cases e4;exact ⟨e3,rfl⟩
     | r _=>cases e4;exact ⟨e3,rfl⟩
     | k _=>cases e4;exact ⟨e3,rfl⟩
     | o _=>cases e4;exact ⟨e3,rfl⟩
   ·cases e
 | p d=>cases e
 | r n=>cases e
 | k q=>cases e
 | c _ _=>cases e
noncomputable def Fd (X:Cx) (F:FT) (G:Str->Option BT.W) (as:BT.Es) (args:List Nn) (lam:Nn):Prop :=
 ∀ (pos:Pos) (pins:List (Addr×Obj)) (s:Nr) (σ:L2.St) (H:Hp) (m:List Addr) (sl:BT.Sl) (h:BT.HH) (ws:List BT.W) (g:BT.HH) (Q:List Np->Nr->Prop),Inv X pins σ H s->RH X.K m H h->RS X.prog X.w X.K m H σ sl->BT.evs F G as sl h=some (ws,g) →
  (∀ vs us H1 s1 m1,Inv X pins σ H1 s1->au vs us->Ext m H m1 H1->RH X.K m1 H1 g->RWs X.prog X.w X.K m1 H1 vs ws->wpAny (NR X.prog X.w) X.A (eval lam X.env) (fun u s2=>Q (us++[u]) s2) X.xe s1) →
  wpAny (NR X.prog X.w) X.A (R6 (Po pos (NZ args X.env))) Q X.xe s
theorem Ir {X:Cx}{pa:Pe}{be:Nn}{scope:NO}{lp:Pos}:Fd X F G .nil [.Lambda pa be scope lp] (.Lambda pa be scope lp):=by
 intro pos pins s σ H m sl h ws g Q I R S e k
 simp only[BT.evs] at e
 cases e
 show wpAny _ _ (R6 ((false,eval (.Lambda pa be scope lp) X.env) :: Po pos (NZ [] X.env))) _ _ s
 exact O9 (thn (k [] [] H s m I .nil (.refl _ _) R .nil) fun u s2 q=>PP q)
theorem Iu {X:Cx}{a:BT.E}{e:Nn}{pa:Pe}{be:Nn}{scope:NO}{lp:Pos} (hs:noStar e=true) (ha:PE X e (tD X F G a)):Fd X F G (.cons a .nil) [e,.Lambda pa be scope lp] (.Lambda pa be scope lp):=by
 intro pos pins s σ H m sl h ws g Q I R S ee k
 simp only[BT.evs] at ee
 obtain ⟨z,g1,e1,e2⟩:=ak ee
 simp only[BT.kM,BT.bg,BT.iA] at e2
 cases e2
 rw[aj hs]
 show wpAny _ _ (R6 ((false,eval e X.env) :: Po pos (NZ [.Lambda pa be scope lp] X.env))) _ _ s
 refine O9 (thn (ha pins s σ H (fun v H1=>∃ m1,Ext m H m1 H1/\RH X.K m1 H1 g/\RW X.prog X.w X.K m1 H1 v z) I ⟨m,sl,h,z,g,R,S,e1,fun v H1 m1 x1 R1 r1=>⟨m1,x1,R1,r1⟩⟩) fun u s1 ⟨v,H1,I1,r1,m1,x1,R1,w1⟩=>?_)
 show wpAny _ _ (R6 ((false,eval (.Lambda pa be scope lp) X.env) :: Po pos (NZ [] X.env))) _ _ s1
 exact O9 (thn (k [v] [u] H1 s1 m1 I1 (.cons r1 .nil) x1 R1 (.cons w1 .nil)) fun u s2 q=>PP q)
theorem pT {X:Cx}{sc:NO}{N:List Str} (O:Ok X F G sc N) (hf:∀ x,X.fn x=true) {o bt:BT.E}{m:Str}{as:BT.Es}{L:Nat}{fv:List (Nat×Str)}{oe be e0:Nn}{rest:List Nn}{apos cpos lp:Pos}{pa:Pe}{scope:NO}{ns ps:List Str}
 (hl:BT.nL L=some ⟨ns,ns,.ret bt⟩) (hp:LPa pa ps) (hn:ns=ps++fv.map (·.2)) (hk:mP ps (fv.map (·.2)) scope=true) (hv:xO sc N fv=true) (ht:N.contains (BT.b8 (BT.xG L))=true) (hc:CE' scope ns bt be) (h3:aS oe=true) (h6:(apos.endLine==cpos.line)=true)
 (hO:PE X oe (tD X F G o)) (hst:av (e0 :: rest)=true) (hlen:(e0 :: rest).length < 20) (hS:Fd X F G as (e0 :: rest) (.Lambda pa be scope lp)) :
 PE X (.Call (.Attribute oe m apos) (e0 :: rest) [] cpos) (tD X F G (.methL o m as L fv)):=by
 have lx:=O.lamx hf _ ht
 have lf:=Ik hk
 subst hn
 intro pins s σ H Q I q
 obtain ⟨m0,s',h,z,h',R,S,ee,post⟩:=q
 simp only[BT.ev] at ee
 obtain ⟨x,h1,e1,e2⟩:=ak ee
 obtain ⟨n,c,fs,ws,g,cs,rfl,e3,e4,e5,e6,e7,e8⟩:=vv e2
 obtain ⟨C,ga,fd,ps',k,hC,hM,hB,hR,ok⟩:=O.meth _ _ _ _ _ e7
 refine PN (thn (hO pins s σ H (fun v H1=>∃ m1,Ext m0 H m1 H1/\RH X.K m1 H1 h1/\RW X.prog X.w X.K m1 H1 v (.o n)) I ⟨m0,s',h,_,h1,R,S,e1,fun v H1 m1 x1 R1 r1=>⟨m1,x1,R1,r1⟩⟩) fun u s1 ⟨v,H1,I1,rv,m1,x1,R1,w1⟩=>?_) (jz h3 hst hlen h6)
 cases w1 with
 | @o a _ ha =>
 obtain rfl:u=.ref a:=rv
 obtain ⟨C',dx,vs0,q1,q2,q3⟩:=R1.mQ _ _ _ _ ha e3
 cases q2.cn.inj hC.cn
 refine fS I1 q1 hC.cls hM (q3.none e4) ?_
 have hst':=hst
 simp only[av,Nt] at hst'
 refine PB (first:=[.ref a]) (h₀:=X.base) I.ok.mod.kin hM.kp (hS cpos pins s1 σ H1 m1 s' h1 ws g _ I1 R1 (S.ext x1) e5 fun vs us H2 s2 m2 I2 rvs x2 R2 w2=>?_) (aj hst'.1) (aD hst'.2)
 have hfree:∀ y∈scope.names,y.2=.free->X.env.scope.names.lookup y.1=some .cell:=fun y hy e=>by
  have hm:=lf.all y hy e
  obtain ⟨p,hp1,hp2⟩:=List.mem_map.mp hm
  have:=List.all_eq_true.mp hv p hp1
  simp only[Nt] at this
  rw[O.hsc,← hp2];exact eq_of_beq this.2
 refine yF I2 R2 lx hp hfree fun f H3 s3 M=>?_
 have I3:=M.inv
 have hsub:∀ y d,(BC.cj X.env.cells scope.names []).lookup y=some d->X.env.cells.lookup y=some d:=fun y d e=>BC.kZ (fun _ _ z=>by simp at z) y d e
 have hfr:∀ y d,(BC.cj X.env.cells scope.names []).lookup y=some d->y∈fv.map (·.2):=fun y d e=>lf.all (y,.free) (Fb e) rfl
 have hhas:∀ p∈fv,∃ d,(BC.cj X.env.cells scope.names []).lookup p.2=some d:=fun p hp'=>by
  have hm:=(lf.fre p.2 (Tq hp')).2
  exact BC.k8 hm (I3.ok.has p.2 (.inl (hfree _ hm rfl)))
 generalize BC.cj X.env.cells scope.names []=cl at M hsub hfr hhas
 have hcel:∀ y d,cl.lookup y=some d->X.s₀.heap.objs.size<=d:=fun y d e=>I3.ok.cab y d (hf y) (hsub y d e)
 have hnone:∀ y d,cl.lookup y=some d->H3 d=none:=fun y d e=>I3.freeC y d (hsub y d e)
 have hobj:∀ y d,cl.lookup y=some d->∃ o u,s3.heap.get? d=some o/\o.data=.cell u:=fun y d e=>by
  obtain ⟨u,ob,g1,g2⟩:=I3.cell y d (hsub y d e)
  exact ⟨ob,u,g1,g2⟩
 have hfrm:∀ y d,cl.lookup y=some d->d∉frs X.stack:=fun y d e hb=>by
  rcases List.mem_cons.mp (I3.ko d hb) with q | q
  ·exact I3.cne y d (hsub y d e) q
  ·obtain ⟨_,ob,g1,_⟩:=I3.ok.iw.mem q
   exact absurd (Nx g1) (Nat.not_lt.mpr (hcel y d e))
 obtain ⟨cvs,cp,rc⟩:=pS I3 M.rh O.hsc O.hN ((S.ext x1).ext (x2.trans M.ext)) hsub fv cs hv hhas e6
 have le:Le H3 (jg cl s3.heap H3):=Bw hnone
 obtain ⟨pm,ctv,c',oc,os,t,t1,t2,t3,t4⟩:=M.ex
 have la:gr m2 (jg cl s3.heap H3) f L cvs:=⟨bt,ps,fv.map (·.2),pa,be,scope,cl,pm,ctv,c',oc,os,t,_,hl,hp,hk,hc,fun y y' d e e'=>I3.ok.inj _ _ _ (hsub _ _ e) (hsub _ _ e'),hfr,⟨le _ _ t1.1,t1.2⟩,⟨le _ _ t2.1,t2.2⟩,t3,t4,cp⟩
 have R4:RH X.K m2 (jg cl s3.heap H3) g:=M.rh.le le
 have w4:RWs X.prog X.w X.K m2 (jg cl s3.heap H3) (.ref a :: (vs++[.ref f])) (.o n :: (ws++[.c (.l L) cs])):=.cons (.o (x2.ix ha)) (RWs.app ((w2.ext M.ext).le le) (.cons (.c la (rc.tr le.sq)) .nil))
 have out:∀ b ob,X.base.get? b=some ob->¬ ∃ y,cl.lookup y=some b:=fun b ob e ⟨y,q⟩=>absurd (Nx (I3.ok.bs b ob e).1) (Nat.not_lt.mpr (hcel y b q))
 have e04:lN X.prog X.w X.K X.mg X.base X.A X.stack s3 (jg cl s3.heap H3):=by
  refine ⟨I3.ok.frames,I3.ok.mod,fun b ob e=>⟨(I3.bs b ob e).1,by rw[eB (out b ob e)];exact (I3.bs b ob e).2⟩,Oj I3.ok.bsz I3.sz,I3.stack,fun b hb=>?_,fun b u e=>?_,I3.bare⟩
  ·rw[eB (fun ⟨y,q⟩=>hfrm y b q hb)];exact I3.ni b hb
  ·by_cases cc:∃ y,cl.lookup y=some b
   ·obtain ⟨y,q⟩:=cc
    obtain ⟨ob,uu,g1,g2⟩:=hobj y b q
    rw[j7 q g1] at e
    cases e
    exact ⟨g1,_,g1⟩
   ·rw[eB cc] at e
    exact (I3.hok b u e).stay (fun _ _ _ z=>z) (fun d z=>le _ _ z) fun d xs z=>le _ _ z
 have rv4:au (V.ref a :: (vs++[.ref f])) (On a :: (us++[.ref f])):=.cons rfl (rvs.append (.cons rfl .nil))
 have sp4:spF X.prog X.w X.K (F (.m c m)) (V.ref a :: (vs++[.ref f])) (jg cl s3.heap H3) (fun v5 H5=>∃ m5,Ext m2 (jg cl s3.heap H3) m5 H5/\RH X.K m5 H5 h'/\RW X.prog X.w X.K m5 H5 v5 z) E0:=⟨m2,_,g,z,h',R4,w4,e7,fun v5 H5 m5 x5 R5 r5=>⟨m5,x5,R5,r5⟩⟩
 have hl4:(On a :: (us++[.ref f])).length=ps'.length:=by rw[← rv4.length];exact ok.len _ _ _ _ sp4
 have hb4:=hB s3 (On a :: (us++[.ref f])) I3.kIn (by rw[Oa];exact hl4)
 rw[Oa] at hb4
 have run4:=ok.run X.A X.stack s3 (jg cl s3.heap H3) ⟨On a :: (us++[On f]),[]⟩ (On a :: (us++[On f])) _ _ E0 hR e04 hb4 rv4 sp4
 refine ⟨I3.kIn,?_⟩
 show wpAny (NR X.prog X.w) X.A (call (.ref ga) (On a :: (us++[On f]))) _ _ s3
 refine QJ (codeAny_mono run4 fun r s' hq=>?_)
 cases r with
 | error e=>exact Of hq
 | ok fl =>
  cases fl with
  | next=>exact Of hq
  | brk=>exact Of hq
  | cont=>exact Of hq
  | ret u =>
   obtain ⟨v5,H5,os5,bare5,un,hok5,rv5,m5,x5,R5,r5⟩:=hq
   have C5:cg cl H5:=fun y d e=>by
    obtain ⟨ob,uu,g1,g2⟩:=hobj y d e
    exact ⟨ob,uu,un.frzs _ _ _ (j7 e g1),g2⟩
   have nc:∀ b uu,H3 b=some uu->¬ ∃ y,cl.lookup y=some b:=fun b uu e ⟨y,q⟩=>by rw[hnone y b q] at e;cases e
   have un6:Un (frs X.stack) [] H3 (hid cl H5) s3.heap s'.heap:=by
    refine ⟨fun b ob e nn hb hx=>?_,fun b ob e nn hb hx=>?_,fun b ob e nn hx=>?_,fun b ob e hx=>un.there b ob e hx,fun b xs e=>?_,fun b ob uu e=>?_,fun b qs e=>?_⟩
    ·by_cases cc:∃ y,cl.lookup y=some b
     ·obtain ⟨y,q⟩:=cc
      exact (hok5 _ _ (un.frzs _ _ _ (j7 q e))).1
     ·exact un.keep b ob e (by rw[eB cc];exact nn) hb hx
    ·exact un.slot b ob e (by rw[eB (fun ⟨y,q⟩=>hfrm y b q hb)];exact nn) hb hx
    ·by_cases cc:∃ y,cl.lookup y=some b
     ·obtain ⟨y,q⟩:=cc;exact qV q
     ·exact ef (un.free b ob e (by rw[eB cc];exact nn) hx)
    ·rw[dj (nc _ _ e)];exact un.tups b xs (le _ _ e)
    ·rw[dj (nc _ _ e)];exact un.frzs b ob uu (le _ _ e)
    ·rw[dj (nc _ _ e)];exact un.tbls b qs (le _ _ e)
   have I6:=I3.GE os5 un6 (sU C5 hok5 fun _ _ e=>e) bare5 (fun b zz=>absurd zz (by simp))
   have x6:Ext m2 H3 m5 (hid cl H5):=by
    obtain ⟨ex,hm,he⟩:=x5.pre
    have lno:∀ b,jg cl s3.heap H3 b=none->H3 b=none:=fun b e=>by
     cases gg:H3 b with
     | none=>rfl
     | some uu=>rw[le _ _ gg] at e;cases e
    refine ⟨⟨ex,hm,fun b hb=>lno b (he b hb)⟩,fun b ob e nn tt=>?_,fun b e=>?_⟩
    ·rw[dj (nc _ _ e)];exact x5.keep b ob (le _ _ e) nn tt
    ·by_cases cc:∃ y,cl.lookup y=some b
     ·obtain ⟨y,q⟩:=cc;exact hnone y b q
     ·rw[dj cc] at e;exact lno b (x5.live b e)
   have r6:RW X.prog X.w X.K m5 (hid cl H5) v5 z:=by
    have:=RWs.tr C5.sq (.cons r5 .nil) e8
    cases this with
    | cons r _=>exact r
   exact ⟨v5,hid cl H5,I6,rv5,post v5 _ m5 ((x1.trans (x2.trans M.ext)).trans x6) (C5.rh R5) r6⟩
end
end BS
end
section
namespace BS
open PySem PySem.Spec PyProof.Rows L2
noncomputable def iL:Nn->Bool
 | .ListComp _ _ _ _=>false
 | .SetComp _ _ _ _=>false
 | .DictComp _ _ _ _ _=>false
 | _=>true
noncomputable def swB (sc scope:NO) (x:Str) (np pos:Pos):Bool :=
 (if sc.kind.isAnnotationScope then ScopeKind.function else sc.kind)==.function&&sc.names.lookup x==some .local&&np.line==pos.line&&!(scope.names.any fun (n,k)=>n==x&&(k==.local||k==.cell))
mutual
inductive CS (sc:NO) (N:List Str):BT.S->Oq->Prop where
 | setL {i:Nat}{x m:Str}{o:BT.E}{as:BT.Es}{L:Nat}{fv:List (Nat×Str)}{call:Nn}{np p:Pos} (h1:N[i]?=some x) (h2:jS sc x=true) (hl:CL sc N o m as L fv call):CS sc N (.set i x (.methL o m as L fv)) (.Assign [.Name x np] call p)
 | retL {m:Str}{o:BT.E}{as:BT.Es}{L:Nat}{fv:List (Nat×Str)}{call:Nn}{p:Pos} (hl:CL sc N o m as L fv call):CS sc N (.ret (.methL o m as L fv)) (.Return (some call) p)
 | setc {i:Nat}{x:Str}{mu:Bool}{sr:BT.Sr}{sa:BT.Es}{tg:List Str}{fv:List (Nat×Str)}{cond:BT.Es}{elt:BT.E}{te iter elt':Nn}{ifs:List Nn}{scope:NO}{pos np p:Pos} (h1:N[i]?=some x) (h3:(sc.names.lookup x==some .cell||swB sc scope x np pos)=true)
  (hk:iF sc N tg fv scope=true) (ht:pG (aW scope sc) tg te=true) (hz:mO sr te=true) (hs:iC iter=true) (hi:CI sc N sr sa iter) (hc:CC (aW scope sc) (tg++fv.map (·.2)) cond ifs) (he:CE' (aW scope sc) (tg++fv.map (·.2)) elt elt') :
  CS sc N (.set i x (.comp mu sr sa tg fv cond elt)) (.Assign [.Name x np] (.ListComp elt' [⟨te,iter,ifs,0⟩] scope pos) p)
 | set {i:Nat}{x:Str}{e:BT.E}{v:Nn}{np p:Pos} (h1:N[i]?=some x) (h2:jS sc x=true) (h3:iL v=true) (he:CE' sc N e v):CS sc N (.set i x e) (.Assign [.Name x np] v p)
 | put {i:Nat}{x:Str}{k e:BT.E}{ke v:Nn}{np sp p:Pos} (h1:N[i]?=some x) (h2:kN sc x=true) (h3:cK x=true) (h4:iL v=true) (h5:jX ke=true) (hk:CE' sc N k ke) (he:CE' sc N e v):CS sc N (.put i x k e) (.Assign [.Subscript (.Name x np) ke sp] v p)
 | aug {i:Nat}{x:Str}{o:BT.Bin}{op:Qa}{e:BT.E}{v:Nn}{np p:Pos} (h1:N[i]?=some x) (h2:jS sc x=true) (h3:yo o op=true) (he:CE' sc N e v):CS sc N (.aug i x o e) (.AugAssign (.Name x np) op v p)
 | setf {o e:BT.E}{f:Str}{oe v:Nn}{np p:Pos} (h1:attrName f=true) (h2:iL v=true) (ho:CE' sc N o oe) (he:CE' sc N e v):CS sc N (.setf o f e) (.Assign [.Attribute oe f np] v p)
 | augf {o e:BT.E}{f:Str}{b:BT.Bin}{op:Qa}{oe v:Nn}{np p:Pos} (h1:attrName f=true) (h3:yo b op=true) (ho:CE' sc N o oe) (he:CE' sc N e v):CS sc N (.augf o f b e) (.AugAssign (.Attribute oe f np) op v p)
 | ex {e:BT.E}{v:Nn}{p:Pos} (h:iL v=true) (he:CE' sc N e v):CS sc N (.ex e) (.Expr v p)
 | ret {e:BT.E}{v:Nn}{p:Pos} (he:CE' sc N e v):CS sc N (.ret e) (.Return (some v) p)
 | ife {c:BT.E}{a b:BT.S}{t:Nn}{xs ys:List Oq}{p:Pos} (h:tOK c=true) (hc:CE' sc N c t) (ha:CSs sc N a xs) (hb:CSs sc N b ys):CS sc N (.ife c a b) (.If t xs ys p)
 | whl {c:BT.E}{b:BT.S}{t:Nn}{xs:List Oq}{p:Pos} (h:tOK c=true) (hc:CE' sc N c t) (hb:CSs sc N b xs):CS sc N (.whl c b) (.While t xs [] p)
 | for {tg:List (Nat×Str)}{sr:BT.Sr}{sa:BT.Es}{b:BT.S}{te iter:Nn}{xs:List Oq}{p:Pos} (ht:CT sc N tg te) (hi:CI sc N sr sa iter) (hz:mO sr te=true) (hs:iC iter=true) (hb:CSs sc N b xs):CS sc N (.for tg sr sa b) (.For te iter xs [] p)
 | brk {p:Pos}:CS sc N .brk (.Break p)
 | cnt {p:Pos}:CS sc N .cnt (.Continue p)
 | bad {st:Oq}:CS sc N .bad st
inductive CSs (sc:NO) (N:List Str):BT.S->List Oq->Prop where
 | nil:CSs sc N .nil []
 | one {s:BT.S}{st:Oq} (h:CS sc N s st):CSs sc N s [st]
 | cons {a b:BT.S}{st st2:Oq}{r:List Oq} (h:CS sc N a st) (hr:CSs sc N b (st2 :: r)):CSs sc N (.seq a b) (st :: st2 :: r)
end
noncomputable def jh (X:Cx) (m:List Addr) (H:Hp) (fl:BT.Fl) (D:Ends):Prop:=match fl with
 | .nx s' h'=>∀ σ' H' m',Ext m H m' H'->RH X.K m' H' h'->RS X.prog X.w X.K m' H' σ' s'->D.nx σ' H'
 | .rt z h'=>∀ v H' m',Ext m H m' H'->RH X.K m' H' h'->RW X.prog X.w X.K m' H' v z->D.rt v H'
 | .bk s' h'=>∀ σ' H' m',Ext m H m' H'->RH X.K m' H' h'->RS X.prog X.w X.K m' H' σ' s'->D.bk σ' H'
 | .ct s' h'=>∀ σ' H' m',Ext m H m' H'->RH X.K m' H' h'->RS X.prog X.w X.K m' H' σ' s'->D.ct σ' H'
theorem jh.ext {X:Cx}{m m':List Addr}{H H':Hp}{fl:BT.Fl}{D:Ends} (x:Ext m H m' H') (p:jh X m H fl D):jh X m' H' fl D:=by
 cases fl<;>exact fun a b c y=>p a b c (x.trans y)
noncomputable def tDS (X:Cx) (F:FT) (G:Str->Option BT.W) (S:BT.S):TS:=fun D σ H =>
 ∃ m s h fl,RH X.K m H h/\RS X.prog X.w X.K m H σ s/\BT.evS F G S s h=some fl/\jh X m H fl D
theorem PS.weak {X:Cx}{st:Oq}{t t':TS} (h:PS X st t) (q:∀ D σ H,t' D σ H->t D σ H):PS X st t':=fun pins s σ H D I hw=>h pins s σ H D I (q _ _ _ hw)
theorem PSs.weak {X:Cx}{st:List Oq}{t t':TS} (h:PSs X st t) (q:∀ D σ H,t' D σ H->t D σ H):PSs X st t':=fun pins s σ H D I hw=>h pins s σ H D I (q _ _ _ hw)
section
variable {F:FT}{G:Str->Option BT.W}
theorem Fe {X:Cx}{a b:BT.S} (D:Ends) (σ:L2.St) (H:Hp) (q:tDS X F G (.seq a b) D σ H):GK (tDS X F G a) (tDS X F G b) D σ H:=by
 obtain ⟨m,s,h,fl,R,S,e,post⟩:=q
 simp only[BT.evS] at e
 cases g:BT.evS F G a s h with
 | none=>rw[g] at e;cases e
 | some f1 =>
  rw[g] at e
  refine ⟨m,s,h,f1,R,S,g,?_⟩
  cases f1 with
  | nx s1 h1=>exact fun σ1 H1 m1 x1 R1 S1=>⟨m1,s1,h1,fl,R1,S1,e,post.ext x1⟩
  | rt z h1=>cases e;exact post
  | bk s1 h1=>cases e;exact post
  | ct s1 h1=>cases e;exact post
theorem gY {X:Cx}{S0:BT.S}{a:BT.E}{k:BT.Sl->BT.W->BT.HH->Option BT.Fl} (he:∀ s h,BT.evS F G S0 s h=BT.bnd (BT.ev F G a s h) (k s)) {D:Ends}{σ:L2.St}{H:Hp} (q:tDS X F G S0 D σ H) {R':V->Hp->Prop}
 (h1:∀ m s h x fl v H1,RH X.K m H1 h->RS X.prog X.w X.K m H1 σ s->RW X.prog X.w X.K m H1 v x->k s x h=some fl->jh X m H1 fl D->R' v H1):tD X F G a σ H R':=by
 obtain ⟨m,s,h,fl,R,S,ee,post⟩:=q
 rw[he] at ee
 obtain ⟨x,g,e1,e2⟩:=ak ee
 exact ⟨m,s,h,x,g,R,S,e1,fun v H1 m1 x1 R1 r1=>h1 m1 s g x fl v H1 R1 (S.ext x1) r1 e2 (post.ext x1)⟩
theorem tG {x:Option (BT.W×BT.HH)}{k:Bool->BT.HH->Option BT.Fl}{fl:BT.Fl} (h:BT.tst x k=some fl):∃ b g,x=some (.p (.bl b),g)/\k b g=some fl:=by
 unfold BT.tst at h
 obtain ⟨w,g,e1,e2⟩:=ak h
 unfold BT.HM at e2
 cases w with
 | p d =>
  cases d<;>simp only at e2<;>try contradiction
  exact ⟨_,g,e1,e2⟩
 | r n=>cases e2
 | k q=>cases e2
 | c _ _=>cases e2
 | o q=>cases e2
theorem ji {e:Nn}{t:Option Nn}{l:Nat}{env:Env} (h:iL e=true):Qo e t l env=pure false:=by
 cases e<;>first | rfl | cases h
theorem Bx {e t:Nn}{l:Nat}{env:Env} (h:iL e=true):swapsWithSole [t] e l env=pure false:=ji h
theorem rB {o i:Nn}{pos:Pos}{env:Env} (h:jX i=true):∀ v,SJ (.Subscript o i pos) env v=(do
 let ov ← holding [v] (eval o env)
 let iv ← holding [v,ov] (eval i env)
 standAt pos
 holding [v,ov,iv] (setItem ov iv v)
 release [v,ov,iv] []):=by
 intro v
 cases i<;>first | rfl | cases h
theorem Ff {X:Cx}{c:BT.E}{b:BT.S} (D:Ends) (σ:L2.St) (H:Hp) (q:tDS X F G (.whl c b) D σ H):vV (tDT X F G c) (tDS X F G b) D σ H:=by
 obtain ⟨m0,s,h,fl,R,S,e,post⟩:=q
 simp only[BT.evS] at e
 refine ⟨fun n σ H=>∃ m s h,RH X.K m H h/\RS X.prog X.w X.K m H σ s/\BT.aZ (BT.ev F G c) (BT.evS F G b) n s h=some fl/\jh X m H fl D,⟨BT.turns,m0,s,h,R,S,e,post⟩,?_⟩
 rintro n σ1 H1 ⟨m,s,h,R,S,e,post⟩
 cases n with
 | zero=>cases e
 | succ n =>
  rw[BT.aZ] at e
  obtain ⟨t,g,e1,e2⟩:=tG e
  refine ⟨m,s,h,t,g,R,S,e1,fun H2 m2 x2 R2=>?_⟩
  cases t with
  | false =>
   rw[BT.gq] at e2
   cases e2
   rw[if_neg (by decide)]
   exact post σ1 H2 m2 x2 R2 (S.ext x2)
  | true =>
   rw[BT.iB] at e2
   rw[if_pos rfl]
   refine ⟨fun σ' H'=>∃ m' s' h',RH X.K m' H' h'/\RS X.prog X.w X.K m' H' σ' s'/\BT.aZ (BT.ev F G c) (BT.evS F G b) n s' h'=some fl/\jh X m' H' fl D,fun σ' H' ⟨m',s',h',a1,a2,a3,a4⟩=>⟨n,OW n,m',s',h',a1,a2,a3,a4⟩,?_⟩
   cases gb:BT.evS F G b s g with
   | none=>rw[gb] at e2;cases e2
   | some f1 =>
    rw[gb] at e2
    refine ⟨m2,s,g,f1,R2,S.ext x2,gb,?_⟩
    cases f1 with
    | nx s1 h1=>exact fun σ3 H3 m3 x3 R3 S3=>⟨m3,s1,h1,R3,S3,e2,(post.ext x2).ext x3⟩
    | ct s1 h1=>exact fun σ3 H3 m3 x3 R3 S3=>⟨m3,s1,h1,R3,S3,e2,(post.ext x2).ext x3⟩
    | bk s1 h1=>cases e2;exact fun σ3 H3 m3 x3 R3 S3=>post σ3 H3 m3 (x2.trans x3) R3 S3
    | rt z h1=>cases e2;exact fun v H3 m3 x3 R3 r3=>post v H3 m3 (x2.trans x3) R3 r3
theorem Fg {X:Cx}{i:Nat}{x:Str}{o:BT.Bin}{e:BT.E} (D:Ends) (σ:L2.St) (H:Hp) (q:tDS X F G (.aug i x o e) D σ H):GP i (tD X F G e) (ES o) D σ H:=by
 obtain ⟨m,s,h,fl,R,S,ee,post⟩:=q
 simp only[BT.evS] at ee
 obtain ⟨y,g,e1,e2⟩:=ak ee
 unfold BT.HU at e2
 have hs:∃ d d' z,s[i]?=some (some (.p d))/\y=.p d'/\BT.kG o d d'=some z/\fl=.nx (s.set i (some (.p z))) g:=by
  cases g1:s[i]? with
  | none=>rw[g1] at e2;cases y<;>cases e2
  | some ow =>
   cases ow with
   | none=>rw[g1] at e2;cases y<;>cases e2
   | some w0 =>
    rw[g1] at e2
    cases w0<;>cases y<;>simp only at e2<;>try contradiction
    obtain ⟨z,e3,e4⟩:=aC e2
    exact ⟨_,_,z,rfl,rfl,e3,e4.symm⟩
 obtain ⟨d,d',z,g1,rfl,e3,rfl⟩:=hs
 obtain ⟨a,b,k,rfl,rfl,rfl⟩:=sR e3
 obtain ⟨v,hv,rv⟩:=S.get i _ g1
 have ev:v=.int a:=by cases rv with | p rv=>cases rv;rfl
 subst ev
 refine ⟨_,hv,m,s,h,_,g,R,S,e1,fun u H1 m1 x1 R1 r1=>?_⟩
 cases r1 with
 | p r1 =>
  cases r1
  exact ⟨a,b,k,rfl,rfl,e3,post _ H1 m1 x1 R1 ((S.ext x1).set (.p (.int k)))⟩
theorem vz {s:BT.Sl}{f:Str}{v x:BT.W}{h:BT.HH}{fl:BT.Fl} (e:BT.nJ s f v x h=some fl):∃ n c fs,x=.o n/\BT.oat h n=some (c,fs)/\BT.attrOk v=true/\fs.length < 1000/\fl=.nx s (h.set n (.o c (BT.br f v fs))):=by
 cases x with
 | o n =>
  rw[BT.xB] at e
  cases g:BT.oat h n with
  | none=>rw[g] at e;cases e
  | some q =>
   obtain ⟨c,fs⟩:=q
   rw[g] at e
   simp only at e
   split at e
   ·rename_i c1
    cases e
    simp only[Nt,decide_eq_true_eq] at c1
    exact ⟨n,c,fs,rfl,g,c1.1,c1.2,rfl⟩
   ·cases e
 | p d=>cases e
 | r n=>cases e
 | k q=>cases e
 | c _ _=>cases e
theorem pU {X:Cx}{D:Ends}{m:List Addr}{H:Hp}{σ:L2.St}{s:BT.Sl}{h:BT.HH}{n:Nat}{c f:Str}{fs:List (Str×BT.W)}{y:BT.W}{v:V}{a C dx:Addr}{vs:List (Str×V)} (R:RH X.K m H h) (S:RS X.prog X.w X.K m H σ s) (hn:m[n]?=some a) (h1:H a=some (.ins C dx vs)) (h2:kO X.K c C) (h3:RFs X.K m H vs fs) (ra:RA X.K m H v y)
 (post:jh X m H (.nx s (h.set n (.o c (BT.br f y fs)))) D):D.nx σ (upd H a (.ins C dx (L2.br f v vs))):=by
 have x:Ext m H m (upd H a (.ins C dx (L2.br f v vs))):=i9 (NJ hn)
 exact post σ _ m x (R.setC hn ⟨C,dx,_,aB,h2,(RFs.put ra h3).ext x⟩) (S.ext x)
theorem By {X:Cx}{o e:BT.E}{f:Str} (hf:attrName f=true) (D:Ends) (σ:L2.St) (H:Hp) (q:tDS X F G (.setf o f e) D σ H):G1 X.K (tD X F G o) (tD X F G e) f D σ H:=by
 refine gY (k:=fun s=>BT.xC (BT.ev F G o s) s f) (fun s h=>by simp only[BT.evS]) q fun m s h y fl v H1 R S r e1 post=>?_
 rw[BT.xD] at e1
 obtain ⟨x,g,e2,e3⟩:=ak e1
 obtain ⟨n,c,fs,rfl,g1,ok,hl,rfl⟩:=vz e3
 refine ⟨m,s,h,.o n,g,R,S,e2,fun u H2 m2 x2 R2 r2=>?_⟩
 cases r2 with
 | @o a _ hn =>
  obtain ⟨C,dx,vs,q1,q2,q3⟩:=R2.mQ _ _ _ _ hn g1
  exact ⟨a,C,dx,vs,rfl,q1,q2.cls,q2.no f hf,by rw[q3.length];exact hl,pU R2 (S.ext x2) hn q1 q2 q3 ((r.ext x2).ra ok) (post.ext x2)⟩
theorem yG {ee:BT.EH}{s:BT.Sl}{f:Str}{op:BT.Bin}{x:BT.W}{h:BT.HH}{fl:BT.Fl} (e:BT.sD ee s f op x h=some fl):∃ n c fs d y g fs' z,x=.o n/\BT.oat h n=some (c,fs)/\BT.bf f fs=some (.p d)/\ee h=some (.p y,g)/\BT.oat g n=some (c,fs')/\BT.kG op d y=some z/\fs'.length < 1000/\fl=.nx s (g.set n (.o c (BT.br f (.p z) fs'))):=by
 cases x with
 | o n =>
  rw[BT.AM] at e
  cases g1:BT.oat h n with
  | none=>rw[g1] at e;cases e
  | some q =>
   obtain ⟨c,fs⟩:=q
   rw[g1] at e
   simp only at e
   cases g2:BT.bf f fs with
   | none=>rw[g2] at e;cases e
   | some w0 =>
    rw[g2] at e
    cases w0 with
    | p d =>
     simp only at e
     obtain ⟨y,g,e1,e2⟩:=ak e
     cases y with
     | p y =>
      rw[BT.xE] at e2
      cases g3:BT.oat g n with
      | none=>rw[g3] at e2;cases e2
      | some q =>
       obtain ⟨c',fs'⟩:=q
       rw[g3] at e2
       simp only at e2
       cases g4:BT.kG op d y with
       | none=>rw[g4] at e2;cases e2
       | some z =>
        rw[g4] at e2
        simp only at e2
        split at e2
        ·rename_i c1
         cases e2
         obtain ⟨rfl,c1⟩:=c1
         exact ⟨n,c',fs,d,y,g,fs',z,rfl,g1,g2,e1,g3,g4,c1,rfl⟩
        ·cases e2
     | r n=>cases e2
     | k q=>cases e2
     | c _ _=>cases e2
     | o n=>cases e2
    | r n=>cases e
    | k q=>cases e
    | c _ _=>cases e
    | o n=>cases e
 | p d=>cases e
 | r n=>cases e
 | k q=>cases e
 | c _ _=>cases e
theorem BA {X:Cx}{o e:BT.E}{f:Str}{b:BT.Bin} (hf:attrName f=true) (D:Ends) (σ:L2.St) (H:Hp) (q:tDS X F G (.augf o f b e) D σ H):rT X.K (tD X F G o) (tD X F G e) (ES b) f D σ H:=by
 refine gY (k:=fun s=>BT.sD (BT.ev F G e s) s f b) (fun s h=>by simp only[BT.evS]) q fun m s h y fl v H1 R S r e1 post=>?_
 obtain ⟨n,c,fs,d,y,g,fs',z,rfl,g1,g2,e2,g3,g4,hl,rfl⟩:=yG e1
 obtain ⟨i,j,k,rfl,rfl,rfl⟩:=sR g4
 cases r with
 | @o a _ hn =>
  obtain ⟨C,dx,vs,q1,q2,q3⟩:=R.mQ _ _ _ _ hn g1
  obtain ⟨u,l,ra⟩:=q3.get g2
  have eu:u=.int i:=by cases ra with | p ra=>cases ra;rfl
  subst eu
  refine ⟨a,C,dx,vs,_,rfl,q1,q2.cls,q2.no f hf,l,m,s,h,_,g,R,S,e2,fun u2 H2 m2 x2 R2 r2=>?_⟩
  cases r2 with
  | p r2 =>
   cases r2
   obtain ⟨C',dx',vs',p1,p2,p3⟩:=R2.mQ _ _ _ _ (x2.ix hn) g3
   cases p2.cn.inj q2.cn
   exact ⟨i,j,k,rfl,rfl,g4,dx',vs',p1,by rw[p3.length];exact hl,pU R2 (S.ext x2) (x2.ix hn) p1 p2 p3 (.p (.int k)) (post.ext x2)⟩
theorem Fi {X:Cx}{i:Nat}{x:Str}{k e:BT.E} (D:Ends) (σ:L2.St) (H:Hp) (q:tDS X F G (.put i x k e) D σ H):uA (tD X F G e) (Dy (tD X F G (.var i x)) (tD X F G k) CW) D σ H:=by
 refine gY (k:=fun s=>BT.Ep (BT.ev F G k s) s i) (fun s h=>by simp only[BT.evS]) q fun m s h y fl v H1 R S r e1 post=>?_
 unfold BT.Ep at e1
 cases y with
 | r n=>cases e1
 | k q=>cases e1
 | c _ _=>cases e1
 | o q=>cases e1
 | p d =>
  cases g:s[i]? with
  | none=>rw[g] at e1;cases e1
  | some o =>
   cases o with
   | none=>rw[g] at e1;cases e1
   | some wz =>
    cases wz with
    | p _=>rw[g] at e1;cases e1
    | k _=>rw[g] at e1;cases e1
    | c _ _=>rw[g] at e1;cases e1
    | o _=>rw[g] at e1;cases e1
    | r n =>
     rw[g] at e1
     simp only at e1
     obtain ⟨q,h2,e2,e3⟩:=ak e1
     refine ⟨m,s,h,.r n,h,R,S,by simp only[BT.ev,g],fun o H2 m2 x2 R2 r2=>⟨m2,s,h,q,h2,R2,S.ext x2,e2,fun ki H3 m3 x3 R3 r3=>?_⟩⟩
     unfold BT.C6 at e3
     cases q with
     | r _=>cases e3
     | k _=>cases e3
     | c _ _=>cases e3
     | o _=>cases e3
     | p dk =>
      cases g2:BT.lat h2 n with
      | none=>rw[g2] at e3;cases dk<;>cases e3
      | some xs =>
       rw[g2] at e3
       cases dk with
       | int j =>
        simp only at e3
        cases g3:BT.place xs.length j with
        | none=>rw[g3] at e3;cases e3
        | some mm =>
         rw[g3] at e3
         cases e3
         have r2':=r2.ext x3
         cases r2' with
         | @r a _ hn =>
          cases r3 with
          | p r3 =>
           cases r3
           obtain ⟨us,hH,ru⟩:=R3.cell n a xs hn g2
           refine ⟨a,us,j,mm,rfl,rfl,hH,by rw[ru.length];exact g3,?_⟩
           have x4:Ext m3 H3 m3 (upd H3 a (.lst (us.set mm v))):=fH (NJ hn) hH
           cases r with
           | p r=>exact post σ _ m3 ((x2.trans x3).trans x4) (R3.set hn hH (RDs.set ((r.ext x2).ext x3) mm ru)) (((S.ext x2).ext x3).ext x4)
       | _=>cases e3
theorem KG {X:Cx}{i:Nat}{x:Str}{k e:BT.E} (D:Ends) (σ:L2.St) (H:Hp) (q:tDS X F G (.putd i x k e) D σ H):uA (tD X F G e) (Dy (tD X F G (.var i x)) (tD X F G k) Im) D σ H:=by
 refine gY (k:=fun s=>BT.sC (BT.ev F G k s) s i) (fun s h=>by simp only[BT.evS]) q fun m s h y fl v H1 R S r e1 post=>?_
 cases y with
 | r n=>cases e1
 | k q=>cases e1
 | c _ _=>cases e1
 | o q=>cases e1
 | p d =>
  rw[BT.AL] at e1
  cases g:s[i]? with
  | none=>rw[g] at e1;cases e1
  | some o =>
   cases o with
   | none=>rw[g] at e1;cases e1
   | some wz =>
    cases wz with
    | p _=>rw[g] at e1;cases e1
    | k _=>rw[g] at e1;cases e1
    | c _ _=>rw[g] at e1;cases e1
    | o _=>rw[g] at e1;cases e1
    | r n =>
     rw[g] at e1
     simp only at e1
     obtain ⟨q,h2,e2,e3⟩:=ak e1
     refine ⟨m,s,h,.r n,h,R,S,by simp only[BT.ev,g],fun o H2 m2 x2 R2 r2=>⟨m2,s,h,q,h2,R2,S.ext x2,e2,fun ki H3 m3 x3 R3 r3=>?_⟩⟩
     cases q with
     | r _=>cases e3
     | k _=>cases e3
     | c _ _=>cases e3
     | o _=>cases e3
     | p dk =>
      rw[BT.xA] at e3
      obtain ⟨kvs,e4,e5⟩:=Option.bind_eq_some_iff.mp e3
      obtain ⟨ky,e6,e7⟩:=Option.bind_eq_some_iff.mp e5
      split at e7
      case isFalse=>cases e7
      rename_i c
      cases e7
      have r2':=r2.ext x3
      cases r2' with
      | @r a _ hn =>
       cases r3 with
       | p r3 =>
        obtain ⟨us,hH,ru⟩:=R3.Ia n a kvs hn e4
        have:=cL
        have hl:=ru.length
        refine ⟨a,us,ky,rfl,E1 r3 e6,hH,by omega,?_⟩
        have x4:Ext m3 H3 m3 (upd H3 a (.dK (putK us ky v))):=i9 (NJ hn)
        cases r with
        | p r=>exact post σ _ m3 ((x2.trans x3).trans x4) (R3.setC hn ⟨_,aB,(ru.put ky (E2 r3 e6) ((r.ext x2).ext x3)).ext x4⟩) (((S.ext x2).ext x3).ext x4)
end
end BS
end
section
namespace BS
open PySem PySem.Spec PyProof.Rows L2
section
variable {F:FT}{G:Str->Option BT.W}
theorem Fj {X:Cx}{tg:List (Nat×Str)}{sr:BT.Sr}{sa:BT.Es}{b:BT.S}{g:TG} (hg:GOk X tg g) (D:Ends) (σ:L2.St) (H:Hp) (q:tDS X F G (.for tg sr sa b) D σ H):GT (iD X F G sr sa) g (tDS X F G b) D σ H:=by
 obtain ⟨m,s,h,fl,R,S,e,post⟩:=q
 simp only[BT.evS] at e
 obtain ⟨ws,h1,e1,e2⟩:=ak e
 unfold BT.kFor at e2
 cases g1:(BT.rds ws h1).bind (BT.dZ sr) with
 | none=>rw[g1] at e2;cases e2
 | some ds =>
  rw[g1] at e2
  simp only at e2
  split at e2
  ·rename_i ca
   refine ⟨m,s,h,ws,h1,ds,R,S,e1,g1,ca,fun H1 m1 J x1 R1 it=>?_⟩
   refine ⟨fun i n σ H=>i<=ds.length/\n=ds.length - i/\∃ m s h,Ext m1 H1 m H/\RH X.K m H h/\RS X.prog X.w X.K m H σ s/\BT.bK (BT.evS F G b) tg (ds.drop i) s h=some fl/\jh X m H fl D,
    ⟨ds.length,N5 _,rfl,m1,s,h1,.refl _ _,R1,S.ext x1,by rw[Q2];exact e2,post.ext x1⟩,?_⟩
   rintro i n σ2 H2 ⟨hi,rfl,m2,s2,h2,x2,R2,S2,e3,post2⟩
   by_cases c:i < ds.length
   ·refine .inr ⟨it.go m2 H2 i x2 c,_,fun σ' H' z=>⟨ds.length - (i+1),by omega,c,rfl,z⟩,fun x H3 y=>?_⟩
    obtain ⟨x3,k3,r3⟩:=it.yld m2 H2 h2 i x H3 ds[i] x2 R2 (NB c) y
    rw[Ss c,BT.bK] at e3
    cases g2:BT.target tg.length ds[i] with
    | none=>rw[g2] at e3;cases e3
    | some dd =>
     rw[g2] at e3
     simp only at e3
     have R3:=R2.ext x3 k3
     refine hg m2 H3 σ2 s2 x ds[i] dd _ (S2.ext x3) r3 g2 fun σ4 S4=>?_
     cases g3:BT.evS F G b (BT.sets tg dd s2) h2 with
     | none=>rw[g3] at e3;cases e3
     | some f1 =>
      rw[g3] at e3
      refine ⟨m2,_,h2,f1,R3,S4,g3,?_⟩
      cases f1 with
      | nx s5 h5=>exact fun σ5 H5 m5 x5 R5 S5=>⟨m5,s5,h5,(x2.trans x3).trans x5,R5,S5,e3,(post2.ext x3).ext x5⟩
      | ct s5 h5=>exact fun σ5 H5 m5 x5 R5 S5=>⟨m5,s5,h5,(x2.trans x3).trans x5,R5,S5,e3,(post2.ext x3).ext x5⟩
      | bk s5 h5=>cases e3;exact fun σ5 H5 m5 x5 R5 S5=>post2 σ5 H5 m5 (x3.trans x5) R5 S5
      | rt z h5=>cases e3;exact fun v H5 m5 x5 R5 r5=>post2 v H5 m5 (x3.trans x5) R5 r5
   ·have ei:i=ds.length:=by omega
    subst ei
    refine .inl ⟨it.stop m2 H2 x2,?_⟩
    rw[List.drop_length,BT.bK] at e3
    cases e3
    exact post2 σ2 H2 m2 (.refl _ _) R2 S2
  ·cases e2
theorem Iw {X:Cx}{sc:NO}{N:List Str} (O:Ok X F G sc N) {x:Str}{np pos p:Pos}{elt':Nn}{gs:List Comprehension}{scope:NO} (h:swB sc scope x np pos=true):Qo (.ListComp elt' gs scope pos) (some (.Name x np)) p.line X.env=pure true:=by
 have e:Qo (.ListComp elt' gs scope pos) (some (.Name x np)) p.line X.env=pure (swB X.env.scope scope x np pos):=rfl
 rw[e,O.hsc,h]
theorem BB {sc:NO}{x:Str} (c:(sc.names.lookup x==some .cell)=true):jS sc x=true:=by
 unfold jS
 rw[eq_of_beq c]
theorem yH {sc scope:NO}{x:Str}{np pos:Pos} (h:swB sc scope x np pos=true):sc.names.lookup x=some .local:=by
 unfold swB at h
 simp only[Nt] at h
 exact eq_of_beq h.1.1.2
theorem Iz {X:Cx}{sc:NO}{N:List Str} (O:Ok X F G sc N) {x:Str}{np pos p:Pos}{elt':Nn}{gs:List Comprehension}{scope:NO} (c:(sc.names.lookup x==some .cell)=true):Qo (.ListComp elt' gs scope pos) (some (.Name x np)) p.line X.env=pure false:=by
 have e:Qo (.ListComp elt' gs scope pos) (some (.Name x np)) p.line X.env=pure (swB X.env.scope scope x np pos):=rfl
 have z:swB sc scope x np pos=false:=by
  cases h:swB sc scope x np pos with
  | false=>rfl
  | true =>
   have:=yH h
   rw[eq_of_beq c] at this
   cases this
 rw[e,O.hsc,z]
theorem sCL {X:Cx}{sc:NO}{N:List Str} (O:Ok X F G sc N) (hf:∀ x,X.fn x=true) {o:BT.E}{m:Str}{as:BT.Es}{L:Nat}{fv:List (Nat×Str)}{call:Nn} (h:CL sc N o m as L fv call):PE X call (tD X F G (.methL o m as L fv))/\iL call=true:=by
 cases h with
 | zero hl hp hn hk hv ht hc h3 h6 ho=>exact ⟨pT O hf hl hp hn hk hv ht hc h3 h6 (sE ho O) rfl (by simp) Ir,rfl⟩
 | one hl hp hn hk hv ht hc h3 h6 ho hs ha=>exact ⟨pT O hf hl hp hn hk hv ht hc h3 h6 (sE ho O) (by simp only[av,hs];rfl) (by simp) (Iu hs (sE ha O)),rfl⟩
theorem sSs {X:Cx}{sc:NO}{N:List Str} (O:Ok X F G sc N) (hf:∀ x,X.fn x=true) {s:BT.S}{sts:List Oq} (hh:CSs sc N s sts):PSs X sts (tDS X F G s) :=
 CSs.rec (motive_1:=fun s st _=>PS X st (tDS X F G s)) (motive_2:=fun s sts _=>PSs X sts (tDS X F G s))
  (@fun i x m o as L fv call np p h1 h2 hl=>PS.weak (qv (i:=i) O.nd (by rw[O.hN];exact h1) (iH O h2) (sCL O hf hl).1 (ji (sCL O hf hl).2) (.inl (hf x))) fun D σ H q =>
   gY (k:=fun s=>BT.qP s i) (fun s h=>by simp only[BT.evS]) q fun m s h y fl v H1 R S r e1 post=>by
    simp only[BT.qP] at e1
    cases e1
    exact post _ H1 m (.refl _ _) R (S.set r))
  (fun hl=>PS.weak (vU (sCL O hf hl).1) fun D σ H q =>
   gY (k:=fun s=>BT.xF) (fun s h=>by simp only[BT.evS]) q fun m s h y fl v H1 R S r e1 post=>by
    simp only[BT.xF] at e1
    cases e1
    exact post v H1 m (.refl _ _) R r)
  (@fun i x mu sr sa tg fv cond elt te iter elt' ifs scope pos np p h1 h3 hk ht hz hs hi hc he=>by
   have K:∀ (D:Ends) (σ:L2.St) (H:Hp),tDS X F G (.set i x (.comp mu sr sa tg fv cond elt)) D σ H->uA (tD X F G (.comp mu sr sa tg fv cond elt)) (oR i) D σ H:=fun D σ H q =>
    gY (k:=fun s=>BT.qP s i) (fun s h=>by rw[BT.evS]) q fun m s h y fl v H1 R S r e1 post=>by
     simp only[BT.qP] at e1
     cases e1
     exact post _ H1 m (.refl _ _) R (S.set r)
   by_cases c:(sc.names.lookup x==some .cell)=true
   ·exact PS.weak (qv (i:=i) O.nd (by rw[O.hN];exact h1) (iH O (BB c)) (sE (CE'.comp hk ht hz hs hi hc he) O) (Iz O c) (.inl (hf x))) K
   ·have h4:swB sc scope x np pos=true:=by
     rw[Pn] at h3
     exact h3.resolve_left c
    exact PS.weak (Bu O hk ht hs (sCI hi O hz) (sCC hc) (fun X' O'=>sE he O') h1 (yH h4) (Iw O h4)) K)
  (@fun i x e v np p h1 h2 h3 he=>PS.weak (qv (i:=i) O.nd (by rw[O.hN];exact h1) (iH O h2) (sE he O) (ji h3) (.inl (hf x))) fun D σ H q =>
   gY (k:=fun s=>BT.qP s i) (fun s h=>by simp only[BT.evS]) q fun m s h y fl v H1 R S r e1 post=>by
    simp only[BT.qP] at e1
    cases e1
    exact post _ H1 m (.refl _ _) R (S.set r))
  (fun h1 h2 h3 h4 h5 hk he=>PS.weak (DA (sE he O) (Dz (sI O h1 h2 h3) (sE hk O) set_list (rB h5)) (Bx h4) rfl) Fi)
  (fun h1 h2 h3 he=>PS.weak (DB O.nd (by rw[O.hN];exact h1) (iH O h2) (sE he O) (sQ h3) (.inl (hf _))) Fg)
  (fun h1 h2 ho he=>PS.weak (DN (sE ho O) (sE he O) (ji h2)) (By h1))
  (fun h1 h3 ho he=>PS.weak (uK (sE ho O) (sE he O) (sQ h3)) (BA h1))
  (fun h he=>PS.weak (z5 (sE he O) (ji h)) fun D σ H q =>
   gY (k:=fun s=>BT.kEx s) (fun s h=>by simp only[BT.evS]) q fun m s h y fl v H1 R S r e1 post=>by
    simp only[BT.kEx] at e1
    cases e1
    exact post σ H1 m (.refl _ _) R S)
  (fun he=>PS.weak (vU (sE he O)) fun D σ H q =>
   gY (k:=fun s=>BT.xF) (fun s h=>by simp only[BT.evS]) q fun m s h y fl v H1 R S r e1 post=>by
    simp only[BT.xF] at e1
    cases e1
    exact post v H1 m (.refl _ _) R r)
  (fun h hc ha hb ia ib=>PS.weak (GN (sT hc O h).1 ia ib) fun D σ H q=>by
   obtain ⟨m,s,h,fl,R,S,e,post⟩:=q
   simp only[BT.evS] at e
   obtain ⟨t,g,e1,e2⟩:=tG e
   refine ⟨m,s,h,t,g,R,S,e1,fun H1 m1 x1 R1=>?_⟩
   simp only[BT.kIf] at e2
   cases t with
   | true=>exact ⟨m1,s,g,fl,R1,S.ext x1,e2,post.ext x1⟩
   | false=>exact ⟨m1,s,g,fl,R1,S.ext x1,e2,post.ext x1⟩)
  (fun h hc hb ib=>PS.weak (vW O.own (sT hc O h).1 ib) Ff)
  (fun ht hi hz hs hb ib=>by
   obtain ⟨g,hg1,hg2⟩:=sCT O ht (fun q _=>.inl (hf q.2))
   exact PS.weak (DE O.own O.calm (sCI hi O hz) hg1 ib (tE hs)) (Fj hg2))
  (PS.weak vS fun D σ H q=>by
   obtain ⟨m,s,h,fl,R,S,e,post⟩:=q
   simp only[BT.evS] at e
   cases e
   exact post σ H m (.refl _ _) R S)
  (PS.weak oQ fun D σ H q=>by
   obtain ⟨m,s,h,fl,R,S,e,post⟩:=q
   simp only[BT.evS] at e
   cases e
   exact post σ H m (.refl _ _) R S)
  (fun pins s σ H D I q=>by
   obtain ⟨m,s,h,fl,R,S,e,post⟩:=q
   simp only[BT.evS] at e
   cases e)
  (PSs.weak zZ fun D σ H q=>by
   obtain ⟨m,s,h,fl,R,S,e,post⟩:=q
   simp only[BT.evS] at e
   cases e
   exact post σ H m (.refl _ _) R S)
  (fun _ ih=>z4 ih)
  (fun _ _ ih ir=>PSs.weak (vR ih ir) Fe)
  hh
end
end BS
end
section
namespace BS
open PySem PySem.Spec PyProof.Rows L2
section
variable {P:NG}{w:N2}{K:Nl}{m m':List Addr}{H:Hp}
mutual
theorem RD.shrink (x:∀ a∈m,a∈m'):∀ {v:V}{d:BT.D},RD K m' H v d->RD K m H v d
 | _,_,.non=>.non
 | _,_,.bl b=>.bl b
 | _,_,.int i=>.int i
 | _,_,.str y h=>.str y h
 | _,_,.tup h r=>.tup (h.elim (fun q=>.inl ⟨q.1,fun z=>q.2 (x _ z)⟩) .inr) (RDs.shrink x r)
 | _,_,.lst h r=>.lst (h.elim (fun q=>.inl ⟨q.1,fun z=>q.2 (x _ z)⟩) .inr) (RDs.shrink x r)
theorem RDs.shrink (x:∀ a∈m,a∈m'):∀ {vs:List V}{ds:List BT.D},RDs K m' H vs ds->RDs K m H vs ds
 | _,_,.nil=>.nil
 | _,_,.cons r t=>.cons (RD.shrink x r) (RDs.shrink x t)
end
end
theorem RFs.shrink {K:Nl}{m ex:List Addr}{H H':Hp}:∀ {vs0 vs:List (Str×V)}{fs:List (Str×BT.W)},RFs K m H vs0 fs->RFs K (m++ex) H' vs fs->RFs K m H' vs fs
 | _,_,_,.nil,.nil=>.nil
 | _,_,_,.cons r0 t0,.cons r t=>by
  refine .cons ?_ (RFs.shrink t0 t)
  have back:∀ {n:Nat}{a b:Addr},m[n]?=some b->(m++ex)[n]?=some a->m[n]?=some a:=fun {n a b} h1 h2=>by
   rw[Ny (getD_some h1)] at h2
   exact h2
  cases r with
  | p r=>exact .p (r.shrink fun a ha=>P6 _ ha)
  | r h=>cases r0 with | r h0=>exact .r (back h0 h)
  | o h=>cases r0 with | o h0=>exact .o (back h0 h)
theorem RKs.shrink {K:Nl}{m m':List Addr}{H:Hp} (sub:∀ a∈m,a∈m') {vs:List (Key×V)}{kvs:List (BT.Ky×BT.D)} (r:RKs K m' H vs kvs):RKs K m H vs kvs:=by
 induction r with
 | nil=>exact .nil
 | cons hk r t ih=>exact .cons (hk.shrink sub) (r.shrink sub) ih
theorem jD {P:NG}{w:N2}{K:Nl}{m m':List Addr}{H H':Hp}{h g h':BT.HH}{y z:BT.W}{v:V} (e:BT.fin h y g=some (z,h')) (R:RH K m H h) (x:Ext m H m' H') (R':RH K m' H' g) (r:RW P w K m' H' v y) :
 ∃ m2,Ext m H m2 H'/\RH K m2 H' h'/\RW P w K m2 H' v z:=by
 unfold BT.fin at e
 split at e
 ·cases e;exact ⟨m',x,R',r⟩
 ·split at e
  ·rename_i c1 c2
   obtain ⟨ex,rfl,hx⟩:=x.pre
   have sub:∀ a∈m,a∈m++ex:=fun a ha=>P6 _ ha
   have x2:Ext m H m H':=⟨⟨[],by simp,by simp⟩,x.keep,x.live⟩
   have R2:RH K m H' h:=by
    refine ⟨R.nd,R.len,fun i a xs e1 e2=>?_,R'.tb⟩
    have hi:i < m.length:=getD_some e1
    have hi2:i < h.length:=by rw[← R.len];exact hi
    have e3:g[i]?=some xs:=by
     rw[← c2,PF hi2] at e2
     exact e2
    have z:=R'.cl i a xs (by rw[Ny hi];exact e1) e3
    cases xs with
    | l ys=>obtain ⟨vs,q1,q2⟩:=z;exact ⟨vs,q1,q2.shrink sub⟩
    | o c fs =>
     obtain ⟨C0,dx0,vs0,_,_,q0⟩:=R.cl i a _ e1 e2
     obtain ⟨C,dx,vs,q1,q2,q3⟩:=z
     exact ⟨C,dx,vs,q1,q2,q0.shrink q3⟩
    | d kvs=>obtain ⟨vs,q1,q2⟩:=z;exact ⟨vs,q1,q2.shrink sub⟩
   cases r with
   | p r=>cases e;exact ⟨m,x2,R2,.p (r.shrink sub)⟩
   | k _ _=>cases e
   | c _ _=>cases e
   | g _ _=>cases e
   | @o a n hn =>
    simp only at e
    split at e
    ·rename_i c3
     cases e
     refine ⟨m,x2,R2,.o ?_⟩
     rw[Ny (by rw[R.len];exact c3)] at hn
     exact hn
    ·cases e;exact ⟨m++ex,x,R',.o hn⟩
   | @r a n hn =>
    simp only at e
    split at e
    ·rename_i c3
     cases e
     refine ⟨m,x2,R2,.r ?_⟩
     rw[Ny (by rw[R.len];exact c3)] at hn
     exact hn
    ·rename_i c3
     obtain ⟨xs,e4,e5⟩:=aC e
     cases e5
     obtain ⟨vs,q1,q2⟩:=R'.cell n a xs hn e4
     refine ⟨m,x2,R2,.p (.lst (.inl ⟨.inl q1,fun z=>?_⟩) (q2.shrink sub))⟩
     obtain ⟨j,hj⟩:=O4 z
     have hjl:=getD_some hj
     have ej:(m++ex)[j]?=some a:=by rw[Ny hjl];exact hj
     have:=mR R'.nd ej hn
     rw[R.len] at hjl
     omega
  ·cases e;exact ⟨m',x,R',r⟩
theorem pV {P:NG}{w:N2}{K:Nl}{m:List Addr}{H:Hp}{N:List Str}{vs:List V}{ws:List BT.W} (r:RWs P w K m H vs ws):RS P w K m H (L2.start N vs) (BT.fy N.length ws):=by
 have hl:=r.length
 refine ⟨by simp[L2.start,BT.fy,hl],fun i y e=>?_⟩
 simp only[BT.fy] at e
 by_cases c:i < ws.length
 ·rw[Ny (by simpa using c),N1] at e
  obtain ⟨z,e1,e2⟩:=aC e
  cases e2
  have:∀ {vs:List V}{ws:List BT.W}{i:Nat},RWs P w K m H vs ws->ws[i]?=some y->∃ v,vs[i]?=some v/\RW P w K m H v y:=by
   intro vs ws i r
   induction r generalizing i with
   | nil=>intro e;simp at e
   | cons r t ih =>
    intro e
    cases i with
    | zero=>simp at e;subst e;exact ⟨_,rfl,r⟩
    | succ i=>simpa using ih (by simpa using e)
  obtain ⟨v,h1,h2⟩:=this r e1
  refine ⟨v,?_,h2⟩
  unfold L2.start
  rw[Ny (by simp;omega),N1,h1];rfl
 ·rw[NY (by simpa using c),PM] at e
  split at e<;>cases e
theorem Fk {P:NG}{w:N2}{K:Nl}{mg:Str->Option Np}{base:Heap}{k L:Nat}{F:FT}{G:Str->Option BT.W}{bt:BT.E}{ns:List Str}{g:List BT.W->BT.HH->Option (BT.W×BT.HH)} (hT:BT.nL L=some ⟨ns,ns,.ret bt⟩)
 (hg:∀ ws h r,g ws h=some r->ws.length=ns.length/\BT.lU (BT.evS F G (.ret bt) (BT.fy ns.length ws) h) (BT.fin h)=some r)
 (hO:∀ (q:Str) (sc:NO) (cl:List (Str×Addr)) (f c':Addr) (A:Oz) (outer:List Env) (s:Nr) (H:Hp),ns.Nodup->bR k (A.deeper (Qf q sc s.heap.objs.size f (.ref c') cl))->Ok (yr P w K mg base ns q sc cl f c' A outer s H) F G sc ns):pI P w K mg base (k+1) L g:=by
 intro A outer s H f us vs cvs m ws cs h z h' Q E hr e0 rv R rw nc la rc e post
 obtain ⟨bt',ps,fs,pa,be,sc,cl,pm,ctv,c',oc,os,t,q,l0,l1,l2,l3,l4,l5,l6,l7,l8,l9,l10⟩:=la
 rw[hT] at l0
 cases l0
 have lf:=Ik l2
 obtain ⟨hwl,e1⟩:=hg _ _ _ e
 have C:=l10.cells l5
 have mq:=rv.length
 have eZ:=rw.length
 have f7:=l10.len
 have F8:cvs.length=cs.length:=by
  clear e e1 hwl l10 f7
  induction rc with
  | nil=>rfl
  | cons _ _ ih=>simp[ih]
 have hu:us.length=ps.length:=by
  simp only[NT,NP] at hwl
  omega
 refine PySem.W.kla_callFunE hr.depth (e0.hok _ _ l6.1).1 rfl lf.co lf.ge rfl ⟨c',oc,os,t,rfl,(e0.hok _ _ l7.1).1,l8,l9⟩ ?_
 rw[Bf l1 hu]
 refine wpAny_pure (wpAny_newFunctionEnv lf.cell (fun y hy=>lf.loc y.1 (QM hy).1) (fun h1 hns hsb=>?_) lf.kd)
 have hk1:∀ b o,s.heap.get? b=some o->h1.get? b=some o:=fun b o e=>hsb.extBut b o (NV (Nx e)) (Nq _ e)
 refine ⟨e0.mod.nolimit.keeps fun b o e=>hk1 b o (e0.bs b o e).1,?_⟩
 show codeAny _ _ (.expr be (Qf q sc s.heap.objs.size f (.ref c') cl)) _ _
 refine PySem.W.kla_codeExpr ?_
 have I:=Bg (q:=q) (f:=f) (c':=c') (tk:=s.toks+(ps.zip us).length) l1 lf l4 l5 l10 hr.hd e0 rv hu hns hk1
 have hr1:bR k (A.deeper (Qf q sc s.heap.objs.size f (.ref c') cl)):=hr.deeper _
 have O:=hO q sc cl f c' A outer s H lf.nd hr1
 simp only[BT.evS] at e1
 cases g1:BT.ev F G bt (BT.fy (ps++fs).length (ws++cs.map BT.Cp.w)) h with
 | none=>rw[g1] at e1;cases e1
 | some yg =>
  obtain ⟨y,gh⟩:=yg
  rw[g1] at e1
  have e2:BT.fin h y gh=some (z,h'):=e1
  have hs:RS P w K m (hid cl H) (vs.map some++cvs.map some) (BT.fy (ps++fs).length (ws++cs.map BT.Cp.w)):=by
   have r0:=pV (N:=ps++fs) ((rw.tr C.sq nc).app (RCs.ws (P:=P) (w:=w) (rc.tr C.sq)))
   have e3:L2.start (ps++fs) (vs++cvs)=vs.map some++cvs.map some:=by
    unfold L2.start
    simp only[NT]
    rw[show ps.length+fs.length - (vs.length+cvs.length)=0 by omega]
    simp
   rw[e3] at r0;exact r0
  refine wpAny_mono (sE l3 O [] _ _ _ (fun v H'=>∃ m',Ext m (hid cl H) m' H'/\RH K m' H' gh/\RW P w K m' H' v y) I ⟨m,_,h,y,gh,C.rh R,hs,g1,fun v H' m' x' R' r'=>⟨m',x',R',r'⟩⟩) (fun u s' ⟨v,H',I',rv',m',x',R',r'⟩=>?_) (fun e s' hx=>Of hx)
  have N':∀ x c,cl.lookup x=some c->H' c=none:=fun x c e=>I'.freeC x c e
  have le:Le H' (ret cl H H'):=EV N'
  obtain ⟨m2,x2,R2,r2⟩:=jD e2 (C.rh R) x' R' r'
  have B:Un (frs outer) [] (hid cl H) H' s.heap s'.heap:=I'.base
  have nc':∀ b,H b=none->¬ ∃ y,cl.lookup y=some b:=fun b n ⟨y,qq⟩=>by
   obtain ⟨o,uu,k1,_⟩:=C y b qq
   rw[n] at k1;cases k1
  refine ⟨v,ret cl H H',I'.os,I'.bare,⟨fun b o e n hb hx=>B.keep b o e (ef n) hb hx,fun b o e n hb hx=>B.slot b o e (ef n) hb hx,fun b o e n hx=>?_,fun b o e hx=>B.there b o e hx,fun b xs e=>?_,fun b o uu e=>?_,fun b qs e=>?_⟩,fun b uu e=>?_,rv',post v _ m2 (C.EW N' x2 R2) (R2.le le) (r2.le le)⟩
  ·rw[fm (nc' b n)];exact B.free b o e (ef n) hx
  ·rw[fm (C.out e rfl)];exact B.tups b xs (C.hid e rfl)
  ·by_cases cc:∃ y,cl.lookup y=some b
   ·obtain ⟨y,qq⟩:=cc;rw[nY qq];exact e
   ·rw[fm cc];exact B.frzs b o uu (by rw[dj cc];exact e)
  ·rw[fm (C.out e rfl)];exact B.tbls b qs (C.hid e rfl)
  ·by_cases cc:∃ y,cl.lookup y=some b
   ·obtain ⟨y,qq⟩:=cc
    rw[nY qq] at e
    obtain ⟨o,u2,k1,k2⟩:=C y b qq
    rw[k1] at e
    cases e
    have k3:=B.keep b o (e0.hok _ _ k1).1 (qV qq) (fun hb=>by rw[e0.frf b hb] at k1;cases k1) (by simp)
    exact ⟨k3,_,k3⟩
   ·rw[fm cc] at e
    exact (I'.hok b uu e).stay (fun _ _ _ q=>q) (fun d q=>le _ _ q) fun d xs q=>le _ _ q
noncomputable def jN (K:Nl) (q:Str) (fd:OY) (fn:BT.Fn):Prop:=∀ y,fn.ns.contains (BT.b8 y)=true->q=y/\y∈BT.dg ∧
 (∃ c P,Oi K y=some (c,P)/\fd.code=.ref c/\Qx K c P=true/\∀ z∈BT.dg,∀ c2,Oi K z=some (c2,P)->z=y) ∧
 ∃ bm ob,Oe K NL "__builtins__"=some (some (.ref bm))/\bm≠Pf/\K.lookup bm=some ob/\ob.cls=.type "module"/\ob.dict=some Pf/\ob.data=.plain
structure Def (K:Nl) (mg:Str->Option Np) (x:Str) (fn:BT.Fn):Prop where
 ex:∃ (f:Addr) (fd:OY) (st:Oq),mg x=some (.ref f)/\Fun K x x st f fd/\cI fn.ns fn.ps (aq st)/\Binds K fd fn.ps []/\CSs (aq st) fn.ns fn.body (aI st)/\jN K x fd fn
structure yI (K:Nl) (mg:Str->Option Np) (c m:Str) (fn:BT.Fn):Prop where
 ex:∃ (C f:Addr) (fd:OY) (x qual:Str) (st:Oq),kO K c C/\mg c=some (.ref C)/\uJ K C m f/\(m="__init__"->Mk K C f)/\Fun K x qual st f fd/\cI fn.ns fn.ps (aq st)/\Binds K fd fn.ps []/\CSs (aq st) fn.ns fn.body (aI st)/\jN K qual fd fn
structure Txt (P:NG) (w:N2) (K:Nl) (mg:Str->Option Np) (T:BT.FK->Option BT.Fn) (G:Str->Option BT.W):Prop where
 defs:∀ x fn,T (.f x)=some fn->Def K mg x fn
 meths:∀ c m fn,T (.m c m)=some fn->yI K mg c m fn
 lams:∀ L fn,T (.l L)=some fn->BT.nL L=some fn/\∃ ns bt,fn=⟨ns,ns,.ret bt⟩/\∀ y,ns.contains (BT.b8 y)=false
 glob:∀ x z,G x=some z->∃ u v,mg x=some u/\RelV v u/\∀ m H,RW P w K m H v z
 blt:∀ x∈EI,mg x=none
theorem tH {T:BT.FK->Option BT.Fn}{G:Str->Option BT.W}{k:Nat}{x:BT.FK}{ws:List BT.W}{h:BT.HH}{r:BT.W×BT.HH} (e:BT.runN T G k x ws h=some r):∃ fn,T x=some fn:=by
 cases k with
 | zero=>cases e
 | succ k =>
  rw[BT.runN] at e
  cases q:T x with
  | none=>rw[q] at e;cases e
  | some fn=>exact ⟨fn,rfl⟩
theorem BD {P:NG}{w:N2}{K:Nl}{mg:Str->Option Np}{base:Heap}{x qual:Str}{st:Oq}{f:Addr}{fd:OY}{N ps:List Str}{k:Nat}{sp:Sp} (F:Fun K x qual st f fd) (S:cI N ps (aq st)) (len:∀ vs H Q E,sp vs H Q E->vs.length=ps.length)
 (hbody:∀ (cdv:Np) (A:Oz) (outer:List Env) (s:Nr) (H:Hp) (vs:List V) (Q:VK) (E:XK),fd.code=cdv->bR k (A.deeper (SI qual (aq st) s.heap.objs.size f cdv))->Mod K mg base->sp vs H Q E →
  ∃ t,PSs (qD CX0 P w K mg base N qual (aq st) f cdv A outer s H E).nox (aI st) t/\t { nx:=fun _ H'=>Q .non H',rt:=Q } (L2.start N vs) H):fT P w K mg base CX0 (k+1) f fd ps sp:=by
 obtain ⟨oc,od,kV,doc,pm,an,cdv,ct,osl,rfl,lk,hcd⟩:=F.ex
 refine ⟨len,fun A outer s H args us vs Q E hr e0 hb r hs=>?_⟩
 have F1:fT P w K mg base CX0 (k+1) f (OS x qual (cG st) (aI st) (aq st) .none kV doc pm an cdv ct) ps sp:=G4 lk hcd S len fun A outer s H vs Q E hr hsp=>by
  obtain ⟨t,h,q⟩:=hbody cdv A outer s H vs Q E rfl hr e0.mod hsp
  exact ⟨t,h.nox,q⟩
 exact F1.run A outer s H args us vs Q E hr e0 hb r hs
theorem De {P:NG}{w:N2}{K:Nl}{mg:Str->Option Np}{base:Heap}{T:BT.FK->Option BT.Fn}{G:Str->Option BT.W} (X:Txt P w K mg T G) {k:Nat}
 (ih:∀ (x:BT.FK) (fn:BT.Fn),T x=some fn->∀ (f:Addr) (fd:OY) (nm qual:Str) (st:Oq),Fun K nm qual st f fd->cI fn.ns fn.ps (aq st)->CSs (aq st) fn.ns fn.body (aI st)->jN K qual fd fn->fT P w K mg base CX0 (2*k) f fd fn.ps (spF P w K (BT.runN T G k x)))
 (il:∀ L,(∃ fn,T (.l L)=some fn)->pI P w K mg base (2*k) L (BT.runN T G k (.l L)))
 {Y:Cx}{sc:NO}{N:List Str} (e1:Y.prog=P) (e2:Y.w=w) (e3:Y.K=K) (e4:Y.mg=mg) (e5:Y.base=base) (hsc:Y.env.scope=sc) (hN:Y.N=N) (nd:Y.N.Nodup) (ca:Y.calm=true) (hr:bR (2*k+1) Y.A) (own:PassesOwn (NR Y.prog Y.w) Y.A Y.env Y.xe)
 (lx:(∀ x,Y.fn x=true)->∀ x,N.contains (BT.b8 x)=true->LX Y x):Ok Y (BT.runN T G k) G sc N:=by
 subst e1 e2 e3 e4 e5
 refine ⟨hsc,hN,nd,ca,?_,own,X.glob,fun g ws h r e=>?_,fun c g ws h r e=>?_,fun c ws h r e=>?_,X.blt,fun L ws h r e=>⟨2*k,hr.mono (Ox _),il L (tH e)⟩,lx⟩
 ·have:=hr.un
  omega
 ·obtain ⟨fn',hTg⟩:=tH e
  obtain ⟨f',fd',st',a1,a2,a3,a4,a5,a6⟩:=(X.defs g fn' hTg).ex
  exact ⟨f',fd',fn'.ps,2*k,a1,a2.kp,a4,hr.mono (Ox _),ih _ fn' hTg f' fd' g g st' a2 a3 a5 a6⟩
 ·obtain ⟨fn',hTg⟩:=tH e
  obtain ⟨C,f',fd',x',q',st',b1,b2,b3,b4,a2,a3,a4,a5,a6⟩:=(X.meths c g fn' hTg).ex
  exact ⟨C,f',fd',fn'.ps,2*k,b1,b3,a4,hr.mono (Ox _),ih _ fn' hTg f' fd' x' q' st' a2 a3 a5 a6⟩
 ·obtain ⟨fn',hTg⟩:=tH e
  obtain ⟨C,f',fd',x',q',st',b1,b2,b3,b4,a2,a3,a4,a5,a6⟩:=(X.meths c _ fn' hTg).ex
  exact ⟨C,f',fd',fn'.ps,2*k,b1,b2,b4 rfl,a4,hr,ih _ fn' hTg f' fd' x' q' st' a2 a3 a5 a6⟩
theorem BE {P:NG}{w:N2}{K:Nl}{mg:Str->Option Np}{base:Heap}{T:BT.FK->Option BT.Fn}{G:Str->Option BT.W} (X:Txt P w K mg T G) :
 ∀ (k:Nat),(∀ (x:BT.FK) (fn:BT.Fn),T x=some fn->∀ (f:Addr) (fd:OY) (nm qual:Str) (st:Oq),Fun K nm qual st f fd->cI fn.ns fn.ps (aq st)->CSs (aq st) fn.ns fn.body (aI st)->jN K qual fd fn->fT P w K mg base CX0 (2*k) f fd fn.ps (spF P w K (BT.runN T G k x))) ∧
  ∀ L,(∃ fn,T (.l L)=some fn)->pI P w K mg base (2*k) L (BT.runN T G k (.l L)):=by
 intro k
 induction k with
 | zero =>
  refine ⟨fun x fn hT f fd nm qual st h2 h3 h5 h6=>?_,fun L hL=>?_⟩
  ·have no:∀ vs H Q E,¬ spF P w K (BT.runN T G 0 x) vs H Q E:=fun vs H Q E h=>by
    obtain ⟨m,ws,h,z,h',_,_,e,_⟩:=h
    cases e
   exact ⟨fun vs H Q E h=>absurd h (no vs H Q E),fun A outer s H args us vs Q E _ _ _ _ h=>absurd h (no vs H Q E)⟩
  ·intro A outer s H f us vs cvs m ws cs h z h' Q E hr e0 rv R rw nc la rc e post
   cases e
 | succ k ihk =>
  obtain ⟨ih,il⟩:=ihk
  refine ⟨fun x fn hT f fd nm qual st h2 h3 h5 h6=>?_,fun L hL=>?_⟩
  ·show fT P w K mg base CX0 (2*k+1+1) f fd fn.ps (spF P w K (BT.runN T G (k+1) x))
   refine BD h2 h3 (fun vs H Q E h=>?_) fun cdv A outer s H vs Q E hcd hr hM h=>?_
   ·obtain ⟨m,ws,h,z,h',R,r,e,post⟩:=h
    rw[BT.runN,hT] at e
    simp only at e
    split at e
    ·rename_i c;rw[r.length];exact c
    ·cases e
   ·obtain ⟨m,ws,h,z,h',R,r,e,post⟩:=h
    rw[BT.runN,hT] at e
    simp only at e
    split at e
    ·have O:Ok (qD CX0 P w K mg base fn.ns qual (aq st) f cdv A outer s H E).nox (BT.runN T G k) G (aq st) fn.ns:=by
      refine De X ih il rfl rfl rfl rfl rfl rfl rfl h3.nd rfl hr Rq fun _ y hy=>?_
      obtain ⟨t1,t2,⟨c,Pt,t3,t4,t5,t6⟩,bm,ob,t7,t8,t9,t10,t11,t12⟩:=h6 y hy
      exact ⟨t2,⟨c,Pt,t3,hcd.symm.trans t4,SM hM.kin t5,t6⟩,by show qual++".<locals>."=_;rw[t1],bm,ob,Pd hM.kin hM.glob t7,t8,hM.kin _ _ t9,t10,t11,t12⟩
     refine ⟨_,sSs O (fun _=>rfl) h5,?_⟩
     cases gg:BT.evS (BT.runN T G k) G fn.body (BT.fy fn.ns.length ws) h with
     | none=>rw[gg] at e;cases e
     | some fl =>
      rw[gg] at e
      refine ⟨m,_,h,fl,R,pV r,gg,?_⟩
      cases fl with
      | rt y g =>
       intro v H' m' x' R' r'
       obtain ⟨m2,y1,y2,y3⟩:=jD e R x' R' r'
       exact post v H' m2 y1 y2 y3
      | nx s' g =>
       intro σ' H' m' x' R' _
       obtain ⟨m2,y1,y2,y3⟩:=jD (v:=.non) e R x' R' (.p .non)
       exact post .non H' m2 y1 y2 y3
      | bk s' g=>cases e
      | ct s' g=>cases e
    ·cases e
  ·obtain ⟨fn,hT⟩:=hL
   obtain ⟨hl,ns,bt,rfl,nt⟩:=X.lams L fn hT
   show pI P w K mg base (2*k+1+1) L (BT.runN T G (k+1) (.l L))
   refine Fk (F:=BT.runN T G k) (G:=G) hl (fun ws h r e=>?_) fun q sc cl f c' A outer s H nd hr=>De X ih il rfl rfl rfl rfl rfl rfl rfl nd rfl hr Rq fun _ y hy=>absurd hy (by rw[nt y];decide)
   rw[BT.runN,hT] at e
   simp only at e
   split at e
   ·rename_i c;exact ⟨c,e⟩
   ·cases e
theorem Fo {P:NG}{w:N2}{K:Nl}{mg:Str->Option Np}{base:Heap}{T:BT.FK->Option BT.Fn}{G:Str->Option BT.W} (X:Txt P w K mg T G) (k:Nat) (x:BT.FK) (fn:BT.Fn) (hT:T x=some fn) (f:Addr) (fd:OY) (nm qual:Str) (st:Oq) (h2:Fun K nm qual st f fd) (h3:cI fn.ns fn.ps (aq st)) (h5:CSs (aq st) fn.ns fn.body (aI st)) (h6:jN K qual fd fn) :
 fT P w K mg base CX0 (2*k) f fd fn.ps (spF P w K (BT.runN T G k x)):=(BE X k).1 x fn hT f fd nm qual st h2 h3 h5 h6
end BS
end
section
namespace BT
open PySem
noncomputable def bF:Fn:=⟨["part"],["part"],
 (.seq (.ife (.cmp .eq (.idx (.glo "INNER_COUNTS") (.idx (.var 0 "part") (.cst (.int 0)))) (.cst (.int 0))) (.ret (.tup .nil)) .nil)
 (.ret (.slc (.var 0 "part") (.cons (.cst (.int 1)) .nil) .nil)))⟩
noncomputable def gB:Fn:=⟨[],[],
 (.ret (.tup (.cons (.cst (.int 0)) (.cons (.bin .mul (.tup (.cons (.cst (.int 0)) .nil)) (.bi .len false (.cons (.glo "LETTERS") .nil))) (.cons (.bin .mul (.tup (.cons (.cst (.int 0)) .nil)) (.glo "CELL_COUNT")) (.cons (.tup .nil) (.cons (.cst (.int 0)) (.cons (.tup .nil) .nil))))))))⟩
noncomputable def dD:Fn:=⟨["term"],["term","parts","waiting","part"],
 (.seq (.set 1 "parts" (.lst true .nil))
 (.seq (.set 2 "waiting" (.lst true (.cons (.var 0 "term") .nil)))
 (.seq (.whl (.cmp .gt (.bi .len false (.cons (.var 2 "waiting") .nil)) (.cst (.int 0))) (.seq (.set 3 "part" (.me .pop (.var 2 "waiting") .nil))
 (.seq (.ex (.me .append (.var 1 "parts") (.cons (.var 3 "part") .nil)))
 (.ex (.me .extend (.var 2 "waiting") (.cons (.call "inner_sums" (.cons (.var 3 "part") .nil)) .nil))))))
 (.ret (.var 1 "parts")))))⟩
noncomputable def fL:Fn:=⟨["word","one","other"],["word","one","other"],
 (.seq (.ife (.cmp .eq (.var 0 "word") (.cst (.str "less"))) (.ret (.ite (.cmp .lt (.var 1 "one") (.var 2 "other")) (.cst (.int 1)) (.cst (.int 0)))) .nil)
 (.seq (.ife (.cmp .eq (.var 0 "word") (.cst (.str "add"))) (.ret (.bin .mod (.bin .add (.var 1 "one") (.var 2 "other")) (.glo "WORTH_COUNT"))) .nil)
 (.seq (.ife (.cmp .eq (.var 0 "word") (.cst (.str "sub"))) (.ret (.bin .mod (.bin .sub (.var 1 "one") (.var 2 "other")) (.glo "WORTH_COUNT"))) .nil)
 (.ret (.bin .mod (.bin .mul (.var 1 "one") (.var 2 "other")) (.glo "WORTH_COUNT"))))))⟩
noncomputable def eH:Fn:=⟨["thing"],["thing"],
 (.ret (.cmp .mem (.var 0 "thing") (.glo "LETTERS")))⟩
noncomputable def dF:Fn:=⟨["state","thing"],["state","thing"],
 (.seq (.ife (.call "is_name" (.cons (.var 1 "thing") .nil)) (.ret (.idx (.idx (.var 0 "state") (.glo "NAMES")) (.me .tindex (.glo "LETTERS") (.cons (.var 1 "thing") .nil)))) .nil)
 (.seq (.ex (.call "check_thing" (.cons (.var 1 "thing") .nil)))
 (.ret (.idx (.idx (.var 0 "state") (.glo "CELLS")) (.var 1 "thing")))))⟩
noncomputable def bz:Fn:=⟨["part","worths","state"],["part","worths","state","word","last"],
 (.seq (.set 3 "word" (.idx (.var 0 "part") (.cst (.int 0))))
 (.seq (.ife (.cmp .eq (.var 3 "word") (.cst (.str "num"))) (.ret (.idx (.var 0 "part") (.cst (.int 1)))) .nil)
 (.seq (.ife (.cmp .eq (.var 3 "word") (.cst (.str "name"))) (.ret (.call "worth_in" (.cons (.var 2 "state") (.cons (.idx (.var 0 "part") (.cst (.int 1))) .nil)))) .nil)
 (.seq (.set 4 "last" (.me .pop (.var 1 "worths") .nil))
 (.seq (.ife (.cmp .eq (.var 3 "word") (.cst (.str "cell"))) (.ret (.idx (.idx (.var 2 "state") (.glo "CELLS")) (.bin .mod (.var 4 "last") (.glo "CELL_COUNT")))) .nil)
 (.ret (.call "of_two" (.cons (.var 3 "word") (.cons (.me .pop (.var 1 "worths") .nil) (.cons (.var 4 "last") .nil))))))))))⟩
noncomputable def dG:Fn:=⟨["term","state"],["term","state","worths","part"],
 (.seq (.set 2 "worths" (.lst true .nil))
 (.seq (.for [(3,"part")] .rev (.cons (.call "laid_out" (.cons (.var 0 "term") .nil)) .nil) (.ex (.me .append (.var 2 "worths") (.cons (.call "worth_of" (.cons (.var 3 "part") (.cons (.var 2 "worths") (.cons (.var 1 "state") .nil)))) .nil))))
 (.ret (.idx (.var 2 "worths") (.cst (.int 0))))))⟩
noncomputable def eN:Fn:=⟨["term","state"],["term","state"],
 (.ret (.bin .mod (.call "reckoned" (.cons (.var 0 "term") (.cons (.var 1 "state") .nil))) (.glo "CELL_COUNT")))⟩
noncomputable def c7:Fn:=⟨["program","state"],["program","state","word"],
 (.seq (.ife (.cmp .ge (.idx (.var 1 "state") (.glo "ROW")) (.bi .len false (.cons (.var 0 "program") .nil))) (.ret (.cst (.bl true))) .nil)
 (.seq (.set 2 "word" (.idx (.idx (.var 0 "program") (.idx (.var 1 "state") (.glo "ROW"))) (.cst (.int 0))))
 (.seq (.ife (.cmp .eq (.var 2 "word") (.cst (.str "back"))) (.ret (.cmp .eq (.bi .len false (.cons (.idx (.var 1 "state") (.glo "CALLS")) .nil)) (.cst (.int 0)))) .nil)
 (.seq (.ife (.cmp .eq (.var 2 "word") (.cst (.str "call"))) (.ret (.cmp .ge (.bi .len false (.cons (.idx (.var 1 "state") (.glo "CALLS")) .nil)) (.glo "MOST_CALLS"))) .nil)
 (.ret (.cmp .eq (.var 2 "word") (.cst (.str "stop"))))))))⟩
noncomputable def aK:Fn:=⟨["row","state"],["row","state","word"],
 (.seq (.set 2 "word" (.idx (.var 0 "row") (.cst (.int 0))))
 (.seq (.ife (.or (.cmp .eq (.var 2 "word") (.cst (.str "jump"))) (.cmp .eq (.var 2 "word") (.cst (.str "call")))) (.ret (.idx (.var 0 "row") (.cst (.int 1)))) .nil)
 (.seq (.ife (.cmp .eq (.var 2 "word") (.cst (.str "back"))) (.ret (.idx (.idx (.var 1 "state") (.glo "CALLS")) (.neg (.cst (.int 1))))) .nil)
 (.seq (.ife (.and (.cmp .eq (.var 2 "word") (.cst (.str "unless"))) (.cmp .eq (.call "reckoned" (.cons (.idx (.var 0 "row") (.cst (.int 1))) (.cons (.var 1 "state") .nil))) (.cst (.int 0)))) (.ret (.idx (.var 0 "row") (.cst (.int 2)))) .nil)
 (.ret (.bin .add (.idx (.var 1 "state") (.glo "ROW")) (.cst (.int 1))))))))⟩
noncomputable def bS:Fn:=⟨["worths","number","worth"],["worths","number","worth"],
 (.ret (.bin .add (.bin .add (.slc (.var 0 "worths") .nil (.cons (.var 1 "number") .nil)) (.tup (.cons (.var 2 "worth") .nil))) (.slc (.var 0 "worths") (.cons (.bin .add (.var 1 "number") (.cst (.int 1))) .nil) .nil)))⟩
noncomputable def cN:Fn:=⟨["state","name","worth"],["state","name","worth"],
 (.ret (.call "with_worth" (.cons (.idx (.var 0 "state") (.glo "NAMES")) (.cons (.me .tindex (.glo "LETTERS") (.cons (.var 1 "name") .nil)) (.cons (.var 2 "worth") .nil)))))⟩
noncomputable def c9:Fn:=⟨["asked","number"],["asked","number"],
 (.ret (.ite (.cmp .lt (.var 1 "number") (.bi .len false (.cons (.var 0 "asked") .nil))) (.idx (.var 0 "asked") (.var 1 "number")) (.cst (.int 0))))⟩
noncomputable def eS:Fn:=⟨["program","asked","state"],["program","asked","state","row","word","behind"],
 (.seq (.set 3 "row" (.idx (.var 0 "program") (.idx (.var 2 "state") (.glo "ROW"))))
 (.seq (.set 4 "word" (.idx (.var 3 "row") (.cst (.int 0))))
 (.seq (.set 5 "behind" (.bi .list true (.cons (.var 2 "state") .nil)))
 (.seq (.put 5 "behind" (.glo "ROW") (.call "place_behind" (.cons (.var 3 "row") (.cons (.var 2 "state") .nil))))
 (.seq (.ife (.cmp .eq (.var 4 "word") (.cst (.str "set"))) (.put 5 "behind" (.glo "NAMES") (.call "with_name" (.cons (.var 2 "state") (.cons (.idx (.var 3 "row") (.cst (.int 1))) (.cons (.call "reckoned" (.cons (.idx (.var 3 "row") (.cst (.int 2))) (.cons (.var 2 "state") .nil))) .nil))))) (.ife (.cmp .eq (.var 4 "word") (.cst (.str "put"))) (.put 5 "behind" (.glo "CELLS") (.call "with_worth" (.cons (.idx (.var 2 "state") (.glo "CELLS")) (.cons (.call "cell_by" (.cons (.idx (.var 3 "row") (.cst (.int 1))) (.cons (.var 2 "state") .nil))) (.cons (.call "reckoned" (.cons (.idx (.var 3 "row") (.cst (.int 2))) (.cons (.var 2 "state") .nil))) .nil))))) (.ife (.cmp .eq (.var 4 "word") (.cst (.str "ask"))) (.seq (.put 5 "behind" (.glo "NAMES") (.call "with_name" (.cons (.var 2 "state") (.cons (.idx (.var 3 "row") (.cst (.int 1))) (.cons (.call "brought" (.cons (.var 1 "asked") (.cons (.idx (.var 2 "state") (.glo "ASKED")) .nil))) .nil)))))
 (.put 5 "behind" (.glo "ASKED") (.bin .add (.idx (.var 2 "state") (.glo "ASKED")) (.cst (.int 1))))) (.ife (.cmp .eq (.var 4 "word") (.cst (.str "say"))) (.put 5 "behind" (.glo "SAID") (.bin .add (.idx (.var 2 "state") (.glo "SAID")) (.tup (.cons (.call "reckoned" (.cons (.idx (.var 3 "row") (.cst (.int 1))) (.cons (.var 2 "state") .nil))) .nil)))) (.ife (.cmp .eq (.var 4 "word") (.cst (.str "call"))) (.put 5 "behind" (.glo "CALLS") (.bin .add (.idx (.var 2 "state") (.glo "CALLS")) (.tup (.cons (.bin .add (.idx (.var 2 "state") (.glo "ROW")) (.cst (.int 1))) .nil)))) (.ife (.cmp .eq (.var 4 "word") (.cst (.str "back"))) (.put 5 "behind" (.glo "CALLS") (.slc (.idx (.var 2 "state") (.glo "CALLS")) .nil (.cons (.neg (.cst (.int 1))) .nil))) .nil))))))
 (.ret (.bi .tuple false (.cons (.var 5 "behind") .nil))))))))⟩
theorem tK {s t:String}:NN s=NN t↔s=t:=by
 constructor
 ·intro h
  rw[SV,SV] at h
  have h1:(s.toList.map Sz)=(t.toList.map Sz):=by
   have:=congrArg (fun x:Str=>x.cps.toList) h
   simpa using this
  have inj:∀ (a b:List Char),a.map Sz=b.map Sz->a=b:=by
   intro a
   induction a with
   | nil=>intro b h;cases b with
    | nil=>rfl
    | cons _ _=>simp at h
   | cons x xs ih=>intro b h;cases b with
    | nil=>simp at h
    | cons y ys =>
     simp only[NW,PZ] at h
     have:x=y:=Char.toNat_inj.mp h.1
     rw[this,ih ys h.2]
  have h2:=inj _ _ h1
  exact String.toList_inj.mp h2
 ·intro h;rw[h]
@[simp] theorem KH (s t:String):(NN s==NN t)=(s==t):=by
 by_cases h:s=t
 ·subst h;simp
 ·have h1:¬ NN s=NN t:=fun e=>h (tK.mp e)
  rw[beq_eq_false_iff_ne.mpr h1,beq_eq_false_iff_ne.mpr h]
@[simp] theorem LZ (s t:String):(NN s=NN t)=(s=t):=propext tK
@[simp] theorem Nd {α:Type} (h:List α) (a:α) (r:List α):(h++a :: r)[h.length]?=some a:=by simp
@[simp] theorem IA {α:Type} (h:List α) (a b:α) (r:List α):(h++a :: b :: r)[h.length+1]?=some b:=by
 rw[NY (by omega)];simp
@[simp] theorem Nf {α:Type} (h:List α) (a x:α) (r:List α):(h++a :: r).set h.length x=h++x :: r:=by simp
@[simp] theorem Ng {α:Type} (h:List α) (a b x:α) (r:List α):(h++a :: b :: r).set (h.length+1) x=h++a :: x :: r:=by
 rw[List.set_append_right _ _ (by omega)];simp
theorem ah (h:HH) (w:W):fin h w h=some (w,h):=by simp[fin]
theorem jj (h g:HH) (d:D):fin h (.p d) (h++g)=some (.p d,h):=by
 unfold fin
 cases g with
 | nil=>simp
 | cons c g=>simp
@[simp] theorem L0 (h:HH) (a:Cl) (r:HH):lat (h++a :: r) h.length=nA a:=by simp[lat]
@[simp] theorem Nh (h:HH) (a b:Cl) (r:HH):lat (h++a :: b :: r) (h.length+1)=nA b:=by
 unfold lat;rw[IA];rfl
@[simp] theorem Ni (h:HH) (a:Cl) (r:HH):oat (h++a :: r) h.length=o8 a:=by simp[oat]
@[simp] theorem Nj (h:HH) (a b:Cl) (r:HH):oat (h++a :: b :: r) (h.length+1)=o8 b:=by
 unfold oat;rw[IA];rfl
theorem BH {h:HH}{n:Nat}{ys:List D} (e:lat h n=some ys) (c:Cl):lat (h.set n c) n=nA c:=by
 unfold lat at e ⊢
 cases g:h[n]? with
 | none=>rw[g] at e;cases e
 | some q=>rw[List.getElem?_set_self',g];rfl
theorem Df (h:HH) (xs:List D) (g:HH):fin h (.r h.length) (h++.l xs :: g)=some (.p (.lst xs),h):=by
 unfold fin;simp
theorem tL (h h':HH) (w:W) (e:h'.length=h.length):fin h w h'=some (w,h'):=by simp[fin,e]
structure Prg (T:FK->Option Fn) (G:Str->Option W):Prop where
 inner_sums:T "inner_sums"=some bF
 begun:T "begun"=some gB
 laid_out:T "laid_out"=some dD
 of_two:T "of_two"=some fL
 worth_of:T "worth_of"=some bz
 is_name:T "is_name"=some eH
 worth_in:T "worth_in"=some dF
 reckoned:T "reckoned"=some dG
 cell_by:T "cell_by"=some eN
 is_over:T "is_over"=some c7
 place_behind:T "place_behind"=some aK
 with_worth:T "with_worth"=some bS
 with_name:T "with_name"=some cN
 brought:T "brought"=some c9
 stepped:T "stepped"=some eS
 LETTERS:G "LETTERS"=some (.p (.tup [.str "a",.str "b",.str "c",.str "d",.str "e",.str "f"]))
 CELL_COUNT:G "CELL_COUNT"=some (.p (.int 4))
 WORTH_COUNT:G "WORTH_COUNT"=some (.p (.int 10007))
 INNER:G "INNER_COUNTS"=some (.k [("num",.int 0),("name",.int 0),("cell",.int 1),("add",.int 2),("sub",.int 2),("mul",.int 2),("less",.int 2)])
 ROW:G "ROW"=some (.p (.int 0))
 NAMES:G "NAMES"=some (.p (.int 1))
 CELLS:G "CELLS"=some (.p (.int 2))
 CALLS:G "CALLS"=some (.p (.int 3))
 ASKED:G "ASKED"=some (.p (.int 4))
 SAID:G "SAID"=some (.p (.int 5))
 MOST_CALLS:G "MOST_CALLS"=some (.p (.int 6))
inductive Op where
 | add | sub | mul | less
noncomputable def Op.w:Op->String
 | .add=>"add" | .sub=>"sub" | .mul=>"mul" | .less=>"less"
inductive Nm where
 | a | b | c | d | e | f
noncomputable def Nm.w:Nm->String
 | .a=>"a" | .b=>"b" | .c=>"c" | .d=>"d" | .e=>"e" | .f=>"f"
noncomputable def Nm.ix:Nm->Nat
 | .a=>0 | .b=>1 | .c=>2 | .d=>3 | .e=>4 | .f=>5
theorem Nm.IB (x:Nm):x.ix < 6:=by cases x<;>decide
inductive Sm where
 | num (n:Int)
 | nam (i:Nm)
 | cell (s:Sm)
 | two (o:Op) (s t:Sm)
noncomputable def Sm.enc:Sm->D
 | .num n=>.tup [.str "num",.int n]
 | .nam i=>.tup [.str "name",.str i.w]
 | .cell s=>.tup [.str "cell",s.enc]
 | .two o s t=>.tup [.str o.w,s.enc,t.enc]
noncomputable def Sm.size:Sm->Nat
 | .num _=>1
 | .nam _=>1
 | .cell s=>s.size+1
 | .two _ s t=>s.size+t.size+1
noncomputable def Sm.lay:Sm->List Sm
 | .num n=>[.num n]
 | .nam i=>[.nam i]
 | .cell s=>.cell s :: s.lay
 | .two o s t=>.two o s t :: (t.lay++s.lay)
noncomputable def Sm.subs:Sm->List Sm
 | .num _=>[]
 | .nam _=>[]
 | .cell s=>[s]
 | .two _ s t=>[s,t]
noncomputable def Wth (n:Int):Prop:=0<=n/\n<=10006
noncomputable def Sm.ok:Sm->Prop
 | .num n=>Wth n
 | .nam _=>True
 | .cell s=>s.ok
 | .two _ s t=>s.ok/\t.ok
theorem Sm.size_pos (s:Sm):1<=s.size:=by cases s<;>simp[Sm.size]
structure St where
 row:Nat
 names:List Int
 cells:List Int
 calls:List Nat
 asked:Nat
 said:List Int
noncomputable def aa (xs:List Int):List D:=xs.map D.int
noncomputable def af (xs:List Nat):List D:=xs.map fun (n:Nat)=>D.int (n:Int)
noncomputable def St.enc (s:St):D:=.tup [.int s.row,.tup (aa s.names),.tup (aa s.cells),.tup (af s.calls),.int s.asked,.tup (aa s.said)]
structure St.ok (s:St):Prop where
 nlen:s.names.length=6
 clen:s.cells.length=4
 nw:∀ x∈s.names,Wth x
 cw:∀ x∈s.cells,Wth x
noncomputable def two (o:Op) (x y:Int):Int:=match o with
 | .add=>(x+y) % 10007
 | .sub=>(x - y) % 10007
 | .mul=>(x*y) % 10007
 | .less=>if x < y then 1 else 0
noncomputable def Sm.val (st:St):Sm->Int
 | .num n=>n
 | .nam i=>st.names.getD i.ix 0
 | .cell s=>st.cells.getD (s.val st % 4).toNat 0
 | .two o s t=>BT.two o (s.val st) (t.val st)
theorem rC {xs:List Int} (h:∀ x∈xs,Wth x) (i:Nat):Wth (xs.getD i 0):=by
 rw[Qk]
 cases e:xs[i]? with
 | none=>exact ⟨by decide,by decide⟩
 | some x=>exact h x (NJ e)
theorem IC (o:Op) {x y:Int}:Wth (BT.two o x y):=by
 cases o<;>simp only[BT.two,Wth]
 ·omega
 ·omega
 ·omega
 ·split<;>decide
theorem Sm.mW {st:St} (ho:st.ok):∀ {s:Sm},s.ok->Wth (s.val st)
 | .num _,h=>h
 | .nam i,_=>rC ho.nw _
 | .cell _,_=>rC ho.cw _
 | .two _ _ _,_=>IC _
section
variable {T:FK->Option Fn}{G:Str->Option W}
theorem vA (P:Prg T G) (k:Nat) (s:Sm) (h:HH):runN T G (k+1) "inner_sums" [.p s.enc] h=some (.p (.tup (s.subs.map Sm.enc)),h):=by
 rw[run_eq P.inner_sums rfl]
 cases s with
 | two o s t=>cases o<;>simp[bF,P.INNER,Sm.enc,Sm.subs,ah,Op.w]
 | _=>simp[bF,P.INNER,Sm.enc,Sm.subs,ah]
theorem rD (P:Prg T G) (k:Nat) (o:Op) {x y:Int} (hx:Wth x) (h:HH) :
 runN T G (k+1) "of_two" [.p (.str o.w),.p (.int x),.p (.int y)] h=some (.p (.int (two o x y)),h):=by
 rw[run_eq P.of_two rfl]
 have b:big x=true:=by unfold big;exact decide_eq_true (by have h1:=hx.1;have h2:=hx.2;omega)
 cases o<;>simp[fL,P.WORTH_COUNT,ah,Op.w,two,b]
 by_cases c:x < y<;>simp[c,ah]
theorem pW (P:Prg T G) (k:Nat) (x:Nm) (h:HH):runN T G (k+1) "is_name" [.p (.str x.w)] h=some (.p (.bl true),h):=by
 rw[run_eq P.is_name rfl]
 cases x<;>simp[eH,P.LETTERS,ah,Nm.w]
theorem n9 (P:Prg T G) (k:Nat) (st:St) (ho:st.ok) (x:Nm) (h:HH):runN T G (k+2) "worth_in" [.p st.enc,.p (.str x.w)] h=some (.p (.int (st.names.getD x.ix 0)),h):=by
 rw[run_eq P.worth_in rfl]
 have r:=pW P k x
 have l:=ho.nlen
 obtain ⟨row,names,cells,calls,asked,said⟩:=st
 simp only at l
 match names,l with
 | [x0,x1,x2,x3,x4,x5],_=>cases x<;>simp only[Nm.w] at r<;>simp[dF,r,St.enc,aa,ah,Nm.w,Nm.ix,P.NAMES,P.LETTERS]
theorem gC (P:Prg T G) (k:Nat) (st:St) (ho:st.ok) (n:Nat) (h:HH) :
 (∀ i,runN T G (k+3) "worth_of" [.p (Sm.num i).enc,.r n,.p st.enc] h=some (.p (.int i),h)) ∧
 (∀ i,runN T G (k+3) "worth_of" [.p (Sm.nam i).enc,.r n,.p st.enc] h=some (.p (.int (st.names.getD i.ix 0)),h)):=by
 refine ⟨fun i=>?_,fun i=>?_⟩<;>rw[run_eq P.worth_of rfl]
 ·simp[bz,Sm.enc,ah]
 ·have r:=n9 P k st ho i
  simp[bz,Sm.enc,ah,r]
theorem lg (P:Prg T G) (k:Nat) (st:St) (ho:st.ok) (n:Nat) (h:HH) (s:Sm) (ws:List D) (v:Int) (e:lat h n=some (ws++[.int v])) (hv:0<=v) :
 runN T G (k+1) "worth_of" [.p (Sm.cell s).enc,.r n,.p st.enc] h=some (.p (.int (st.cells.getD (v % 4).toNat 0)),h.set n (.l ws)):=by
 rw[run_eq P.worth_of rfl]
 have l:=ho.clen
 obtain ⟨row,names,cells,calls,asked,said⟩:=st
 simp only at l
 match cells,l with
 | [x0,x1,x2,x3],_ =>
  have c:v % 4=0\/v % 4=1\/v % 4=2\/v % 4=3:=by omega
  rcases c with c | c | c | c<;>simp[bz,Sm.enc,St.enc,aa,P.CELLS,P.CELL_COUNT,e,c,tL]
theorem lX (P:Prg T G) (k:Nat) (st:St) (n:Nat) (h:HH) (o:Op) (s t:Sm) (ws:List D) (x y:Int) (hx:Wth x) (e:lat h n=some (ws++[.int x,.int y])) :
 runN T G (k+2) "worth_of" [.p (Sm.two o s t).enc,.r n,.p st.enc] h=some (.p (.int (two o x y)),h.set n (.l ws)):=by
 rw[run_eq P.worth_of rfl]
 have e3:lat (h.set n (.l (ws++[.int x]))) n=some (ws++[.int x]):=BH e _
 have e1:(ws++[D.int x,D.int y]).getLast?=some (.int y):=by simp
 have e2:(ws++[D.int x,D.int y]).dropLast=ws++[.int x]:=by simp
 have r:=fun hh=>rD P k o (x:=x) (y:=y) hx hh
 cases o<;>simp only[Op.w] at r<;>simp[bz,Sm.enc,e,e1,e2,e3,Op.w,r,tL,SW]
noncomputable def loC:E:=.cmp .gt (.bi .len false (.cons (.var 2 "waiting") .nil)) (.cst (.int 0))
noncomputable def loB:S:=.seq (.set 3 "part" (.me .pop (.var 2 "waiting") .nil))
 (.seq (.ex (.me .append (.var 1 "parts") (.cons (.var 3 "part") .nil)))
 (.ex (.me .extend (.var 2 "waiting") (.cons (.call "inner_sums" (.cons (.var 3 "part") .nil)) .nil))))
noncomputable def sizes (l:List Sm):Nat:=(l.map Sm.size).sum
theorem rE (s:Sm) (l:List Sm):sizes (s.subs.reverse++l)+1=sizes (s :: l):=by
 cases s<;>simp[sizes,Sm.subs,Sm.size]<;>omega
theorem yJ (s:Sm) (l:List Sm):(s :: l).flatMap Sm.lay=s :: (s.subs.reverse++l).flatMap Sm.lay:=by
 cases s<;>simp[Sm.lay,Sm.subs,List.flatMap_cons]
theorem BI (s:Sm):s.subs.length<=2:=by cases s<;>simp[Sm.subs]
theorem mX (l:List Sm):l.length<=sizes l:=by
 induction l with
 | nil=>simp[sizes]
 | cons s l ih =>
  have h1:=s.size_pos
  simp only[sizes,NW,SB,NS] at ih ⊢
  omega
theorem BJ (P:Prg T G) (k:Nat) (h:HH) (t0:W):∀ (m:Nat) (stk:List Sm) (ps:List D) (x:Option W),sizes stk<=m->ps.length+sizes stk<=50000 →
 ∃ x',aZ (ev (runN T G (k+1)) G loC) (evS (runN T G (k+1)) G loB) (m+1) [some t0,some (.r h.length),some (.r (h.length+1)),x] (h++[.l ps,.l (stk.reverse.map Sm.enc)]) =
  some (.nx [some t0,some (.r h.length),some (.r (h.length+1)),x'] (h++[.l (ps++(stk.flatMap Sm.lay).map Sm.enc),.l []])):=by
 intro m
 induction m with
 | zero =>
  intro stk ps x hs _
  have:stk=[]:=by
   have:=mX stk
   exact RJ (by omega)
  subst this
  exact ⟨x,by simp[aZ,loC,rd]⟩
 | succ m ih =>
  intro stk ps x hs hl
  cases stk with
  | nil=>exact ⟨x,by simp[aZ,loC,rd]⟩
  | cons s l =>
   have e:=rE s l
   obtain ⟨x',q⟩:=ih (s.subs.reverse++l) (ps++[s.enc]) (some (.p s.enc)) (by omega) (by simp only[NT,Pj];omega)
   refine ⟨x',?_⟩
   have r:=vA P k s
   have l1:l.length+s.subs.length<=100000:=by
    have h1:=BI s
    have h2:=mX l
    have h3:sizes (s :: l)=s.size+sizes l:=by simp[sizes]
    omega
   have c1:(0:Int) < (l.length:Int)+1:=by omega
   have l2:ps.length < 100000:=by omega
   have hc:ev (runN T G (k+1)) G loC [some t0,some (.r h.length),some (.r (h.length+1)),x] (h++[.l ps,.l ((s :: l).reverse.map Sm.enc)])=some (.p (.bl true),h++[.l ps,.l ((s :: l).reverse.map Sm.enc)]):=by
    simp[loC,rd,c1]
   have hb:evS (runN T G (k+1)) G loB [some t0,some (.r h.length),some (.r (h.length+1)),x] (h++[.l ps,.l ((s :: l).reverse.map Sm.enc)]) =
    some (.nx [some t0,some (.r h.length),some (.r (h.length+1)),some (.p s.enc)] (h++[.l (ps++[s.enc]),.l ((s.subs.reverse++l).reverse.map Sm.enc)])):=by
    simp[loB,r,l1,l2]
   rw[aZ,hc,c5,iB,hb,cJ,q,yJ,NW,Ot,OX]
theorem lq:dD=⟨["term"],["term","parts","waiting","part"],.seq (.set 1 "parts" (.lst true .nil))
 (.seq (.set 2 "waiting" (.lst true (.cons (.var 0 "term") .nil))) (.seq (.whl loC loB) (.ret (.var 1 "parts"))))⟩:=rfl
theorem oh (P:Prg T G) (k:Nat) (s:Sm) (hs:s.size<=40000) (h:HH):runN T G (k+2) "laid_out" [.p s.enc] h=some (.p (.lst (s.lay.map Sm.enc)),h):=by
 rw[run_eq P.laid_out rfl]
 obtain ⟨x',q⟩:=BJ P k h (.p s.enc) 99999 [s] [] none (by simp only[sizes,NW,Pi,SB,List.sum_nil];omega) (by simp only[sizes,NW,Pi,SB,List.sum_nil,Ow];omega)
 simp only[List.flatMap_cons,List.flatMap_nil,Oa,Ph,QG,NW,Pi] at q
 rw[lq]
 simp[turns,q,Df]
noncomputable def rkB:S:=.ex (.me .append (.var 2 "worths") (.cons (.call "worth_of" (.cons (.var 3 "part") (.cons (.var 2 "worths") (.cons (.var 1 "state") .nil)))) .nil))
theorem BK (P:Prg T G) (k:Nat) (h:HH) (t0:W) (st:St) (ho:st.ok):∀ (s:Sm),s.ok->∀ (ws:List D) (rest:List D) (x:Option W),ws.length+s.size<=50000 →
 ∃ x',bK (evS (runN T G (k+3)) G rkB) [(3,"part")] ((s.lay.map Sm.enc).reverse++rest) [some t0,some (.p st.enc),some (.r h.length),x] (h++[.l ws]) =
  bK (evS (runN T G (k+3)) G rkB) [(3,"part")] rest [some t0,some (.p st.enc),some (.r h.length),x'] (h++[.l (ws++[.int (s.val st)])]):=by
 intro s
 induction s with
 | num n =>
  intro _ ws rest x hl
  refine ⟨some (.p (Sm.num n).enc),?_⟩
  have r:=(gC P k st ho h.length (h++[.l ws])).1 n
  have l:ws.length < 100000:=by simp only[Sm.size] at hl;omega
  have hb:evS (runN T G (k+3)) G rkB [some t0,some (.p st.enc),some (.r h.length),some (.p (Sm.num n).enc)] (h++[.l ws]) =
   some (.nx [some t0,some (.p st.enc),some (.r h.length),some (.p (Sm.num n).enc)] (h++[.l (ws++[.int n])])):=by
   simp[rkB,r,l]
  simp only[Sm.lay,NW,Pi,QG,OX,Sm.val]
  simp[hb]
 | nam i =>
  intro _ ws rest x hl
  refine ⟨some (.p (Sm.nam i).enc),?_⟩
  have r:=(gC P k st ho h.length (h++[.l ws])).2 i
  have l:ws.length < 100000:=by simp only[Sm.size] at hl;omega
  have hb:evS (runN T G (k+3)) G rkB [some t0,some (.p st.enc),some (.r h.length),some (.p (Sm.nam i).enc)] (h++[.l ws]) =
   some (.nx [some t0,some (.p st.enc),some (.r h.length),some (.p (Sm.nam i).enc)] (h++[.l (ws++[.int (st.names.getD i.ix 0)])])):=by
   simp[rkB,r,l]
  simp only[Sm.lay,NW,Pi,QG,OX,Sm.val]
  simp[hb]
 | cell s ih =>
  intro hok ws rest x hl
  obtain ⟨x1,e1⟩:=ih hok ws ((Sm.cell s).enc :: rest) x (by simp only[Sm.size] at hl;omega)
  refine ⟨some (.p (Sm.cell s).enc),?_⟩
  have r:=lg P (k+2) st ho h.length (h++[.l (ws++[.int (s.val st)])]) s ws (s.val st) (by simp) (Sm.mW (s:=s) ho hok).1
  have l:ws.length < 100000:=by simp only[Sm.size] at hl;omega
  have hb:evS (runN T G (k+3)) G rkB [some t0,some (.p st.enc),some (.r h.length),some (.p (Sm.cell s).enc)] (h++[.l (ws++[.int (s.val st)])]) =
   some (.nx [some t0,some (.p st.enc),some (.r h.length),some (.p (Sm.cell s).enc)] (h++[.l (ws++[.int ((Sm.cell s).val st)])])):=by
   simp[rkB,r,l,Sm.val]
  simp only[Sm.lay,NW,List.reverse_cons,Ot,OX]
  rw[e1]
  simp[hb]
 | two o s t ihs iht =>
  intro hok ws rest x hl
  have hl':=hl
  simp only[Sm.size] at hl'
  obtain ⟨x1,e1⟩:=ihs hok.1 ws ((t.lay.map Sm.enc).reverse++((Sm.two o s t).enc :: rest)) x (by omega)
  obtain ⟨x2,e2⟩:=iht hok.2 (ws++[.int (s.val st)]) ((Sm.two o s t).enc :: rest) x1 (by simp only[NT,Pj];have:=s.size_pos;omega)
  refine ⟨some (.p (Sm.two o s t).enc),?_⟩
  have r:=lX P (k+1) st h.length (h++[.l (ws++[.int (s.val st),.int (t.val st)])]) o s t ws (s.val st) (t.val st) (Sm.mW ho hok.1) (by simp)
  have l:ws.length < 100000:=by omega
  have hb:evS (runN T G (k+3)) G rkB [some t0,some (.p st.enc),some (.r h.length),some (.p (Sm.two o s t).enc)] (h++[.l (ws++[.int (s.val st),.int (t.val st)])]) =
   some (.nx [some t0,some (.p st.enc),some (.r h.length),some (.p (Sm.two o s t).enc)] (h++[.l (ws++[.int ((Sm.two o s t).val st)])])):=by
   simp[rkB,r,l,Sm.val]
  simp only[Sm.lay,NW,Qg,List.reverse_cons,List.reverse_append,Ot,OX]
  rw[e1,e2]
  simp only[Ot,OX]
  simp[hb]
theorem lu:dG=⟨["term","state"],["term","state","worths","part"],.seq (.set 2 "worths" (.lst true .nil))
 (.seq (.for [(3,"part")] .rev (.cons (.call "laid_out" (.cons (.var 0 "term") .nil)) .nil) rkB) (.ret (.idx (.var 2 "worths") (.cst (.int 0)))))⟩:=rfl
theorem aM (P:Prg T G) (k:Nat) (s:Sm) (hs:s.size<=40000) (hok:s.ok) (st:St) (ho:st.ok) (h:HH) :
 runN T G (k+4) "reckoned" [.p s.enc,.p st.enc] h=some (.p (.int (s.val st)),h):=by
 rw[run_eq P.reckoned rfl]
 obtain ⟨x',q⟩:=BK P k h (.p s.enc) st ho s hok [] [] none (by simp only[Ow];omega)
 rw[lu]
 simp only[Oa,Ph] at q
 have r:=oh P (k+1) s hs
 simp[r,gn,q,jj,rd]
end
end BT
end
section
namespace BT
open PySem
section
variable {T:FK->Option Fn}{G:Str->Option W}
theorem j9 {α:Type} (xs:List α) (i:Nat):atP xs (i:Int)=xs[i]?:=by
 unfold atP place
 by_cases h:i < xs.length
 ·have h1:((i:Int) < (xs.length:Int)):=by omega
  simp[h1,h]
 ·have h1:¬ ((i:Int) < (xs.length:Int)):=by omega
  simp[h1];omega
theorem gD (P:Prg T G) (k:Nat) (xs:List D) (i:Nat) (hi:i < xs.length) (hl:xs.length<=1000) (d:D) (h:HH) :
 runN T G (k+1) "with_worth" [.p (.tup xs),.p (.int i),.p d] h=some (.p (.tup (xs.set i d)),h):=by
 rw[run_eq P.with_worth rfl]
 have a1:¬ ((i:Int) < 0):=by omega
 have a2:(i:Int)<=(xs.length:Int):=by omega
 have a3:¬ ((i:Int)+1 < 0):=by omega
 have a4:(i:Int)+1<=(xs.length:Int):=by omega
 have a5:((i:Int)+1).toNat=i+1:=by omega
 have a6:xs.length - (i+1)+(i+1)<=100000:=by omega
 have a7:i+1+(xs.length - (i+1))<=100000:=by omega
 have a8:min i xs.length=i:=by omega
 have a9:i+1<=100000:=by omega
 have e:xs.take i++d :: xs.drop (i+1)=xs.set i d:=by
  rw[List.set_eq_take_append_cons_drop,if_pos hi]
 have b1:(xs.take i).length=i:=by simp;omega
 have b2:(xs.drop (i+1)).length=xs.length - (i+1):=by simp
 have b3:((xs.drop (i+1)).take (xs.length - (i+1)))=xs.drop (i+1):=by
  apply List.take_of_length_le;simp
 simp[bS,a1,a2,a3,a4,a5,a7,a8,a9,b3,e,ah]
@[simp] theorem M4 (st:St):bM st.enc (.int 0)=some (.int st.row):=rfl
@[simp] theorem M5 (st:St):bM st.enc (.int 1)=some (.tup (aa st.names)):=rfl
@[simp] theorem M6 (st:St):bM st.enc (.int 2)=some (.tup (aa st.cells)):=rfl
@[simp] theorem M7 (st:St):bM st.enc (.int 3)=some (.tup (af st.calls)):=rfl
@[simp] theorem M8 (st:St):bM st.enc (.int 4)=some (.int st.asked):=rfl
@[simp] theorem M9 (st:St):bM st.enc (.int 5)=some (.tup (aa st.said)):=rfl
inductive Rw where
 | set (x:Nm) (s:Sm) | put (s t:Sm) | ask (x:Nm) | say (s:Sm) | jump (p:Nat) | unless (s:Sm) (p:Nat) | call (p:Nat) | back | stop
noncomputable def Rw.enc:Rw->D
 | .set x s=>.tup [.str "set",.str x.w,s.enc]
 | .put s t=>.tup [.str "put",s.enc,t.enc]
 | .ask x=>.tup [.str "ask",.str x.w]
 | .say s=>.tup [.str "say",s.enc]
 | .jump p=>.tup [.str "jump",.int p]
 | .unless s p=>.tup [.str "unless",s.enc,.int p]
 | .call p=>.tup [.str "call",.int p]
 | .back=>.tup [.str "back"]
 | .stop=>.tup [.str "stop"]
noncomputable def lY (s:Sm):Prop:=s.ok/\s.size<=15
noncomputable def Rw.ok (n:Nat):Rw->Prop
 | .set _ s=>lY s
 | .put s t=>lY s/\lY t
 | .ask _=>True
 | .say s=>lY s
 | .jump p=>p<=n
 | .unless s p=>lY s/\p<=n
 | .call p=>p<=n
 | .back=>True
 | .stop=>True
noncomputable abbrev Pg:=List Rw
noncomputable def bC (p:Pg):D:=.tup (p.map Rw.enc)
noncomputable def Pg.ok (p:Pg):Prop:=∀ r∈p,r.ok p.length
noncomputable def Rw.next (asked:List Int) (st:St):Rw->St
 | .set x s=>{ st with row:=st.row+1,names:=st.names.set x.ix (s.val st) }
 | .put s t=>{ st with row:=st.row+1,cells:=st.cells.set (s.val st % 4).toNat (t.val st) }
 | .ask x=>{ st with row:=st.row+1,names:=st.names.set x.ix (asked.getD st.asked 0),asked:=st.asked+1 }
 | .say s=>{ st with row:=st.row+1,said:=st.said++[s.val st] }
 | .jump p=>{ st with row:=p }
 | .unless s p=>{ st with row:=if s.val st=0 then p else st.row+1 }
 | .call p=>{ st with row:=p,calls:=st.calls++[st.row+1] }
 | .back=>{ st with row:=st.calls.getLast?.getD 0,calls:=st.calls.dropLast }
 | .stop=>st
noncomputable def Rw.over (st:St):Rw->Bool
 | .back=>st.calls.length==0
 | .call _=>decide (6<=st.calls.length)
 | .stop=>true
 | _=>false
noncomputable def over (p:Pg) (st:St):Bool:=match p[st.row]? with
 | some r=>r.over st
 | none=>true
noncomputable def step (p:Pg) (asked:List Int) (st:St):St:=match p[st.row]? with
 | some r=>r.next asked st
 | none=>st
noncomputable def St.zero:St:=⟨0,[0,0,0,0,0,0],[0,0,0,0],[],0,[]⟩
theorem BN:St.zero.ok:=⟨rfl,rfl,by simp[St.zero,Wth],by simp[St.zero,Wth]⟩
noncomputable def sts (p:Pg) (asked:List Int):Nat->St->List St
 | 0,st=>[st]
 | n+1,st=>if over p st then [st] else st :: sts p asked n (step p asked st)
theorem vB (P:Prg T G) (k:Nat) (h:HH):runN T G (k+1) "begun" [] h=some (.p St.zero.enc,h):=by
 rw[run_eq P.begun rfl]
 simp[gB,P.LETTERS,P.CELL_COUNT,ah,St.zero,St.enc,aa,af,rep,NQ,List.flatten]
theorem pX (P:Prg T G) (k:Nat) (asked:List Int) (n:Nat) (h:HH):runN T G (k+1) "brought" [.p (.lst (aa asked)),.p (.int n)] h=some (.p (.int (asked.getD n 0)),h):=by
 rw[run_eq P.brought rfl]
 by_cases c:n < asked.length
 ·have c1:(n:Int) < (asked.length:Int):=by omega
  simp[c9,aa,c,c1,ah]
 ·have c1:¬ (n:Int) < (asked.length:Int):=by omega
  have e:asked[n]?=none:=NF (by omega)
  simp[c9,aa,c1,ah,e]
theorem gZ (P:Prg T G) (k:Nat) (st:St) (ho:st.ok) (x:Nm) (d:Int) (h:HH) :
 runN T G (k+2) "with_name" [.p st.enc,.p (.str x.w),.p (.int d)] h=some (.p (.tup (aa (st.names.set x.ix d))),h):=by
 rw[run_eq P.with_name rfl]
 have r:=fun i=>gD P k (aa st.names) i
 have l:(aa st.names).length=6:=by simp[aa,ho.nlen]
 have e:(aa st.names).set x.ix (.int d)=aa (st.names.set x.ix d):=by simp[aa,List.map_set]
 have q:=r x.ix (by rw[l];exact x.IB) (by omega) (.int d)
 rw[e] at q
 cases x<;>simp only[Nm.ix,Nm.w] at q ⊢<;>simp at q<;>simp[cN,P.NAMES,P.LETTERS,ah,q]
theorem pY (P:Prg T G) (k:Nat) (s:Sm) (hs:lY s) (st:St) (ho:st.ok) (h:HH):runN T G (k+5) "cell_by" [.p s.enc,.p st.enc] h=some (.p (.int (s.val st % 4)),h):=by
 rw[run_eq P.cell_by rfl]
 have q:=aM P k s (by have:=hs.2;omega) hs.1 st ho
 simp[eN,q,P.CELL_COUNT,ah]
noncomputable def Rw.word:Rw->String
 | .set _ _=>"set" | .put _ _=>"put" | .ask _=>"ask" | .say _=>"say" | .jump _=>"jump" | .unless _ _=>"unless" | .call _=>"call" | .back=>"back" | .stop=>"stop"
theorem Rw.tM (r:Rw):bM r.enc (.int 0)=some (.str r.word):=by cases r<;>rfl
theorem vC (P:Prg T G) (k:Nat) (n:Nat) (r:Rw) (hr:r.ok n) (st:St) (ho:st.ok) (asked:List Int) (hb:r.over st=false) (h:HH) :
 runN T G (k+5) "place_behind" [.p r.enc,.p st.enc] h=some (.p (.int (r.next asked st).row),h):=by
 rw[run_eq P.place_behind rfl]
 cases r with
 | «unless» s p =>
  have q:=aM P k s (by have:=hr.1.2;omega) hr.1.1 st ho
  by_cases c:s.val st=0<;>simp[aK,Rw.enc,Rw.next,q,c,ah,P.ROW]
 | back =>
  have c:st.calls≠[]:=by
   intro e;simp[Rw.over,e] at hb
  have:∃ l x,st.calls=l++[x]:=⟨st.calls.dropLast,st.calls.getLast c,(RP c).symm⟩
  obtain ⟨l,x,e⟩:=this
  have e2:-((l.length:Int)+1)<=-1:=by omega
  have e3:(-1+((l.length:Int)+1)).toNat=l.length:=by omega
  simp[aK,Rw.enc,Rw.next,ah,P.CALLS,af,e,e2,e3]
 | stop=>simp[Rw.over] at hb
 | _=>simp[aK,Rw.enc,Rw.next,ah,P.ROW]
noncomputable def ovT:S:=(.seq (.ife (.cmp .eq (.var 2 "word") (.cst (.str "back"))) (.ret (.cmp .eq (.bi .len false (.cons (.idx (.var 1 "state") (.glo "CALLS")) .nil)) (.cst (.int 0)))) .nil)
 (.seq (.ife (.cmp .eq (.var 2 "word") (.cst (.str "call"))) (.ret (.cmp .ge (.bi .len false (.cons (.idx (.var 1 "state") (.glo "CALLS")) .nil)) (.glo "MOST_CALLS"))) .nil)
 (.ret (.cmp .eq (.var 2 "word") (.cst (.str "stop"))))))
theorem lZ:c7=⟨["program","state"],["program","state","word"],
 (.seq (.ife (.cmp .ge (.idx (.var 1 "state") (.glo "ROW")) (.bi .len false (.cons (.var 0 "program") .nil))) (.ret (.cst (.bl true))) .nil)
 (.seq (.set 2 "word" (.idx (.idx (.var 0 "program") (.idx (.var 1 "state") (.glo "ROW"))) (.cst (.int 0))))
 ovT))⟩:=rfl
theorem BO (F:FK->List W->HH->Option (W×HH)) (w0 w1:W) (h:HH) (v:String) (n1:¬ v="back") (n2:¬ v="call"):evS F G ovT [some w0,some w1,some (.p (.str v))] h=some (.rt (.p (.bl (decide (v="stop")))) h):=by
 by_cases c:v="stop"
 ·subst c
  simp[ovT]
 ·skip
  simp[ovT,n1,n2,c]
theorem pZ (P:Prg T G) (k:Nat) (p:Pg) (st:St) (h:HH):runN T G (k+1) "is_over" [.p (bC p),.p st.enc] h=some (.p (.bl (over p st)),h):=by
 have lp:biD .len [bC p]=some (.int p.length):=by simp[bC]
 by_cases c:st.row < p.length
 ·have c1:¬ (p.length:Int)<=(st.row:Int):=by omega
  have c2:(st.row:Int) < (p.length:Int):=by omega
  have e:p[st.row]?=some p[st.row]:=NB c
  have row:bM (bC p) (.int st.row)=some (p[st.row]).enc:=by simp[bC,c2,e]
  have ov:over p st=(p[st.row]).over st:=by rw[over,e]
  rw[ov]
  generalize p[st.row]=r at row ⊢
  have wa:=r.tM
  have pre:runN T G (k+1) "is_over" [.p (bC p),.p st.enc] h=lU (evS (runN T G k) G ovT [some (.p (bC p)),some (.p st.enc),some (.p (.str r.word))] h) (fin h):=by
   rw[run_eq P.is_over rfl,lZ]
   generalize r.enc=re at row wa
   simp[lp,row,wa,P.ROW,c1]
  rw[pre]
  have ln:biD .len [.tup (af st.calls)]=some (.int (st.calls.length:Int)):=by simp[af]
  have i3:bM st.enc (.int 3)=some (.tup (af st.calls)):=rfl
  cases r with
  | back =>
   have ee:(((st.calls.length:Nat):Int)==0)=(st.calls.length==0):=by
    cases st.calls with
    | nil=>rfl
    | cons a l=>rw[beq_eq_false_iff_ne.mpr (by simp only[NS];omega)];rfl
   simp[-mK,ovT,Rw.word,P.CALLS,i3,ln,ee,ah,Rw.over]
  | call q =>
   have ee:decide ((6:Int)<=(st.calls.length:Int))=decide (6<=st.calls.length):=decide_eq_decide.mpr (by omega)
   simp[-mK,ovT,Rw.word,P.CALLS,P.MOST_CALLS,i3,ln,ee,ah,Rw.over]
  | _ =>
   rw[Rw.word,BO _ _ _ _ _ (by decide) (by decide)]
   simp[ah,Rw.over]
 ·have c1:(p.length:Int)<=(st.row:Int):=by omega
  have e:p[st.row]?=none:=NF (by omega)
  rw[run_eq P.is_over rfl]
  simp[c7,lp,P.ROW,c1,ah,over,e]
theorem ints_set (xs:List Int) (i:Nat) (v:Int):(aa xs).set i (.int v)=aa (xs.set i v):=by simp[aa,List.map_set]
theorem gE (xs:List Int):(aa xs).length=xs.length:=by simp[aa]
theorem ints_snoc (xs:List Int) (v:Int):aa xs++[.int v]=aa (xs++[v]):=by simp[aa]
theorem vD (xs:List Nat) (v:Nat):af xs++[.int (v:Int)]=af (xs++[v]):=by simp[af]
theorem yK (xs:List Nat):cut (af xs) none (some (-1))=af xs.dropLast:=by
 have e:(-1+(xs.length:Int)).toNat=xs.length - 1:=by omega
 simp[cut,clip,af,e,List.dropLast_eq_take]
structure St.small (st:St):Prop where
 sl:st.said.length<=5000
 cl:st.calls.length<=5000
noncomputable def encL (st:St):List D:=[.int st.row,.tup (aa st.names),.tup (aa st.cells),.tup (af st.calls),.int st.asked,.tup (aa st.said)]
theorem yL (st:St):biD .list [st.enc]=some (.lst (encL st)):=rfl
noncomputable def Fp:S:=(.put 5 "behind" (.glo "CALLS") (.slc (.idx (.var 2 "state") (.glo "CALLS")) .nil (.cons (.neg (.cst (.int 1))) .nil)))
noncomputable def Fq:S:=(.ife (.cmp .eq (.var 4 "word") (.cst (.str "back"))) Fp .nil)
noncomputable def Ft:S:=(.put 5 "behind" (.glo "CALLS") (.bin .add (.idx (.var 2 "state") (.glo "CALLS")) (.tup (.cons (.bin .add (.idx (.var 2 "state") (.glo "ROW")) (.cst (.int 1))) .nil))))
noncomputable def BP:S:=(.ife (.cmp .eq (.var 4 "word") (.cst (.str "call"))) Ft Fq)
noncomputable def Fv:S:=(.put 5 "behind" (.glo "SAID") (.bin .add (.idx (.var 2 "state") (.glo "SAID")) (.tup (.cons (.call "reckoned" (.cons (.idx (.var 3 "row") (.cst (.int 1))) (.cons (.var 2 "state") .nil))) .nil))))
noncomputable def yM:S:=(.ife (.cmp .eq (.var 4 "word") (.cst (.str "say"))) Fv BP)
noncomputable def Fw:S:=(.seq (.put 5 "behind" (.glo "NAMES") (.call "with_name" (.cons (.var 2 "state") (.cons (.idx (.var 3 "row") (.cst (.int 1))) (.cons (.call "brought" (.cons (.var 1 "asked") (.cons (.idx (.var 2 "state") (.glo "ASKED")) .nil))) .nil)))))
 (.put 5 "behind" (.glo "ASKED") (.bin .add (.idx (.var 2 "state") (.glo "ASKED")) (.cst (.int 1)))))
noncomputable def vE:S:=(.ife (.cmp .eq (.var 4 "word") (.cst (.str "ask"))) Fw yM)
noncomputable def Fx:S:=(.put 5 "behind" (.glo "CELLS") (.call "with_worth" (.cons (.idx (.var 2 "state") (.glo "CELLS")) (.cons (.call "cell_by" (.cons (.idx (.var 3 "row") (.cst (.int 1))) (.cons (.var 2 "state") .nil))) (.cons (.call "reckoned" (.cons (.idx (.var 3 "row") (.cst (.int 2))) (.cons (.var 2 "state") .nil))) .nil)))))
noncomputable def rF:S:=(.ife (.cmp .eq (.var 4 "word") (.cst (.str "put"))) Fx vE)
noncomputable def Fy:S:=(.put 5 "behind" (.glo "NAMES") (.call "with_name" (.cons (.var 2 "state") (.cons (.idx (.var 3 "row") (.cst (.int 1))) (.cons (.call "reckoned" (.cons (.idx (.var 3 "row") (.cst (.int 2))) (.cons (.var 2 "state") .nil))) .nil)))))
noncomputable def iM:S:=(.ife (.cmp .eq (.var 4 "word") (.cst (.str "set"))) Fy rF)
noncomputable def Fz:S:=(.seq iM
 (.ret (.bi .tuple false (.cons (.var 5 "behind") .nil))))
theorem mh:eS=⟨["program","asked","state"],["program","asked","state","row","word","behind"],
 (.seq (.set 3 "row" (.idx (.var 0 "program") (.idx (.var 2 "state") (.glo "ROW"))))
 (.seq (.set 4 "word" (.idx (.var 3 "row") (.cst (.int 0))))
 (.seq (.set 5 "behind" (.bi .list true (.cons (.var 2 "state") .nil)))
 (.seq (.put 5 "behind" (.glo "ROW") (.call "place_behind" (.cons (.var 3 "row") (.cons (.var 2 "state") .nil))))
 Fz))))⟩:=rfl
theorem FA (F:FK->List W->HH->Option (W×HH)) (A B:S) (s:Sl) (h:HH):evS F G (.seq A B) s h=jL (evS F G A s h) (evS F G B):=by rw[evS]
theorem pick (F:FK->List W->HH->Option (W×HH)) (w0 w1 w2 w3:W) (v w:String) (rest:Sl) (h:HH) (A B:S):evS F G (.ife (.cmp .eq (.var 4 "word") (.cst (.str w))) A B) (some w0 :: some w1 :: some w2 :: some w3 :: some (.p (.str v)) :: rest) h=if v=w then evS F G A (some w0 :: some w1 :: some w2 :: some w3 :: some (.p (.str v)) :: rest) h else evS F G B (some w0 :: some w1 :: some w2 :: some w3 :: some (.p (.str v)) :: rest) h:=by
 have e:eqv (.str v) (.str w)=decide (v=w):=by
  by_cases c:v=w
  ·rw[decide_eq_true c,c];simp
  ·rw[decide_eq_false c]
   have:¬ NN v=NN w:=fun z=>c (by simpa using z)
   simp[this,c]
 by_cases c:v=w
 ·rw[decide_eq_true c] at e
  rw[if_pos c]
  simp[-eqv,e]
 ·rw[decide_eq_false c] at e
  rw[if_neg c]
  simp[-eqv,e]
theorem to0 (F:FK->List W->HH->Option (W×HH)) (w0 w1 w2 w3:W) (rest:Sl) (h:HH):evS F G iM (some w0 :: some w1 :: some w2 :: some w3 :: some (.p (.str "set")) :: rest) h=evS F G Fy (some w0 :: some w1 :: some w2 :: some w3 :: some (.p (.str "set")) :: rest) h:=by
 rw[iM,pick,if_pos rfl]
theorem to1 (F:FK->List W->HH->Option (W×HH)) (w0 w1 w2 w3:W) (rest:Sl) (h:HH):evS F G iM (some w0 :: some w1 :: some w2 :: some w3 :: some (.p (.str "put")) :: rest) h=evS F G Fx (some w0 :: some w1 :: some w2 :: some w3 :: some (.p (.str "put")) :: rest) h:=by
 rw[iM,pick,if_neg (by decide),rF,pick,if_pos rfl]
theorem to2 (F:FK->List W->HH->Option (W×HH)) (w0 w1 w2 w3:W) (rest:Sl) (h:HH):evS F G iM (some w0 :: some w1 :: some w2 :: some w3 :: some (.p (.str "ask")) :: rest) h=evS F G Fw (some w0 :: some w1 :: some w2 :: some w3 :: some (.p (.str "ask")) :: rest) h:=by
 rw[iM,pick,if_neg (by decide),rF,pick,if_neg (by decide),vE,pick,if_pos rfl]
theorem to3 (F:FK->List W->HH->Option (W×HH)) (w0 w1 w2 w3:W) (rest:Sl) (h:HH):evS F G iM (some w0 :: some w1 :: some w2 :: some w3 :: some (.p (.str "say")) :: rest) h=evS F G Fv (some w0 :: some w1 :: some w2 :: some w3 :: some (.p (.str "say")) :: rest) h:=by
 rw[iM,pick,if_neg (by decide),rF,pick,if_neg (by decide),vE,pick,if_neg (by decide),yM,pick,if_pos rfl]
theorem to4 (F:FK->List W->HH->Option (W×HH)) (w0 w1 w2 w3:W) (rest:Sl) (h:HH):evS F G iM (some w0 :: some w1 :: some w2 :: some w3 :: some (.p (.str "call")) :: rest) h=evS F G Ft (some w0 :: some w1 :: some w2 :: some w3 :: some (.p (.str "call")) :: rest) h:=by
 rw[iM,pick,if_neg (by decide),rF,pick,if_neg (by decide),vE,pick,if_neg (by decide),yM,pick,if_neg (by decide),BP,pick,if_pos rfl]
theorem to5 (F:FK->List W->HH->Option (W×HH)) (w0 w1 w2 w3:W) (rest:Sl) (h:HH):evS F G iM (some w0 :: some w1 :: some w2 :: some w3 :: some (.p (.str "back")) :: rest) h=evS F G Fp (some w0 :: some w1 :: some w2 :: some w3 :: some (.p (.str "back")) :: rest) h:=by
 rw[iM,pick,if_neg (by decide),rF,pick,if_neg (by decide),vE,pick,if_neg (by decide),yM,pick,if_neg (by decide),BP,pick,if_neg (by decide),Fq,pick,if_pos rfl]
theorem toN (F:FK->List W->HH->Option (W×HH)) (w0 w1 w2 w3:W) (rest:Sl) (h:HH) (v:String) (hv:v∉["set","put","ask","say","call","back"]):evS F G iM (some w0 :: some w1 :: some w2 :: some w3 :: some (.p (.str v)) :: rest) h=some (.nx (some w0 :: some w1 :: some w2 :: some w3 :: some (.p (.str v)) :: rest) h):=by
 simp only[ON,Oo,or_false,not_or] at hv
 obtain ⟨n1,n2,n3,n4,n5,n6⟩:=hv
 rw[iM,pick,if_neg n1,rF,pick,if_neg n2,vE,pick,if_neg n3,yM,pick,if_neg n4,BP,pick,if_neg n5,Fq,pick,if_neg n6];rfl
theorem p5 (P:Prg T G) (k:Nat) (p:Pg) (hp:Pg.ok p) (asked:List Int) (st:St) (ho:st.ok) (hs:st.small) (hb:over p st=false) (h:HH) :
 runN T G (k+6) "stepped" [.p (bC p),.p (.lst (aa asked)),.p st.enc] h=some (.p (step p asked st).enc,h):=by
 have c:st.row < p.length:=by
  rcases NK st.row p.length with q | q
  ·exact q
  ·rw[over,NF q] at hb;cases hb
 have e:p[st.row]?=some p[st.row]:=NB c
 have c2:(st.row:Int) < (p.length:Int):=by omega
 have hr:=hp _ (QF c)
 have hb':(p[st.row]).over st=false:=by rw[over,e] at hb;exact hb
 have pl:=vC P k p.length p[st.row] hr st ho asked hb'
 rw[step,e]
 have l1:=hs.sl
 have l2:=hs.cl
 revert pl hr hb'
 generalize p[st.row]=r at *
 intro hr hb' pl
 have row:bM (bC p) (.int st.row)=some r.enc:=by simp[bC,c2,e]
 have pre:runN T G (k+6) "stepped" [.p (bC p),.p (.lst (aa asked)),.p st.enc] h =
  lU (evS (runN T G (k+5)) G Fz [some (.p (bC p)),some (.p (.lst (aa asked))),some (.p st.enc),some (.p r.enc),some (.p (.str r.word)),some (.r h.length)] (h++[.l [.int (r.next asked st).row,.tup (aa st.names),.tup (aa st.cells),.tup (af st.calls),.int st.asked,.tup (aa st.said)]])) (fin h):=by
  rw[run_eq P.stepped rfl,mh]
  simp[row,r.tM,P.ROW,yL,encL,pl]
 rw[pre,Fz,FA]
 cases r with
 | set x s =>
  have q:=aM P (k+1) s (by have:=hr.2;omega) hr.1 st ho
  have w:=gZ P (k+3) st ho x (s.val st)
  simp only[Rw.enc,Rw.next,Rw.word,to0]
  simp[Fy,P.ROW,P.NAMES,q,w,rd,jj,Rw.next]
  simp[St.enc]
 | put s t =>
  have q:=pY P k s hr.1 st ho
  have q2:=aM P (k+1) t (by have:=hr.2.2;omega) hr.2.1 st ho
  have v:=Sm.mW (s:=s) ho hr.1.1
  have hi:(s.val st % 4).toNat < (aa st.cells).length:=by rw[gE,ho.clen];omega
  have w:=gD P (k+4) (aa st.cells) (s.val st % 4).toNat hi (by rw[gE,ho.clen];omega) (.int (t.val st))
  have e3:(((s.val st % 4).toNat:Nat):Int)=s.val st % 4:=by omega
  rw[e3,ints_set] at w
  simp only[Rw.enc,Rw.next,Rw.word,to1]
  simp[Fx,P.ROW,P.CELLS,q,q2,w,rd,jj,Rw.next]
  simp[St.enc]
 | ask x =>
  have b:=pX P (k+4) asked st.asked
  have w:=gZ P (k+3) st ho x (asked.getD st.asked 0)
  simp only[Rw.enc,Rw.next,Rw.word,to2]
  simp only[Qk] at b w ⊢
  simp[Fw,P.ROW,P.NAMES,P.ASKED,b,w,rd,jj,Rw.next]
  simp[St.enc]
 | say s =>
  have q:=aM P (k+1) s (by have:=hr.2;omega) hr.1 st ho
  simp only[Rw.enc,Rw.next,Rw.word,to3]
  have l3:(aa st.said).length+1<=100000:=by rw[gE];omega
  simp[Fv,P.ROW,P.SAID,q,rd,jj,Rw.next,l3,ints_snoc]
  simp[St.enc]
 | call q =>
  simp only[Rw.enc,Rw.next,Rw.word,to4]
  have l3:(af st.calls).length+1<=100000:=by simp[af];omega
  have e4:af st.calls++[.int ((st.row:Int)+1)]=af (st.calls++[st.row+1]):=by rw[← vD];simp
  simp[Ft,P.ROW,P.CALLS,rd,jj,Rw.next,l3,e4]
  simp[St.enc]
 | back =>
  simp only[Rw.enc,Rw.next,Rw.word,to5]
  have e4:=yK st.calls
  have e5:qK (.tup (af st.calls)) none (some (-1))=some (.tup (af st.calls.dropLast)):=by rw[xg,e4]
  simp[-xg,Fp,P.ROW,P.CALLS,rd,jj,Rw.next,e5]
  simp[St.enc]
 | stop=>simp[Rw.over] at hb'
 | _ =>
  simp only[Rw.enc,Rw.next,Rw.word]
  rw[toN _ _ _ _ _ _ _ _ (by decide)]
  simp[P.ROW,rd,jj,Rw.next]
  simp[St.enc]
end
end BT
end
section
namespace BT
open PySem
noncomputable def Ask (asked:List Int):Prop:=∀ x∈asked,Wth x
theorem yN {xs:List Int}{i:Nat}{v:Int} (h:∀ x∈xs,Wth x) (hv:Wth v):∀ x∈xs.set i v,Wth x:=fun x hx=>by
 rcases List.mem_or_eq_of_mem_set hx with q | q
 ·exact h x q
 ·rw[q];exact hv
structure At (n:Nat) (st:St):Prop where
 ok:st.ok
 said:st.said.length<=n
 calls:st.calls.length<=6
theorem At.small {n:Nat}{st:St} (a:At n st) (h:n<=5000):st.small:=⟨by have:=a.said;omega,by have:=a.calls;omega⟩
theorem BQ:At 0 St.zero:=⟨BN,Nu _,by decide⟩
theorem BU {n:Nat}{p:Pg}{asked:List Int}{st:St} (hp:Pg.ok p) (ha:Ask asked) (a:At n st) (hb:over p st=false):At (n+1) (step p asked st):=by
 have c:st.row < p.length:=by
  rcases NK st.row p.length with q | q
  ·exact q
  ·rw[over,NF q] at hb;cases hb
 have e:p[st.row]?=some p[st.row]:=NB c
 have hr:=hp _ (QF c)
 have hb':(p[st.row]).over st=false:=by rw[over,e] at hb;exact hb
 rw[step,e]
 dsimp only
 revert hr hb'
 generalize p[st.row]=r
 intro hr hb'
 obtain ⟨ok,sd,cl⟩:=a
 cases r with
 | set x s=>exact ⟨⟨by simp[Rw.next,ok.nlen],ok.clen,yN ok.nw (Sm.mW ok hr.1),ok.cw⟩,by simp[Rw.next];omega,cl⟩
 | put s t=>exact ⟨⟨ok.nlen,by simp[Rw.next,ok.clen],ok.nw,yN ok.cw (Sm.mW ok hr.2.1)⟩,by simp[Rw.next];omega,cl⟩
 | ask x=>exact ⟨⟨by simp[Rw.next,ok.nlen],ok.clen,yN ok.nw (rC ha _),ok.cw⟩,by simp[Rw.next];omega,cl⟩
 | say s=>exact ⟨⟨ok.nlen,ok.clen,ok.nw,ok.cw⟩,by simp[Rw.next];omega,cl⟩
 | call q =>
  simp[Rw.over] at hb'
  exact ⟨⟨ok.nlen,ok.clen,ok.nw,ok.cw⟩,by simp[Rw.next];omega,by simp[Rw.next];omega⟩
 | back=>exact ⟨⟨ok.nlen,ok.clen,ok.nw,ok.cw⟩,by simp[Rw.next];omega,by simp[Rw.next];omega⟩
 | stop=>simp[Rw.over] at hb'
 | _=>exact ⟨⟨ok.nlen,ok.clen,ok.nw,ok.cw⟩,by simp[Rw.next];omega,cl⟩
section
variable {T:FK->Option Fn}{G:Str->Option W}
end
end BT
end
section
namespace BT
open PySem
noncomputable def cF:Fn:=⟨["_law_script","_law_k"],["_law_script","_law_k"],
 (.seq (.ife (.cmp .eq (.var 0 "_law_script") (.lst false .nil)) (.ret (.bin .mul (.cst (.int 7)) (.var 1 "_law_k"))) .nil)
 (.ret (.bin .add (.idx (.var 0 "_law_script") (.bin .mod (.var 1 "_law_k") (.bi .len false (.cons (.var 0 "_law_script") .nil)))) (.bin .mul (.cst (.int 6553)) (.bin .fdiv (.var 1 "_law_k") (.bi .len false (.cons (.var 0 "_law_script") .nil)))))))⟩
noncomputable def cO:Fn:=⟨["_law_script","_law_k","_law_many"],["_law_script","_law_k","_law_many","_law_cell_here"],
 (.seq (.set 3 "_law_cell_here" (.bin .mod (.bin .add (.bin .mul (.bin .mod (.call "_law_cell" (.cons (.var 0 "_law_script") (.cons (.var 1 "_law_k") .nil))) (.cst (.int 2147483563))) (.cst (.int 69069))) (.bin .mul (.cst (.int 104723)) (.bin .add (.var 1 "_law_k") (.cst (.int 1))))) (.cst (.int 2147483563))))
 (.seq (.set 3 "_law_cell_here" (.bin .mod (.bin .add (.bin .mul (.var 3 "_law_cell_here") (.var 3 "_law_cell_here")) (.bin .fdiv (.var 3 "_law_cell_here") (.cst (.int 3)))) (.cst (.int 2147483399))))
 (.ret (.bin .mod (.bin .fdiv (.bin .mod (.bin .add (.bin .mul (.var 3 "_law_cell_here") (.var 3 "_law_cell_here")) (.bin .fdiv (.var 3 "_law_cell_here") (.cst (.int 7)))) (.cst (.int 2147483647))) (.cst (.int 11))) (.var 2 "_law_many")))))⟩
noncomputable def aX:Fn:=⟨["_law_script","_law_at","_law_deep"],["_law_script","_law_at","_law_deep","_law_way","_law_one"],
 (.seq (.set 3 "_law_way" (.call "_law_drawn" (.cons (.var 0 "_law_script") (.cons (.var 1 "_law_at") (.cons (.cst (.int 10)) .nil)))))
 (.seq (.ife (.or (.cmp .eq (.var 2 "_law_deep") (.cst (.int 0))) (.cmp .lt (.var 3 "_law_way") (.cst (.int 4)))) (.seq (.ife (.cmp .eq (.call "_law_drawn" (.cons (.var 0 "_law_script") (.cons (.bin .add (.var 1 "_law_at") (.cst (.int 1))) (.cons (.cst (.int 2)) .nil)))) (.cst (.int 0))) (.ret (.tup (.cons (.cst (.str "num")) (.cons (.idx (.lst false (.cons (.cst (.int 0)) (.cons (.cst (.int 1)) (.cons (.cst (.int 2)) (.cons (.cst (.int 3)) (.cons (.cst (.int 10)) (.cons (.cst (.int 10006)) .nil))))))) (.call "_law_drawn" (.cons (.var 0 "_law_script") (.cons (.bin .add (.var 1 "_law_at") (.cst (.int 2))) (.cons (.cst (.int 6)) .nil))))) .nil)))) .nil)
 (.ret (.tup (.cons (.cst (.str "name")) (.cons (.idx (.cst (.str "abcf")) (.call "_law_drawn" (.cons (.var 0 "_law_script") (.cons (.bin .add (.var 1 "_law_at") (.cst (.int 2))) (.cons (.cst (.int 4)) .nil))))) .nil))))) .nil)
 (.seq (.set 4 "_law_one" (.call "_law_sum" (.cons (.var 0 "_law_script") (.cons (.bin .add (.bin .mul (.var 1 "_law_at") (.cst (.int 2))) (.cst (.int 5))) (.cons (.bin .sub (.var 2 "_law_deep") (.cst (.int 1))) .nil)))))
 (.seq (.ife (.cmp .lt (.var 3 "_law_way") (.cst (.int 6))) (.ret (.tup (.cons (.cst (.str "cell")) (.cons (.var 4 "_law_one") .nil)))) .nil)
 (.ret (.tup (.cons (.idx (.lst false (.cons (.cst (.str "add")) (.cons (.cst (.str "sub")) (.cons (.cst (.str "mul")) (.cons (.cst (.str "less")) .nil))))) (.bin .sub (.var 3 "_law_way") (.cst (.int 6)))) (.cons (.var 4 "_law_one") (.cons (.call "_law_sum" (.cons (.var 0 "_law_script") (.cons (.bin .add (.bin .mul (.var 1 "_law_at") (.cst (.int 2))) (.cst (.int 19))) (.cons (.bin .sub (.var 2 "_law_deep") (.cst (.int 1))) .nil)))) .nil)))))))))⟩
noncomputable def eU:Fn:=⟨["_law_script","_law_at","_law_size"],["_law_script","_law_at","_law_size","_law_way","_law_place","_law_name","_law_one"],
 (.seq (.set 3 "_law_way" (.call "_law_drawn" (.cons (.var 0 "_law_script") (.cons (.var 1 "_law_at") (.cons (.cst (.int 16)) .nil)))))
 (.seq (.set 4 "_law_place" (.call "_law_drawn" (.cons (.var 0 "_law_script") (.cons (.bin .add (.var 1 "_law_at") (.cst (.int 1))) (.cons (.bin .add (.var 2 "_law_size") (.cst (.int 1))) .nil)))))
 (.seq (.set 5 "_law_name" (.idx (.cst (.str "abc")) (.call "_law_drawn" (.cons (.var 0 "_law_script") (.cons (.bin .add (.var 1 "_law_at") (.cst (.int 2))) (.cons (.cst (.int 3)) .nil))))))
 (.seq (.set 6 "_law_one" (.call "_law_sum" (.cons (.var 0 "_law_script") (.cons (.bin .add (.var 1 "_law_at") (.cst (.int 3))) (.cons (.cst (.int 2)) .nil)))))
 (.seq (.ife (.cmp .lt (.var 3 "_law_way") (.cst (.int 5))) (.ret (.tup (.cons (.cst (.str "set")) (.cons (.var 5 "_law_name") (.cons (.var 6 "_law_one") .nil))))) .nil)
 (.seq (.ife (.cmp .lt (.var 3 "_law_way") (.cst (.int 7))) (.ret (.tup (.cons (.cst (.str "put")) (.cons (.call "_law_sum" (.cons (.var 0 "_law_script") (.cons (.bin .add (.var 1 "_law_at") (.cst (.int 9))) (.cons (.cst (.int 1)) .nil)))) (.cons (.var 6 "_law_one") .nil))))) .nil)
 (.seq (.ife (.cmp .lt (.var 3 "_law_way") (.cst (.int 9))) (.ret (.idx (.lst false (.cons (.tup (.cons (.cst (.str "ask")) (.cons (.var 5 "_law_name") .nil))) (.cons (.tup (.cons (.cst (.str "say")) (.cons (.var 6 "_law_one") .nil))) .nil))) (.bin .sub (.var 3 "_law_way") (.cst (.int 7))))) .nil)
 (.seq (.ife (.cmp .lt (.var 3 "_law_way") (.cst (.int 12))) (.ret (.idx (.lst false (.cons (.tup (.cons (.cst (.str "jump")) (.cons (.var 4 "_law_place") .nil))) (.cons (.tup (.cons (.cst (.str "unless")) (.cons (.var 6 "_law_one") (.cons (.var 4 "_law_place") .nil)))) (.cons (.tup (.cons (.cst (.str "unless")) (.cons (.tup (.cons (.cst (.str "name")) (.cons (.var 5 "_law_name") .nil))) (.cons (.var 4 "_law_place") .nil)))) .nil)))) (.bin .sub (.var 3 "_law_way") (.cst (.int 9))))) .nil)
 (.ret (.idx (.lst false (.cons (.tup (.cons (.cst (.str "call")) (.cons (.var 4 "_law_place") .nil))) (.cons (.tup (.cons (.cst (.str "call")) (.cons (.var 4 "_law_place") .nil))) (.cons (.tup (.cons (.cst (.str "back")) .nil)) (.cons (.idx (.lst false (.cons (.tup (.cons (.cst (.str "stop")) .nil)) (.cons (.tup (.cons (.cst (.str "back")) .nil)) .nil))) (.bin .mod (.var 4 "_law_place") (.cst (.int 2)))) .nil))))) (.bin .sub (.var 3 "_law_way") (.cst (.int 12)))))))))))))⟩
noncomputable def aN:Fn:=⟨["_law_script","_law_at"],["_law_script","_law_at","_law_size","_law_put","_law_sign","_law_rows"],
 (.seq (.set 2 "_law_size" (.bin .add (.cst (.int 1)) (.call "_law_drawn" (.cons (.var 0 "_law_script") (.cons (.var 1 "_law_at") (.cons (.cst (.int 9)) .nil))))))
 (.seq (.ife (.cmp .eq (.call "_law_drawn" (.cons (.var 0 "_law_script") (.cons (.bin .add (.var 1 "_law_at") (.cst (.int 1))) (.cons (.cst (.int 4)) .nil)))) (.cst (.int 0))) (.seq (.set 3 "_law_put" (.tup (.cons (.cst (.str "put")) (.cons (.tup (.cons (.cst (.str "name")) (.cons (.cst (.str "a")) .nil))) (.cons (.tup (.cons (.cst (.str "num")) (.cons (.call "_law_drawn" (.cons (.var 0 "_law_script") (.cons (.bin .add (.var 1 "_law_at") (.cst (.int 2))) (.cons (.cst (.int 9)) .nil)))) .nil))) .nil)))))
 (.seq (.set 4 "_law_sign" (.idx (.lst false (.cons (.cst (.str "add")) (.cons (.cst (.str "sub")) .nil))) (.call "_law_drawn" (.cons (.var 0 "_law_script") (.cons (.bin .add (.var 1 "_law_at") (.cst (.int 3))) (.cons (.cst (.int 2)) .nil))))))
 (.seq (.set 5 "_law_rows" (.tup (.cons (.tup (.cons (.cst (.str "ask")) (.cons (.cst (.str "a")) .nil))) (.cons (.tup (.cons (.cst (.str "call")) (.cons (.cst (.int 4)) .nil))) (.cons (.tup (.cons (.cst (.str "say")) (.cons (.tup (.cons (.cst (.str "name")) (.cons (.cst (.str "a")) .nil))) .nil))) (.cons (.tup (.cons (.cst (.str "jump")) (.cons (.cst (.int 0)) .nil))) (.cons (.var 3 "_law_put") .nil)))))))
 (.ret (.bin .add (.var 5 "_law_rows") (.tup (.cons (.tup (.cons (.cst (.str "call")) (.cons (.cst (.int 7)) .nil))) (.cons (.tup (.cons (.cst (.str "back")) .nil)) (.cons (.tup (.cons (.cst (.str "set")) (.cons (.cst (.str "b")) (.cons (.tup (.cons (.var 4 "_law_sign") (.cons (.tup (.cons (.cst (.str "name")) (.cons (.cst (.str "b")) .nil))) (.cons (.tup (.cons (.cst (.str "name")) (.cons (.cst (.str "a")) .nil))) .nil)))) .nil)))) (.cons (.tup (.cons (.cst (.str "back")) .nil)) .nil)))))))))) .nil)
 (.ret (.bi .tuple false (.cons (.comp false .rng1 (.cons (.var 2 "_law_size") .nil) ["_law_k"] [(0,"_law_script"),(1,"_law_at"),(2,"_law_size")] .nil (.call "_law_row" (.cons (.var 1 "_law_script") (.cons (.bin .add (.bin .add (.var 2 "_law_at") (.cst (.int 10))) (.bin .mul (.cst (.int 40)) (.var 0 "_law_k"))) (.cons (.var 3 "_law_size") .nil))))) .nil)))))⟩
noncomputable def cQ:Fn:=⟨["_law_script","_law_at"],["_law_script","_law_at"],
 (.ret (.comp false .rng1 (.cons (.call "_law_drawn" (.cons (.var 0 "_law_script") (.cons (.var 1 "_law_at") (.cons (.cst (.int 4)) .nil)))) .nil) ["_law_k"] [(0,"_law_script"),(1,"_law_at")] .nil (.idx (.lst false (.cons (.cst (.int 0)) (.cons (.cst (.int 1)) (.cons (.cst (.int 5)) (.cons (.cst (.int 10006)) .nil))))) (.call "_law_drawn" (.cons (.var 1 "_law_script") (.cons (.bin .add (.bin .add (.var 2 "_law_at") (.cst (.int 1))) (.var 0 "_law_k")) (.cons (.cst (.int 4)) .nil)))))))⟩
structure Lw (T:FK->Option Fn):Prop where
 cell:T "_law_cell"=some cF
 drawn:T "_law_drawn"=some cO
 sum:T "_law_sum"=some aX
 row:T "_law_row"=some eU
 asked:T "_law_asked"=some cQ
noncomputable def tN (ns:List Int) (k:Int):Int:=if ns=[] then 7*k else ns.getD (k % ns.length).toNat 0+6553*(k / ns.length)
noncomputable def drw (ns:List Int) (k many:Int):Int :=
 let a:=(tN ns k % 2147483563*69069+104723*(k+1)) % 2147483563
 let b:=(a*a+a / 3) % 2147483399
 (b*b+b / 7) % 2147483647 / 11 % many
theorem cu (ns:List Int) (k:Int) {many:Int} (h:0 < many):0<=drw ns k many:=Int.emod_nonneg _ (by omega)
theorem cy (ns:List Int) (k:Int) {many:Int} (h:0 < many):drw ns k many < many:=Int.emod_lt_of_pos _ h
theorem mY {i:Int} (h0:0<=i) (h1:i < 18446744073709551616):big i=true:=by
 unfold big;exact decide_eq_true (by omega)
section
variable {T:FK->Option Fn}{G:Str->Option W}
theorem BV (ns:List Int):eqv (.lst (aa ns)) (.lst [])=decide (ns=[]):=by
 cases ns<;>simp[aa]
theorem yO (L:Lw T) (m:Nat) (ns:List Int) (hl:ns.length<=1000) (k:Int) (h:HH):runN T G (m+1) "_law_cell" [.p (.lst (aa ns)),.p (.int k)] h=some (.p (.int (tN ns k)),h):=by
 rw[run_eq L.cell rfl]
 by_cases c:ns=[]
 ·subst c
  simp[cF,aa,tN,big,ah]
 ·have n0:0 < ns.length:=List.length_pos_iff.mpr c
  have q:eqv (.lst (aa ns)) (.lst [])=false:=by rw[BV];exact decide_eq_false c
  have p1:(0:Int) < (ns.length:Int):=by omega
  have p2:(ns.length:Int) < 1073741824:=by omega
  have m1:=Int.emod_nonneg k (b:=(ns.length:Int)) (by omega)
  have m2:=Int.emod_lt_of_pos k p1
  have i1:(k % (ns.length:Int)).toNat < ns.length:=by omega
  have n2:ns.length < 1073741824:=by omega
  simp[cF,-eqv,q,gE,p1,p2,n0,n2,m1,m2,big,ah,tN,c]
  simp[aa,i1,ah,n0,n2,m1,m2,big,p1,p2]
theorem dR (L:Lw T) (m:Nat) (ns:List Int) (hl:ns.length<=1000) (k many:Int) (hm:0 < many) (h:HH) :
 runN T G (m+2) "_law_drawn" [.p (.lst (aa ns)),.p (.int k),.p (.int many)] h=some (.p (.int (drw ns k many)),h):=by
 rw[run_eq L.drawn rfl]
 have r:=yO (G:=G) L m ns hl k
 have b0:big 69069=true:=by decide
 have b1:big 104723=true:=by decide
 have b2:∀ x:Int,big (x % 2147483563)=true:=fun x=>mY (by omega) (by omega)
 have b3:∀ x:Int,big (x % 2147483399)=true:=fun x=>mY (by omega) (by omega)
 simp[cO,r,b0,b1,b2,b3,ah,hm,drw]
theorem oi:NN "abcf"=⟨#[97,98,99,102]⟩:=by decide +kernel
theorem yP:NN "abc"=⟨#[97,98,99]⟩:=by decide +kernel
theorem o_a:NN "a"=⟨#[97]⟩:=by decide +kernel
theorem o_b:NN "b"=⟨#[98]⟩:=by decide +kernel
theorem o_c:NN "c"=⟨#[99]⟩:=by decide +kernel
theorem o_f:NN "f"=⟨#[102]⟩:=by decide +kernel
theorem tO (i:Int) (h0:0<=i) (h1:i < 4):∃ x:Nm,bM (.str "abcf") (.int i)=some (.str x.w):=by
 have:i=0\/i=1\/i=2\/i=3:=by omega
 rcases this with rfl | rfl | rfl | rfl
 ·exact ⟨.a,by rw[Nm.w,oi,o_a];rfl⟩
 ·exact ⟨.b,by rw[Nm.w,oi,o_b];rfl⟩
 ·exact ⟨.c,by rw[Nm.w,oi,o_c];rfl⟩
 ·exact ⟨.f,by rw[Nm.w,oi,o_f];rfl⟩
theorem FD (i:Int) (h0:0<=i) (h1:i < 3):∃ x:Nm,bM (.str "abc") (.int i)=some (.str x.w):=by
 have:i=0\/i=1\/i=2:=by omega
 rcases this with rfl | rfl | rfl
 ·exact ⟨.a,by rw[Nm.w,yP,o_a];rfl⟩
 ·exact ⟨.b,by rw[Nm.w,yP,o_b];rfl⟩
 ·exact ⟨.c,by rw[Nm.w,yP,o_c];rfl⟩
theorem tP (i:Int) (h0:0<=i) (h1:i < 6):∃ n:Int,Wth n/\bM (.lst [.int 0,.int 1,.int 2,.int 3,.int 10,.int 10006]) (.int i)=some (.int n):=by
 have:i=0\/i=1\/i=2\/i=3\/i=4\/i=5:=by omega
 rcases this with rfl | rfl | rfl | rfl | rfl | rfl
 ·exact ⟨0,⟨by decide,by decide⟩,rfl⟩
 ·exact ⟨1,⟨by decide,by decide⟩,rfl⟩
 ·exact ⟨2,⟨by decide,by decide⟩,rfl⟩
 ·exact ⟨3,⟨by decide,by decide⟩,rfl⟩
 ·exact ⟨10,⟨by decide,by decide⟩,rfl⟩
 ·exact ⟨10006,⟨by decide,by decide⟩,rfl⟩
theorem FE (i:Int) (h0:0<=i) (h1:i < 4):∃ o:Op,bM (.lst [.str "add",.str "sub",.str "mul",.str "less"]) (.int i)=some (.str o.w):=by
 have:i=0\/i=1\/i=2\/i=3:=by omega
 rcases this with rfl | rfl | rfl | rfl
 ·exact ⟨.add,rfl⟩
 ·exact ⟨.sub,rfl⟩
 ·exact ⟨.mul,rfl⟩
 ·exact ⟨.less,rfl⟩
theorem oj (L:Lw T) (ns:List Int) (hl:ns.length<=1000):∀ (deep:Nat) (p:Int),∃ s:Sm,s.ok/\s.size+1<=2 ^ (deep+1)/\∀ (m:Nat) (h:HH),
 runN T G (m+deep+3) "_law_sum" [.p (.lst (aa ns)),.p (.int p),.p (.int deep)] h=some (.p s.enc,h):=by
 intro deep
 induction deep with
 | zero =>
  intro p
  have dr:=fun m q many (hm:0 < many)=>dR (G:=G) L m ns hl q many hm
  obtain ⟨x,ex⟩:=tO (drw ns (p+2) 4) (cu _ _ (by decide)) (cy _ _ (by decide))
  obtain ⟨n,hn,en⟩:=tP (drw ns (p+2) 6) (cu _ _ (by decide)) (cy _ _ (by decide))
  by_cases c:drw ns (p+1) 2=0
  ·refine ⟨.num n,hn,by simp[Sm.size],fun m h=>?_⟩
   rw[run_eq L.sum rfl]
   simp[-bH,-fu,aX,dr,c,ex,en,ah,Sm.enc]
  ·refine ⟨.nam x,trivial,by simp[Sm.size],fun m h=>?_⟩
   rw[run_eq L.sum rfl]
   simp[-bH,-fu,aX,dr,c,ex,en,ah,Sm.enc]
 | succ deep ih =>
  intro p
  have dr:=fun m q many (hm:0 < many)=>dR (G:=G) L m ns hl q many hm
  obtain ⟨x,ex⟩:=tO (drw ns (p+2) 4) (cu _ _ (by decide)) (cy _ _ (by decide))
  obtain ⟨n,hn,en⟩:=tP (drw ns (p+2) 6) (cu _ _ (by decide)) (cy _ _ (by decide))
  obtain ⟨s,so,ss,sr0⟩:=ih (p*2+5)
  obtain ⟨t,to,tt,tr0⟩:=ih (p*2+19)
  have ee:∀ m,m+(deep+1)+2=m+deep+3:=fun m=>by omega
  have sr:=fun m h=>(ee m).symm ▸ sr0 m h
  have tr:=fun m h=>(ee m).symm ▸ tr0 m h
  have d0:¬ ((deep:Int)+1=0):=by omega
  have d1:((deep:Int)+1 - 1)=deep:=by omega
  have b2:big 2=true:=by decide
  have w0:=cu ns p (many:=10) (by decide)
  have w1:=cy ns p (many:=10) (by decide)
  have pw:2 ^ (deep+1+1)=2 ^ (deep+1)+2 ^ (deep+1):=by omega
  by_cases c1:drw ns p 10 < 4
  ·by_cases c:drw ns (p+1) 2=0
   ·refine ⟨.num n,hn,by simp only[Sm.size];omega,fun m h=>?_⟩
    rw[run_eq L.sum rfl]
    simp[-bH,-fu,aX,dr,c,c1,d0,ex,en,ah,Sm.enc]
   ·refine ⟨.nam x,trivial,by simp only[Sm.size];omega,fun m h=>?_⟩
    rw[run_eq L.sum rfl]
    simp[-bH,-fu,aX,dr,c,c1,d0,ex,en,ah,Sm.enc]
  ·by_cases c2:drw ns p 10 < 6
   ·refine ⟨.cell s,so,by simp only[Sm.size];omega,fun m h=>?_⟩
    rw[run_eq L.sum rfl]
    simp[-bH,-fu,aX,dr,c1,c2,d0,d1,b2,sr,ah,Sm.enc]
   ·obtain ⟨o,eo⟩:=FE (drw ns p 10 - 6) (by omega) (by omega)
    refine ⟨.two o s t,⟨so,to⟩,by simp only[Sm.size];omega,fun m h=>?_⟩
    rw[run_eq L.sum rfl]
    simp[-bH,-fu,aX,dr,c1,c2,d0,d1,b2,sr,tr,eo,ah,Sm.enc]
end
end BT
end
section
namespace BT
open PySem
noncomputable def rG:S:=(.seq (.ife (.cmp .lt (.var 3 "_law_way") (.cst (.int 5))) (.ret (.tup (.cons (.cst (.str "set")) (.cons (.var 5 "_law_name") (.cons (.var 6 "_law_one") .nil))))) .nil)
 (.seq (.ife (.cmp .lt (.var 3 "_law_way") (.cst (.int 7))) (.ret (.tup (.cons (.cst (.str "put")) (.cons (.call "_law_sum" (.cons (.var 0 "_law_script") (.cons (.bin .add (.var 1 "_law_at") (.cst (.int 9))) (.cons (.cst (.int 1)) .nil)))) (.cons (.var 6 "_law_one") .nil))))) .nil)
 (.seq (.ife (.cmp .lt (.var 3 "_law_way") (.cst (.int 9))) (.ret (.idx (.lst false (.cons (.tup (.cons (.cst (.str "ask")) (.cons (.var 5 "_law_name") .nil))) (.cons (.tup (.cons (.cst (.str "say")) (.cons (.var 6 "_law_one") .nil))) .nil))) (.bin .sub (.var 3 "_law_way") (.cst (.int 7))))) .nil)
 (.seq (.ife (.cmp .lt (.var 3 "_law_way") (.cst (.int 12))) (.ret (.idx (.lst false (.cons (.tup (.cons (.cst (.str "jump")) (.cons (.var 4 "_law_place") .nil))) (.cons (.tup (.cons (.cst (.str "unless")) (.cons (.var 6 "_law_one") (.cons (.var 4 "_law_place") .nil)))) (.cons (.tup (.cons (.cst (.str "unless")) (.cons (.tup (.cons (.cst (.str "name")) (.cons (.var 5 "_law_name") .nil))) (.cons (.var 4 "_law_place") .nil)))) .nil)))) (.bin .sub (.var 3 "_law_way") (.cst (.int 9))))) .nil)
 (.ret (.idx (.lst false (.cons (.tup (.cons (.cst (.str "call")) (.cons (.var 4 "_law_place") .nil))) (.cons (.tup (.cons (.cst (.str "call")) (.cons (.var 4 "_law_place") .nil))) (.cons (.tup (.cons (.cst (.str "back")) .nil)) (.cons (.idx (.lst false (.cons (.tup (.cons (.cst (.str "stop")) .nil)) (.cons (.tup (.cons (.cst (.str "back")) .nil)) .nil))) (.bin .mod (.var 4 "_law_place") (.cst (.int 2)))) .nil))))) (.bin .sub (.var 3 "_law_way") (.cst (.int 12)))))))))
theorem mj:eU=⟨["_law_script","_law_at","_law_size"],["_law_script","_law_at","_law_size","_law_way","_law_place","_law_name","_law_one"],
 (.seq (.set 3 "_law_way" (.call "_law_drawn" (.cons (.var 0 "_law_script") (.cons (.var 1 "_law_at") (.cons (.cst (.int 16)) .nil)))))
 (.seq (.set 4 "_law_place" (.call "_law_drawn" (.cons (.var 0 "_law_script") (.cons (.bin .add (.var 1 "_law_at") (.cst (.int 1))) (.cons (.bin .add (.var 2 "_law_size") (.cst (.int 1))) .nil)))))
 (.seq (.set 5 "_law_name" (.idx (.cst (.str "abc")) (.call "_law_drawn" (.cons (.var 0 "_law_script") (.cons (.bin .add (.var 1 "_law_at") (.cst (.int 2))) (.cons (.cst (.int 3)) .nil))))))
 (.seq (.set 6 "_law_one" (.call "_law_sum" (.cons (.var 0 "_law_script") (.cons (.bin .add (.var 1 "_law_at") (.cst (.int 3))) (.cons (.cst (.int 2)) .nil)))))
 rG))))⟩:=rfl
section
variable {T:FK->Option Fn}{G:Str->Option W}
theorem BW (L:Lw T) (ns:List Int) (hl:ns.length<=1000) (p:Int) (size:Nat):∃ r:Rw,r.ok size/\∀ (m:Nat) (h:HH),
 runN T G (m+6) "_law_row" [.p (.lst (aa ns)),.p (.int p),.p (.int size)] h=some (.p r.enc,h):=by
 have dr:=fun m q many (hm:0 < many)=>dR (G:=G) L m ns hl q many hm
 obtain ⟨x,ex⟩:=FD (drw ns (p+2) 3) (cu _ _ (by decide)) (cy _ _ (by decide))
 obtain ⟨s,so,ss,sr⟩:=oj (G:=G) L ns hl 2 (p+3)
 obtain ⟨t,to,tt,tr⟩:=oj (G:=G) L ns hl 1 (p+9)
 have w0:=cu ns p (many:=16) (by decide)
 have w1:=cy ns p (many:=16) (by decide)
 have sz:(0:Int) < (size:Int)+1:=by omega
 have p0:=cu ns (p+1) sz
 have p1:=cy ns (p+1) sz
 obtain ⟨pl,hpl⟩:∃ pl:Nat,drw ns (p+1) ((size:Int)+1)=(pl:Int):=⟨(drw ns (p+1) ((size:Int)+1)).toNat,by omega⟩
 have ple:pl<=size:=by omega
 have sok:lY s:=⟨so,by omega⟩
 have tok:lY t:=⟨to,by omega⟩
 have sr':=fun m h=>sr (m+0) h
 have tr':=fun m h=>tr (m+1) h
 simp at sr' tr'
 have dp:=fun m h=>dr m (p+1) ((size:Int)+1) sz h
 rw[hpl] at dp
 have pre:∀ (m:Nat) (h:HH),runN T G (m+6) "_law_row" [.p (.lst (aa ns)),.p (.int p),.p (.int size)] h =
  lU (evS (runN T G (m+5)) G rG [some (.p (.lst (aa ns))),some (.p (.int p)),some (.p (.int size)),some (.p (.int (drw ns p 16))),some (.p (.int (pl:Int))),some (.p (.str x.w)),some (.p s.enc)] h) (fin h):=fun m h=>by
  rw[run_eq L.row rfl,mj]
  simp[-fu,dp,dr,ex,sr']
 by_cases c1:drw ns p 16 < 5
 ·refine ⟨.set x s,sok,fun m h=>?_⟩
  rw[pre]
  simp[-bH,-fu,rG,tr',c1,ah,Rw.enc]
 ·by_cases c2:drw ns p 16 < 7
  ·refine ⟨.put t s,⟨tok,sok⟩,fun m h=>?_⟩
   rw[pre]
   simp[-bH,-fu,rG,tr',c1,c2,ah,Rw.enc]
  ·by_cases c3:drw ns p 16 < 9
   ·obtain ⟨r,ro,ix⟩:∃ r:Rw,r.ok size/\bM (.lst [.tup [.str "ask",.str x.w],.tup [.str "say",s.enc]]) (.int (drw ns p 16 - 7))=some r.enc:=by
     have c:drw ns p 16=7\/drw ns p 16=8:=by omega
     rcases c with c | c<;>rw[c]
     ·exact ⟨.ask x,trivial,rfl⟩
     ·exact ⟨.say s,sok,rfl⟩
    refine ⟨r,ro,fun m h=>?_⟩
    rw[pre]
    simp[-bH,rG,c1,c2,c3,ix,ah]
   ·by_cases c4:drw ns p 16 < 12
    ·obtain ⟨r,ro,ix⟩:∃ r:Rw,r.ok size/\bM (.lst [.tup [.str "jump",.int pl],.tup [.str "unless",s.enc,.int pl],.tup [.str "unless",.tup [.str "name",.str x.w],.int pl]]) (.int (drw ns p 16 - 9))=some r.enc:=by
      have c:drw ns p 16=9\/drw ns p 16=10\/drw ns p 16=11:=by omega
      rcases c with c | c | c<;>rw[c]
      ·exact ⟨.jump pl,ple,rfl⟩
      ·exact ⟨.unless s pl,⟨sok,ple⟩,rfl⟩
      ·exact ⟨.unless (.nam x) pl,⟨⟨trivial,by simp[Sm.size]⟩,ple⟩,rfl⟩
     refine ⟨r,ro,fun m h=>?_⟩
     rw[pre]
     simp[-bH,rG,c1,c2,c3,c4,ix,ah]
    ·obtain ⟨u,uo,iu⟩:∃ u:Rw,u.ok size/\bM (.lst [.tup [.str "stop"],.tup [.str "back"]]) (.int ((pl:Int) % 2))=some u.enc:=by
      have z:(pl:Int) % 2=0\/(pl:Int) % 2=1:=by omega
      rcases z with z | z<;>rw[z]
      ·exact ⟨.stop,trivial,rfl⟩
      ·exact ⟨.back,trivial,rfl⟩
     obtain ⟨r,ro,ix⟩:∃ r:Rw,r.ok size/\bM (.lst [.tup [.str "call",.int pl],.tup [.str "call",.int pl],.tup [.str "back"],u.enc]) (.int (drw ns p 16 - 12))=some r.enc:=by
      have c:drw ns p 16=12\/drw ns p 16=13\/drw ns p 16=14\/drw ns p 16=15:=by omega
      rcases c with c | c | c | c<;>rw[c]
      ·exact ⟨.call pl,ple,rfl⟩
      ·exact ⟨.call pl,ple,rfl⟩
      ·exact ⟨.back,trivial,rfl⟩
      ·exact ⟨u,uo,rfl⟩
     refine ⟨r,ro,fun m h=>?_⟩
     rw[pre]
     simp[-bH,rG,c1,c2,c3,c4,iu,ix,ah]
theorem comp_map (f:List D->HH->Option (Option D×HH)) (g:D->D):∀ (ds:List D) (h:HH),(∀ d∈ds,∀ h,f [d] h=some (some (g d),h))->aR f 1 ds h=some (ds.map g,h):=by
 intro ds
 induction ds with
 | nil=>intro h _;rfl
 | cons d r ih =>
  intro h hf
  have e1:=hf d NI h
  have e2:=ih h fun x hx=>hf x (NC _ hx)
  rw[aR,gk]
  simp[e1,e2]
theorem p6 {n:Nat}{d:D} (h:d∈upto 0 n):∃ k:Nat,k < n/\d=.int k:=by
 simp[upto] at h
 obtain ⟨k,hk,e⟩:=h
 exact ⟨k,hk,e.symm⟩
theorem p7 (n:Nat) (g:D->D):(upto 0 n).map g=(ND n).map fun (k:Nat)=>g (.int k):=by
 simp[upto,Function.comp_def]
noncomputable def BY:E:=.idx (.lst false (.cons (.cst (.int 0)) (.cons (.cst (.int 1)) (.cons (.cst (.int 5)) (.cons (.cst (.int 10006)) .nil))))) (.call "_law_drawn" (.cons (.var 1 "_law_script") (.cons (.bin .add (.bin .add (.var 2 "_law_at") (.cst (.int 1))) (.var 0 "_law_k")) (.cons (.cst (.int 4)) .nil))))
theorem jT:cQ=⟨["_law_script","_law_at"],["_law_script","_law_at"],.ret (.comp false .rng1 (.cons (.call "_law_drawn" (.cons (.var 0 "_law_script") (.cons (.var 1 "_law_at") (.cons (.cst (.int 4)) .nil)))) .nil) ["_law_k"] [(0,"_law_script"),(1,"_law_at")] .nil BY)⟩:=rfl
theorem vF (L:Lw T) (ns:List Int) (hl:ns.length<=1000) (p:Int):∃ asked:List Int,Ask asked/\asked.length<=3/\∀ (m:Nat) (h:HH),
 runN T G (m+3) "_law_asked" [.p (.lst (aa ns)),.p (.int p)] h=some (.p (.lst (aa asked)),h):=by
 have dr:=fun m q many (hm:0 < many)=>dR (G:=G) L m ns hl q many hm
 have at4:∀ i:Int,0<=i->i < 4->∃ n:Int,Wth n/\bM (.lst [.int 0,.int 1,.int 5,.int 10006]) (.int i)=some (.int n):=by
  intro i h0 h1
  have:i=0\/i=1\/i=2\/i=3:=by omega
  rcases this with rfl | rfl | rfl | rfl
  ·exact ⟨0,⟨by decide,by decide⟩,rfl⟩
  ·exact ⟨1,⟨by decide,by decide⟩,rfl⟩
  ·exact ⟨5,⟨by decide,by decide⟩,rfl⟩
  ·exact ⟨10006,⟨by decide,by decide⟩,rfl⟩
 have ch:∀ k:Nat,∃ n:Int,Wth n/\bM (.lst [.int 0,.int 1,.int 5,.int 10006]) (.int (drw ns (p+1+k) 4))=some (.int n):=fun k =>
  at4 _ (cu _ _ (by decide)) (cy _ _ (by decide))
 obtain ⟨g,hg⟩:=RU ch
 have w0:=cu ns p (many:=4) (by decide)
 have w1:=cy ns p (many:=4) (by decide)
 refine ⟨(ND (drw ns p 4).toNat).map g,?_,by simp;omega,fun m h=>?_⟩
 ·intro x hx
  simp at hx
  obtain ⟨k,_,rfl⟩:=hx
  exact (hg k).1
 ·rw[run_eq L.asked rfl,jT]
  have c1:drw ns p 4<=100000:=by omega
  have c0:-100000<=drw ns p 4:=by omega
  have he:∀ (k:Nat) (h:HH),ev (runN T G (m+2)) G BY [some (.p (.int k)),some (.p (.lst (aa ns))),some (.p (.int p))] h=some (.p (.int (g k)),h):=fun k h=>by
   have e:=(hg k).2
   simp[-bH,BY,dr,e]
  have cm:=comp_map (cE (fun _ h=>some ([],h)) (ev (runN T G (m+2)) G BY) [some (.p (.lst (aa ns))),some (.p (.int p))]) (fun d=>match d with | .int k=>.int (g k.toNat) | _=>.non) (upto 0 (drw ns p 4).toNat) h (by
   intro d hd h
   obtain ⟨k,hk,rfl⟩:=p6 hd
   simp[bQ,he])
  have ln:(drw ns p 4).toNat<=100000:=by omega
  rw[p7] at cm
  have cm':(ND (drw ns p 4).toNat).map (fun (k:Nat)=>match D.int (k:Int) with | .int k=>D.int (g k.toNat) | _=>.non)=aa ((ND (drw ns p 4).toNat).map g):=by simp[aa,Function.comp_def]
  rw[cm'] at cm
  simp[dr,c0,c1,cm,gE,ln,ah,gn]
noncomputable def yQ:E:=.call "_law_row" (.cons (.var 1 "_law_script") (.cons (.bin .add (.bin .add (.var 2 "_law_at") (.cst (.int 10))) (.bin .mul (.cst (.int 40)) (.var 0 "_law_k"))) (.cons (.var 3 "_law_size") .nil)))
structure Drawn (p:Pg):Prop where
 ok:Pg.ok p
 lo:1<=p.length
 hi:p.length<=9
noncomputable def gF (n:Int) (o:Op):Pg:=[.ask .a,.call 4,.say (.nam .a),.jump 0,.put (.nam .a) (.num n),.call 7,.back,.set .b (.two o (.nam .b) (.nam .a)),.back]
theorem om (n:Int) (o:Op) (h:Wth n):Drawn (gF n o):=by
 refine ⟨?_,by simp[gF],by simp[gF]⟩
 intro r hr
 simp only[gF,ON,Oo,or_false] at hr
 rcases hr with rfl | rfl | rfl | rfl | rfl | rfl | rfl | rfl | rfl<;>simp[Rw.ok,gF,lY,Sm.ok,Sm.size,h]
theorem ly (L:Lw T)
 (ns:List Int) (hl:ns.length<=1000) (p:Int)
 (run1:∀ (m:Nat) (h:HH) (n:Int) (o:Op),drw ns (p+1) 4=0->n=drw ns (p+2) 9->bM (.lst [.str "add",.str "sub"]) (.int (drw ns (p+3) 2))=some (.str o.w) →
  (∀ m q many,0 < many->∀ h,runN T G (m+2) "_law_drawn" [.p (.lst (aa ns)),.p (.int q),.p (.int many)] h=some (.p (.int (drw ns q many)),h)) →
  runN T G (m+7) "_law_program" [.p (.lst (aa ns)),.p (.int p)] h=some (.p (bC (gF n o)),h))
 (run2:∀ (m:Nat) (h:HH) (pg:Pg),drw ns (p+1) 4≠0->pg.length=(1+drw ns p 9).toNat →
  (∀ m q many,0 < many->∀ h,runN T G (m+2) "_law_drawn" [.p (.lst (aa ns)),.p (.int q),.p (.int many)] h=some (.p (.int (drw ns q many)),h)) →
  (∀ h,aR (cE (fun _ h=>some ([],h)) (ev (runN T G (m+6)) G yQ) [some (.p (.lst (aa ns))),some (.p (.int p)),some (.p (.int (1+drw ns p 9)))]) 1 (upto 0 (1+drw ns p 9).toNat) h=some (pg.map Rw.enc,h)) →
  runN T G (m+7) "_law_program" [.p (.lst (aa ns)),.p (.int p)] h=some (.p (bC pg),h)) :
 ∃ pg:Pg,Drawn pg/\∀ (m:Nat) (h:HH),runN T G (m+7) "_law_program" [.p (.lst (aa ns)),.p (.int p)] h=some (.p (bC pg),h):=by
 have dr:=fun m q many (hm:0 < many)=>dR (G:=G) L m ns hl q many hm
 by_cases c:drw ns (p+1) 4=0
 ·have d0:=cu ns (p+3) (many:=2) (by decide)
  have d1:=cy ns (p+3) (many:=2) (by decide)
  have e0:=cu ns (p+2) (many:=9) (by decide)
  have e1:=cy ns (p+2) (many:=9) (by decide)
  have z:drw ns (p+3) 2=0\/drw ns (p+3) 2=1:=by omega
  have:∃ o:Op,bM (.lst [.str "add",.str "sub"]) (.int (drw ns (p+3) 2))=some (.str o.w):=by
   rcases z with z | z<;>rw[z]
   ·exact ⟨.add,rfl⟩
   ·exact ⟨.sub,rfl⟩
  obtain ⟨o,eo⟩:=this
  exact ⟨gF (drw ns (p+2) 9) o,om _ _ ⟨by omega,by omega⟩,fun m h=>run1 m h _ o c rfl eo dr⟩
 ·have d0:=cu ns p (many:=9) (by decide)
  have d1:=cy ns p (many:=9) (by decide)
  obtain ⟨sz,hsz⟩:∃ sz:Nat,1+drw ns p 9=(sz:Int):=⟨(1+drw ns p 9).toNat,by omega⟩
  have ch:∀ k:Nat,∃ r:Rw,r.ok sz/\∀ (m:Nat) (h:HH),runN T G (m+6) "_law_row" [.p (.lst (aa ns)),.p (.int (p+10+40*(k:Int))),.p (.int sz)] h=some (.p r.enc,h) :=
   fun k=>BW L ns hl _ sz
  obtain ⟨g,hg⟩:=RU ch
  refine ⟨(ND sz).map g,⟨?_,by simp;omega,by simp;omega⟩,fun m h=>run2 m h _ c (by simp;omega) dr fun h=>?_⟩
  ·intro r hr
   simp at hr
   obtain ⟨k,_,rfl⟩:=hr
   simpa using (hg k).1
  ·rw[hsz]
   have b:big 40=true:=by decide
   have he:∀ (k:Nat) (h:HH),ev (runN T G (m+6)) G yQ [some (.p (.int k)),some (.p (.lst (aa ns))),some (.p (.int p)),some (.p (.int sz))] h=some (.p (g k).enc,h):=fun k h=>by
    have e:=(hg k).2
    simp[yQ,e,b]
   have cm:=comp_map (cE (fun _ h=>some ([],h)) (ev (runN T G (m+6)) G yQ) [some (.p (.lst (aa ns))),some (.p (.int p)),some (.p (.int sz))]) (fun d=>match d with | .int k=>(g k.toNat).enc | _=>.non) (upto 0 sz) h (by
    intro d hd h
    obtain ⟨k,hk,rfl⟩:=p6 hd
    simp[bQ,he])
   rw[p7] at cm
   simp only[Pu,PD]
   rw[cm]
   rfl
end
end BT
end
section
namespace BT
open PySem
section
variable {T:FK->Option Fn}{G:Str->Option W}
theorem jk:aN=⟨["_law_script","_law_at"],["_law_script","_law_at","_law_size","_law_put","_law_sign","_law_rows"],
 (.seq (.set 2 "_law_size" (.bin .add (.cst (.int 1)) (.call "_law_drawn" (.cons (.var 0 "_law_script") (.cons (.var 1 "_law_at") (.cons (.cst (.int 9)) .nil))))))
 (.seq (.ife (.cmp .eq (.call "_law_drawn" (.cons (.var 0 "_law_script") (.cons (.bin .add (.var 1 "_law_at") (.cst (.int 1))) (.cons (.cst (.int 4)) .nil)))) (.cst (.int 0))) (.seq (.set 3 "_law_put" (.tup (.cons (.cst (.str "put")) (.cons (.tup (.cons (.cst (.str "name")) (.cons (.cst (.str "a")) .nil))) (.cons (.tup (.cons (.cst (.str "num")) (.cons (.call "_law_drawn" (.cons (.var 0 "_law_script") (.cons (.bin .add (.var 1 "_law_at") (.cst (.int 2))) (.cons (.cst (.int 9)) .nil)))) .nil))) .nil)))))
 (.seq (.set 4 "_law_sign" (.idx (.lst false (.cons (.cst (.str "add")) (.cons (.cst (.str "sub")) .nil))) (.call "_law_drawn" (.cons (.var 0 "_law_script") (.cons (.bin .add (.var 1 "_law_at") (.cst (.int 3))) (.cons (.cst (.int 2)) .nil))))))
 (.seq (.set 5 "_law_rows" (.tup (.cons (.tup (.cons (.cst (.str "ask")) (.cons (.cst (.str "a")) .nil))) (.cons (.tup (.cons (.cst (.str "call")) (.cons (.cst (.int 4)) .nil))) (.cons (.tup (.cons (.cst (.str "say")) (.cons (.tup (.cons (.cst (.str "name")) (.cons (.cst (.str "a")) .nil))) .nil))) (.cons (.tup (.cons (.cst (.str "jump")) (.cons (.cst (.int 0)) .nil))) (.cons (.var 3 "_law_put") .nil)))))))
 (.ret (.bin .add (.var 5 "_law_rows") (.tup (.cons (.tup (.cons (.cst (.str "call")) (.cons (.cst (.int 7)) .nil))) (.cons (.tup (.cons (.cst (.str "back")) .nil)) (.cons (.tup (.cons (.cst (.str "set")) (.cons (.cst (.str "b")) (.cons (.tup (.cons (.var 4 "_law_sign") (.cons (.tup (.cons (.cst (.str "name")) (.cons (.cst (.str "b")) .nil))) (.cons (.tup (.cons (.cst (.str "name")) (.cons (.cst (.str "a")) .nil))) .nil)))) .nil)))) (.cons (.tup (.cons (.cst (.str "back")) .nil)) .nil)))))))))) .nil)
 (.ret (.bi .tuple false (.cons (.comp false .rng1 (.cons (.var 2 "_law_size") .nil) ["_law_k"] [(0,"_law_script"),(1,"_law_at"),(2,"_law_size")] .nil yQ) .nil)))))⟩:=rfl
theorem p8 (L:Lw T) (hP:T "_law_program"=some aN) (ns:List Int) (hl:ns.length<=1000) (p:Int) :
 ∃ pg:Pg,Drawn pg/\∀ (m:Nat) (h:HH),runN T G (m+7) "_law_program" [.p (.lst (aa ns)),.p (.int p)] h=some (.p (bC pg),h):=by
 refine ly L ns hl p (fun m h n o c en eo dr=>?_) (fun m h pg c el dr cm=>?_)
 ·rw[run_eq hP rfl]
  have d:=fun q many hm h=>dr (m+4) q many hm h
  simp[-bH,aN,d,c,eo,ah,bC,gF,Rw.enc,Sm.enc,← en,Nm.w]
 ·rw[run_eq hP rfl]
  have d:=fun q many hm h=>dr (m+4) q many hm h
  have d0:=cu ns p (many:=9) (by decide)
  have d1:=cy ns p (many:=9) (by decide)
  have c0:-100000<=1+drw ns p 9:=by omega
  have c1:1+drw ns p 9<=100000:=by omega
  have c2:pg.length<=100000:=by omega
  have cm':=cm h
  rw[jk]
  simp[-cE,d,c,c0,c1,c2,cm',ah,bC,gn]
mutual
theorem jl:∀ d:D,eqv d d=true
 | .non=>rfl
 | .bl b=>by simp
 | .int i=>by simp
 | .str x=>by simp
 | .tup xs=>by simp[gU xs]
 | .lst xs=>by simp[gU xs]
theorem gU:∀ ds:List D,lQ ds ds=true
 | []=>rfl
 | d :: r=>by simp[jl d,gU r]
end
theorem lz (n:Nat) (xs:List Int):(aa xs).all (dok n)=true:=by simp[aa,OM]
theorem p9 (n:Nat) (xs:List Nat):(af xs).all (dok n)=true:=by simp[af,OM]
theorem ne_self {x:D} (h:dok 100 x=true):dO .ne x x=some false:=by rw[jW,if_pos (gi h),jl];rfl
@[simp] theorem FG (ds:List D):lQ ds ds=true:=gU ds
@[simp] theorem Gy (d:D):eqv d d=true:=jl d
@[simp] theorem Gz (x:D) (xs:List Int):bw x (.tup (aa xs))=true:=gi (lz 99 xs)
@[simp] theorem GA (x:D) (xs:List Nat):bw x (.tup (af xs))=true:=gi (p9 99 xs)
@[simp] theorem ID (x:D) (xs ys:List Int):bw x (.tup [.tup (aa xs),.tup (aa ys)])=true:=gi (by simp[lz])
end
end BT
end
section
namespace BT
open PySem
section
variable {T:FK->Option Fn}{G:Str->Option W}
@[simp] theorem L3 (st:St):qK st.enc (some 1) (some 3)=some (.tup [.tup (aa st.names),.tup (aa st.cells)]):=rfl
end
end BT
end
section
namespace BT
open PySem
theorem yR (n:Nat) (st:St):dok (n+2) st.enc=true:=by
 simp[St.enc,sf,lz,p9]
theorem BZ (L:List St):dok 100 (.lst (L.map St.enc))=true:=by
 rw[sj,OM]
 intro d hd
 simp at hd
 obtain ⟨st,_,rfl⟩:=hd
 exact yR 97 st
@[simp] theorem KI (x:D) (st:St):bw x st.enc=true:=gi (yR 98 st)
@[simp] theorem IE (x:D) (L:List St):bw x (.lst (L.map St.enc))=true:=gi (BZ L)
end BT
end
section
namespace BT
open PySem
noncomputable def itr (p:Pg) (asked:List Int):Nat->St
 | 0=>St.zero
 | n+1=>step p asked (itr p asked n)
structure Run (p:Pg) (asked:List Int) (most e:Nat):Prop where
 le:e<=most
 on:∀ i,i < e->over p (itr p asked i)=false
 last:e=most\/over p (itr p asked e)=true
theorem yS (p:Pg) (asked:List Int):∀ (r j:Nat),∃ e,e<=r/\sts p asked r (itr p asked j)=(ND (e+1)).map (fun i=>itr p asked (j+i))/\(∀ i,i < e->over p (itr p asked (j+i))=false)/\(e=r\/over p (itr p asked (j+e))=true)
 | 0,j=>⟨0,Nu _,rfl,fun i hi=>absurd hi (QW _),.inl rfl⟩
 | r+1,j=>by
  rw[sts]
  by_cases c:over p (itr p asked j)=true
  ·rw[if_pos c]
   exact ⟨0,N5 _,rfl,fun i hi=>absurd hi (QW _),.inr c⟩
  ·rw[if_neg c]
   obtain ⟨e,h1,h2,h3,h4⟩:=yS p asked r (j+1)
   have c':over p (itr p asked j)=false:=by simpa using c
   refine ⟨e+1,by omega,?_,fun i hi=>?_,?_⟩
   ·show itr p asked j :: sts p asked r (itr p asked (j+1))=_
    rw[h2,QH (n:=e+1),NW,PD]
    congr 1
    apply Px
    intro i _
    show itr p asked (j+1+i)=itr p asked (j+(i+1))
    congr 1;omega
   ·cases i with
    | zero=>exact c'
    | succ i =>
     have:=h3 i (by omega)
     rw[show j+(i+1)=j+1+i by omega];exact this
   ·rcases h4 with h4 | h4
    ·exact .inl (by omega)
    ·exact .inr (by rw[show j+(e+1)=j+1+e by omega];exact h4)
theorem B0 (p:Pg) (asked:List Int) (most:Nat):∃ e,Run p asked most e/\sts p asked most St.zero=(ND (e+1)).map (itr p asked):=by
 obtain ⟨e,h1,h2,h3,h4⟩:=yS p asked most 0
 refine ⟨e,⟨h1,fun i hi=>by have:=h3 i hi;simpa using this,by simpa using h4⟩,?_⟩
 have:sts p asked most St.zero=sts p asked most (itr p asked 0):=rfl
 rw[this,h2]
 apply Px
 intro i _
 simp
theorem dN {p:Pg}{asked:List Int}{most e:Nat} (hp:Pg.ok p) (ha:Ask asked) (R:Run p asked most e):∀ i,i<=e->At i (itr p asked i)
 | 0,_=>BQ
 | i+1,h=>BU hp ha (dN hp ha R i (by omega)) (R.on i (by omega))
structure Tp where
 p:Pg
 asked:List Int
 gap:Nat
 most:Nat
 kept:List St
 far:Nat
 front:St
 now:Nat
noncomputable def Tp.fs (t:Tp) (r:Nat):List (Str×W):=[("program",.p (bC t.p)),("asked",.p (.lst (aa t.asked))),("gap",.p (.int t.gap)),("most",.p (.int t.most)),("kept",.r r),("farthest",.p (.int t.far)),("front",.p t.front.enc),("now",.p (.int t.now))]
section
variable (t:Tp) (r:Nat)
@[simp] theorem FH:bf "program" (t.fs r)=some (.p (bC t.p)):=by simp[Tp.fs]
@[simp] theorem IF:bf "asked" (t.fs r)=some (.p (.lst (aa t.asked))):=by simp[Tp.fs]
@[simp] theorem L4:bf "gap" (t.fs r)=some (.p (.int t.gap)):=by simp[Tp.fs]
@[simp] theorem KJ:bf "most" (t.fs r)=some (.p (.int t.most)):=by simp[Tp.fs]
@[simp] theorem B3:bf "kept" (t.fs r)=some (.r r):=by simp[Tp.fs]
@[simp] theorem L5:bf "farthest" (t.fs r)=some (.p (.int t.far)):=by simp[Tp.fs]
@[simp] theorem IG:bf "front" (t.fs r)=some (.p t.front.enc):=by simp[Tp.fs]
@[simp] theorem L6:bf "now" (t.fs r)=some (.p (.int t.now)):=by simp[Tp.fs]
@[simp] theorem L7:(t.fs r).length=8:=rfl
theorem B4 (v:Nat):br "gap" (.p (.int v)) (t.fs r)=({ t with gap:=v }:Tp).fs r:=by simp[Tp.fs]
theorem yT (r':Nat):br "kept" (.r r') (t.fs r)=t.fs r':=by simp[Tp.fs]
theorem B5 (v:Nat):br "farthest" (.p (.int v)) (t.fs r)=({ t with far:=v }:Tp).fs r:=by simp[Tp.fs]
theorem vG (v:St):br "front" (.p v.enc) (t.fs r)=({ t with front:=v }:Tp).fs r:=by simp[Tp.fs]
theorem bX {m:String} (h:(["program","asked","gap","most","kept","farthest","front","now"]:List String).contains m=false):bf m (t.fs r)=none:=by
 simp only[List.contains_cons,List.contains_nil,Ro,Bool.or_eq_false_iff,beq_eq_false_iff_ne,ne_eq] at h
 obtain ⟨h1,h2,h3,h4,h5,h6,h7,h8⟩:=h
 simp[Tp.fs,h1,h2,h3,h4,h5,h6,h7,h8]
end
structure TAt (h:HH) (n r:Nat) (t:Tp):Prop where
 ob:oat h n=some (NN "Tape",t.fs r)
 li:lat h r=some (t.kept.map St.enc)
theorem jE {h:HH}{n:Nat}{q:Str×List (Str×W)} (e:oat h n=some q):n < h.length:=by
 unfold oat at e
 rcases NK n h.length with z | z
 ·exact z
 ·rw[NF z] at e;cases e
theorem jF {h:HH}{n:Nat}{q:List D} (e:lat h n=some q):n < h.length:=by
 unfold lat at e
 rcases NK n h.length with z | z
 ·exact z
 ·rw[NF z] at e;cases e
theorem Dg {h:HH}{n r:Nat}{q:Str×List (Str×W)}{xs:List D} (e:oat h n=some q) (e':lat h r=some xs):n≠r:=by
 rintro rfl
 unfold oat at e
 unfold lat at e'
 cases g:h[n]? with
 | none=>rw[g] at e;cases e
 | some c=>rw[g] at e e';cases c<;>simp at e e'
theorem jm {h:HH}{n:Nat} (hn:n < h.length) (c:Cl):oat (h.set n c) n=o8 c:=by
 unfold oat;rw[OC hn];rfl
theorem lA {h:HH}{n i:Nat} (hn:i≠n) (c:Cl):oat (h.set n c) i=oat h i:=by
 unfold oat;rw[N9 (Os hn)]
theorem qa {h:HH}{n:Nat} (hn:n < h.length) (c:Cl):lat (h.set n c) n=nA c:=by
 unfold lat;rw[OC hn];rfl
theorem iN {h:HH}{n i:Nat} (hn:i≠n) (c:Cl):lat (h.set n c) i=lat h i:=by
 unfold lat;rw[N9 (Os hn)]
theorem yU {h h':HH}{i:Nat} (e:h'[i]?=h[i]?):lat h' i=lat h i:=by unfold lat;rw[e]
theorem yV {h h':HH}{i:Nat} (e:h'[i]?=h[i]?):oat h' i=oat h i:=by unfold oat;rw[e]
theorem B6 {h g:HH}{i:Nat} (hi:i < h.length):lat (h++g) i=lat h i:=yU (Ny hi)
theorem tQ {h g:HH}{i:Nat} (hi:i < h.length):oat (h++g) i=oat h i:=yV (Ny hi)
structure Go (n:Nat) (h:HH) (r:Nat) (t:Tp) (h':HH) (r':Nat) (t':Tp):Prop where
 a:TAt h n r t
 b:TAt h' n r' t'
 len:(h'.length=h.length/\r'=r)\/(h.length<=r')
 le:h.length<=h'.length
 fr:∀ i,i≠n->i≠r->i < h.length->h'[i]?=h[i]?
theorem Go.refl {n:Nat}{h:HH}{r:Nat}{t:Tp} (a:TAt h n r t):Go n h r t h r t:=⟨a,a,.inl ⟨rfl,rfl⟩,Nu _,fun _ _ _ _=>rfl⟩
theorem Go.trans {n:Nat}{h h1 h2:HH}{r r1 r2:Nat}{t t1 t2:Tp} (x:Go n h r t h1 r1 t1) (y:Go n h1 r1 t1 h2 r2 t2):Go n h r t h2 r2 t2:=by
 refine ⟨x.a,y.b,?_,Oj x.le y.le,fun i h1 h2 h3=>?_⟩
 ·rcases x.len with ⟨a1,a2⟩ | a1
  ·rcases y.len with ⟨b1,b2⟩ | b1
   ·exact .inl ⟨b1.trans a1,b2.trans a2⟩
   ·exact .inr (by omega)
  ·rcases y.len with ⟨b1,b2⟩ | b1
   ·exact .inr (by omega)
   ·exact .inr (by have:=x.le;omega)
 ·have:i≠r1:=by
   rcases x.len with ⟨a1,a2⟩ | a1
   ·rw[a2];exact h2
   ·omega
  rw[y.fr i h1 this (by have:=x.le;omega)]
  exact x.fr i h1 h2 h3
theorem cz {n:Nat}{h h':HH}{r r':Nat}{t t':Tp} (x:Go n h r t h' r' t') (w:W):fin h w h'=some (w,h'):=by
 unfold fin
 by_cases c:h'.length=h.length
 ·rw[if_pos c]
 ·rw[if_neg c]
  rw[if_neg]
  intro z
  rcases x.len with ⟨a1,a2⟩ | a1
  ·exact c a1
  ·have hn:=jE x.a.ob
   have e:h'[n]?=h[n]?:=by
    have q:=PF (l:=h') hn
    rw[z] at q
    exact q.symm
   have e2:oat h' n=oat h n:=yV e
   rw[x.a.ob,x.b.ob] at e2
   have e3:=congrArg (fun q:Option (Str×List (Str×W))=>q.bind fun y=>bf "kept" y.2) e2
   simp only[OJ,B3,Qe,W.r.injEq] at e3
   have:=jF x.a.li
   omega
end BT
end
section
namespace BT
open PySem
noncomputable def dH:Fn:=⟨["thing"],["thing"],
 (.ret (.and (.bi .isInt false (.cons (.var 0 "thing") .nil)) (.not (.bi .isBool false (.cons (.var 0 "thing") .nil)))))⟩
noncomputable def cR:Fn:=⟨["self","program","asked","every","most"],["self","program","asked","every","most"],
 (.seq (.setf (.var 0 "self") "program" (.var 1 "program"))
 (.seq (.setf (.var 0 "self") "asked" (.bi .list false (.cons (.var 2 "asked") .nil)))
 (.seq (.setf (.var 0 "self") "gap" (.bi .max2 false (.cons (.var 3 "every") (.cons (.cst (.int 1)) .nil))))
 (.seq (.setf (.var 0 "self") "most" (.bi .max2 false (.cons (.var 4 "most") (.cons (.cst (.int 0)) .nil))))
 (.seq (.setf (.var 0 "self") "kept" (.lst true (.cons (.call "begun" .nil) .nil)))
 (.seq (.setf (.var 0 "self") "farthest" (.cst (.int 0)))
 (.seq (.setf (.var 0 "self") "front" (.call "begun" .nil))
 (.setf (.var 0 "self") "now" (.cst (.int 0))))))))))⟩
noncomputable def eV:Fn:=⟨["self","moment"],["self","moment","state","step"],
 (.seq (.ex (.meth (.var 0 "self") "check" (.cons (.var 1 "moment") .nil)))
 (.seq (.set 2 "state" (.idx (.fld (.var 0 "self") "kept") (.bin .fdiv (.var 1 "moment") (.fld (.var 0 "self") "gap"))))
 (.seq (.for [(3,"step")] .rng1 (.cons (.bin .mod (.var 1 "moment") (.fld (.var 0 "self") "gap")) .nil) (.set 2 "state" (.meth (.var 0 "self") "behind" (.cons (.var 2 "state") .nil))))
 (.ret (.var 2 "state")))))⟩
noncomputable def dI:Fn:=⟨["self"],["self"],
 (.seq (.ex (.meth (.var 0 "self") "reach" (.cons (.fld (.var 0 "self") "most") .nil)))
 (.ret (.fld (.var 0 "self") "farthest")))⟩
noncomputable def bL:Fn:=⟨["self","state"],["self","state"],
 (.ret (.call "stepped" (.cons (.fld (.var 0 "self") "program") (.cons (.fld (.var 0 "self") "asked") (.cons (.var 1 "state") .nil)))))⟩
noncomputable def aT:Fn:=⟨["self","moment","state"],["self","moment","state"],
 (.ret (.or (.cmp .ge (.var 1 "moment") (.fld (.var 0 "self") "most")) (.call "is_over" (.cons (.fld (.var 0 "self") "program") (.cons (.var 2 "state") .nil)))))⟩
noncomputable def bN:Fn:=⟨["self","state"],["self","state"],
 (.seq (.ex (.me .append (.fld (.var 0 "self") "kept") (.cons (.var 1 "state") .nil)))
 (.ife (.cmp .gt (.bi .len false (.cons (.fld (.var 0 "self") "kept") .nil)) (.glo "MOST_MARKS")) (.seq (.setf (.var 0 "self") "kept" (.stp true 2 (.fld (.var 0 "self") "kept")))
 (.augf (.var 0 "self") "gap" .mul (.cst (.int 2)))) .nil))⟩
noncomputable def bT:Fn:=⟨["self","moment"],["self","moment"],
 (.whl (.and (.cmp .lt (.fld (.var 0 "self") "farthest") (.var 1 "moment")) (.not (.meth (.var 0 "self") "is_last" (.cons (.fld (.var 0 "self") "farthest") (.cons (.fld (.var 0 "self") "front") .nil))))) (.seq (.setf (.var 0 "self") "front" (.meth (.var 0 "self") "behind" (.cons (.fld (.var 0 "self") "front") .nil)))
 (.seq (.augf (.var 0 "self") "farthest" .add (.cst (.int 1)))
 (.ife (.cmp .eq (.bin .mod (.fld (.var 0 "self") "farthest") (.fld (.var 0 "self") "gap")) (.cst (.int 0))) (.ex (.meth (.var 0 "self") "keep" (.cons (.fld (.var 0 "self") "front") .nil))) .nil))))⟩
noncomputable def dJ:Fn:=⟨["self","moment"],["self","moment"],
 (.seq (.ife (.or (.not (.call "is_whole" (.cons (.var 1 "moment") .nil))) (.or (.cmp .lt (.var 1 "moment") (.cst (.int 0))) (.cmp .gt (.var 1 "moment") (.fld (.var 0 "self") "most")))) (.ret (.cst (.bl false))) .nil)
 (.seq (.ex (.meth (.var 0 "self") "reach" (.cons (.var 1 "moment") .nil)))
 (.ret (.cmp .le (.var 1 "moment") (.fld (.var 0 "self") "farthest")))))⟩
noncomputable def bU:Fn:=⟨["self","moment"],["self","moment"],
 (.ife (.not (.meth (.var 0 "self") "has" (.cons (.var 1 "moment") .nil))) .bad .nil)⟩
structure TpP (T:FK->Option Fn) (G:Str->Option W):Prop where
 prg:Prg T G
 is_whole:T "is_whole"=some dH
 init:T (.m "Tape" "__init__")=some cR
 behind:T (.m "Tape" "behind")=some bL
 is_last:T (.m "Tape" "is_last")=some aT
 keep:T (.m "Tape" "keep")=some bN
 reach:T (.m "Tape" "reach")=some bT
 has:T (.m "Tape" "has")=some dJ
 check:T (.m "Tape" "check")=some bU
 at_:T (.m "Tape" "at")=some eV
 MOST_MARKS:G "MOST_MARKS"=some (.p (.int 8))
section
variable {T:FK->Option Fn}{G:Str->Option W}
theorem oq (P:TpP T G) (k:Nat) (i:Int) (h:HH):runN T G (k+1) "is_whole" [.p (.int i)] h=some (.p (.bl true),h):=by
 rw[run_eq P.is_whole rfl]
 simp[dH,ah]
theorem eW (P:TpP T G) (k:Nat) {n r:Nat}{t:Tp}{h:HH} (a:TAt h n r t) (hp:Pg.ok t.p) {j:Nat}{st:St} (hj:j<=5000) (at_:At j st) (hb:over t.p st=false):runN T G (k+7) (.m "Tape" "behind") [.o n,.p st.enc] h=some (.p (step t.p t.asked st).enc,h):=by
 rw[run_eq P.behind rfl]
 have s:=p5 P.prg k t.p hp t.asked st at_.ok (at_.small hj) hb
 simp[bL,a.ob,s,ah]
theorem dM (P:TpP T G) (k:Nat) {n r:Nat}{t:Tp}{h:HH} (a:TAt h n r t) (mo:Nat) (st:St):runN T G (k+2) (.m "Tape" "is_last") [.o n,.p (.int mo),.p st.enc] h=some (.p (.bl (decide (t.most<=mo)||over t.p st)),h):=by
 rw[run_eq P.is_last rfl]
 have o:=pZ P.prg k t.p st
 by_cases c:t.most<=mo
 ·have c1:(t.most:Int)<=(mo:Int):=by omega
  simp[aT,a.ob,c,c1,ah]
 ·have c1:¬ (t.most:Int)<=(mo:Int):=by omega
  simp[aT,a.ob,o,c,c1,ah]
theorem yW:Rj (N4 none none (some 2) 9).1 (N4 none none (some 2) 9).2.1 (N4 none none (some 2) 9).2.2=[0,2,4,6,8]:=by decide +kernel
theorem FI (x0 x1 x2 x3 x4 x5 x6 x7 x8:D):pB 2 [x0,x1,x2,x3,x4,x5,x6,x7,x8]=[x0,x2,x4,x6,x8]:=by
 show (Rj (N4 none none (some 2) 9).1 (N4 none none (some 2) 9).2.1 (N4 none none (some 2) 9).2.2).filterMap _=_
 rw[yW];rfl
noncomputable def Tp.keep (t:Tp) (st:St):Tp:=if t.kept.length < 8 then { t with kept:=t.kept++[st] } else { t with kept:=(ND 5).filterMap fun i=>(t.kept++[st])[2*i]?,gap:=2*t.gap }
theorem yX (P:TpP T G) (k:Nat) {n r:Nat}{t:Tp}{h:HH} (a:TAt h n r t) (hg:t.gap<=100000) (hl:t.kept.length<=8) (st:St) :
 ∃ h' r',runN T G (k+1) (.m "Tape" "keep") [.o n,.p st.enc] h=some (.p .non,h')/\Go n h r t h' r' (t.keep st):=by
 have nr:=Dg a.ob a.li
 have hn:=jE a.ob
 have hr:=jF a.li
 have e1:lat (h.set r (Cl.l (t.kept.map St.enc++[st.enc]))) r=some (t.kept.map St.enc++[st.enc]):=qa hr _
 have e2:oat (h.set r (Cl.l (t.kept.map St.enc++[st.enc]))) n=some (NN "Tape",t.fs r):=(lA nr _).trans a.ob
 have l0:t.kept.length < 100000:=by omega
 by_cases c:t.kept.length < 8
 ·have c1:¬ (8:Int) < (t.kept.length:Int)+1:=by omega
  have go:Go n h r t (h.set r (Cl.l (t.kept.map St.enc++[st.enc]))) r (t.keep st):=by
   refine ⟨a,⟨?_,?_⟩,.inl ⟨by simp,rfl⟩,by simp,fun i h1 h2 h3=>N9 (Os h2)⟩
   ·rw[Tp.keep,if_pos c];exact e2
   ·rw[Tp.keep,if_pos c,e1];simp
  refine ⟨_,r,?_,go⟩
  rw[run_eq P.keep rfl]
  have f:=cz go (.p .non)
  simp[bN,a.ob,a.li,e1,e2,P.MOST_MARKS,rd,c1,l0,f]
 ·have c8:t.kept.length=8:=by omega
  obtain ⟨x0,x1,x2,x3,x4,x5,x6,x7,ek⟩:∃ x0 x1 x2 x3 x4 x5 x6 x7,t.kept=[x0,x1,x2,x3,x4,x5,x6,x7]:=by
   match t.kept,c8 with
   | [x0,x1,x2,x3,x4,x5,x6,x7],_=>exact ⟨x0,x1,x2,x3,x4,x5,x6,x7,rfl⟩
  have ev:pB 2 (t.kept.map St.enc++[st.enc])=((t.keep st).kept).map St.enc:=by
   rw[Tp.keep,if_neg c,ek]
   exact FI _ _ _ _ _ _ _ _ _
  have c1:(8:Int) < (t.kept.length:Int)+1:=by omega
  have e3:∀ g:HH,oat ((h.set r (Cl.l (t.kept.map St.enc++[st.enc])))++g) n=some (NN "Tape",t.fs r):=fun g=>(tQ (by simpa using hn)).trans e2
  have e4:(h.set r (Cl.l (t.kept.map St.enc++[st.enc]))).length=h.length:=by simp
  have b0:big (t.gap:Int)=true:=by unfold big;exact decide_eq_true (by omega)
  have go:Go n h r t ((h.set r (Cl.l (t.kept.map St.enc++[st.enc]))++[Cl.l ((t.keep st).kept.map St.enc)]).set n (.o "Tape" ((t.keep st).fs h.length))) h.length (t.keep st):=by
   have hn2:n < (h.set r (Cl.l (t.kept.map St.enc++[st.enc]))++[Cl.l ((t.keep st).kept.map St.enc)]).length:=by simp;omega
   refine ⟨a,⟨jm hn2 _,?_⟩,.inr (Nu _),by simp,fun i h1 h2 h3=>?_⟩
   ·rw[iN (Os (NV hn))]
    have:=L0 (h.set r (Cl.l (t.kept.map St.enc++[st.enc]))) (Cl.l ((t.keep st).kept.map St.enc)) []
    rw[e4] at this
    exact this
   ·rw[N9 (Os h1),Ny (by simpa using h3),N9 (Os h2)]
  refine ⟨_,_,?_,go⟩
  rw[run_eq P.keep rfl]
  have f:=cz go (.p .non)
  have k2:(t.keep st).fs h.length=({ t with gap:=2*t.gap }:Tp).fs h.length:=by
   rw[Tp.keep,if_neg c];rfl
  have pk:br "gap" (.p (.int ((t.gap:Int)*2))) (t.fs h.length)=(t.keep st).fs h.length:=by
   rw[k2,← B4 t h.length (2*t.gap)]
   congr 3
   show (t.gap:Int)*2=((2*t.gap:Nat):Int)
   omega
  have hn2:n < (h.set r (Cl.l (t.kept.map St.enc++[st.enc]))++[Cl.l ((t.keep st).kept.map St.enc)]).length:=by simp;omega
  have e5:=jm hn2 (.o "Tape" (t.fs h.length))
  rw[D6] at e5
  have s2:∀ x y:Cl,((h.set r (Cl.l (t.kept.map St.enc++[st.enc]))++[Cl.l ((t.keep st).kept.map St.enc)]).set n x).set n y=(h.set r (Cl.l (t.kept.map St.enc++[st.enc]))++[Cl.l ((t.keep st).kept.map St.enc)]).set n y:=fun x y=>by rw[SW]
  simp[bN,a.ob,a.li,e1,e2,e3,e4,P.MOST_MARKS,rd,c1,l0,ev,yT,e5,b0,pk,s2,f]
end
end BT
end
section
namespace BT
open PySem
structure TI (t:Tp) (e ev:Nat):Prop where
 run:Run t.p t.asked t.most e
 ok:Pg.ok t.p
 ask:Ask t.asked
 g0:0 < t.gap
 g1:t.gap<=1000
 m1:t.most<=1000
 far:t.far<=e
 front:t.front=itr t.p t.asked t.far
 len:t.kept.length=t.far / t.gap+1
 l8:t.kept.length<=8
 kept:∀ j,j < t.kept.length->t.kept[j]?=some (itr t.p t.asked (j*t.gap))
 now:t.now<=t.far
 pw:∃ j,t.gap=ev*2 ^ j/\(0 < j->8<=t.far / (t.gap / 2))
structure Sm8 (t t':Tp):Prop where
 p:t'.p=t.p
 asked:t'.asked=t.asked
 most:t'.most=t.most
 now:t'.now=t.now
theorem Sm8.refl (t:Tp):Sm8 t t:=⟨rfl,rfl,rfl,rfl⟩
theorem Sm8.trans {t u v:Tp} (x:Sm8 t u) (y:Sm8 u v):Sm8 t v:=⟨y.p.trans x.p,y.asked.trans x.asked,y.most.trans x.most,y.now.trans x.now⟩
noncomputable def Tp.on (t:Tp):Tp:={ t with front:=step t.p t.asked t.front,far:=t.far+1 }
noncomputable def Tp.nx (t:Tp):Tp:=if (t.far+1) % t.gap=0 then t.on.keep t.on.front else t.on
theorem yY {f g:Nat} (hg:0 < g) (c:¬ (f+1) % g=0):(f+1) / g=f / g:=by
 have h1:=QX f g
 have h2:f % g < g:=QY _ hg
 have e:f+1=g*(f / g)+(f % g+1):=by omega
 have h3:f % g+1 < g:=by
  rcases NK (f % g+1) g with z | z
  ·exact z
  ·exfalso;apply c
   have:f % g+1=g:=by omega
   rw[e,this,Nat.mul_add_mod,Nat.mod_self]
 rw[e,Nat.mul_add_div hg,Nat.div_eq_of_lt h3];omega
theorem yZ {f g:Nat} (hg:0 < g) (c:(f+1) % g=0):(f+1) / g=f / g+1/\(f / g+1)*g=f+1:=by
 have h1:=QX f g
 have h2:f % g < g:=QY _ hg
 have h3:f % g+1=g:=by
  rcases NK (f % g+1) g with z | z
  ·exfalso
   have e:f+1=g*(f / g)+(f % g+1):=by omega
   rw[e,Nat.mul_add_mod,Nat.mod_eq_of_lt z] at c
   omega
  ·omega
 have e:f+1=(f / g+1)*g:=by rw[Nat.add_mul,PJ (f / g) g];omega
 exact ⟨by rw[e,Rr _ hg],e.symm⟩
theorem TI.nx {t:Tp}{e ev:Nat} (I:TI t e ev) (h:t.far < e):TI t.nx e ev/\Sm8 t t.nx/\t.nx.far=t.far+1:=by
 have g0:=I.g0
 have hf:step t.p t.asked t.front=itr t.p t.asked (t.far+1):=by rw[I.front];rfl
 have mono:∀ g:Nat,t.far / g<=(t.far+1) / g:=fun g=>Q0 (Ox _)
 unfold Tp.nx
 by_cases c:(t.far+1) % t.gap=0
 ·rw[if_pos c]
  obtain ⟨d1,d2⟩:=yZ g0 c
  have hfr:t.on.front=itr t.p t.asked (t.far+1):=hf
  have kp:∀ j,j < t.kept.length+1->(t.kept++[itr t.p t.asked (t.far+1)])[j]?=some (itr t.p t.asked (j*t.gap)):=fun j hj=>by
   rcases NK j t.kept.length with z | z
   ·rw[Ny z];exact I.kept j z
   ·have ej:j=t.kept.length:=by omega
    subst ej
    rw[NY (Nu _),Nat.sub_self]
    have:t.kept.length*t.gap=t.far+1:=by rw[I.len];exact d2
    rw[this];rfl
  unfold Tp.keep
  by_cases c2:t.kept.length < 8
  ·have c2':t.on.kept.length < 8:=c2
   rw[if_pos c2']
   refine ⟨⟨I.run,I.ok,I.ask,g0,I.g1,I.m1,h,hf,?_,?_,fun j hj=>?_,?_,?_⟩,⟨rfl,rfl,rfl,rfl⟩,rfl⟩
   ·show (t.kept++[t.on.front]).length=(t.far+1) / t.gap+1
    rw[d1,NT,I.len];rfl
   ·show (t.kept++[t.on.front]).length<=8
    rw[NT];simp;omega
   ·have hj':j < t.kept.length+1:=by
     have:(t.kept++[t.on.front]).length=t.kept.length+1:=by simp
     rw[← this];exact hj
    show (t.kept++[t.on.front])[j]?=some (itr t.p t.asked (j*t.gap))
    rw[hfr];exact kp j hj'
   ·show t.now<=t.far+1;have:=I.now;omega
   ·obtain ⟨j,h1,h2⟩:=I.pw
    exact ⟨j,h1,fun hj=>Oj (h2 hj) (mono _)⟩
  ·have c2':¬ t.on.kept.length < 8:=c2
   rw[if_neg c2']
   have l8:t.kept.length=8:=by have:=I.l8;omega
   have f8:t.far+1=8*t.gap:=by rw[← d2,← I.len,l8]
   have le:=I.run.le
   have m1:=I.m1
   have hk:∀ i,i < 5->(t.kept++[itr t.p t.asked (t.far+1)])[2*i]?=some (itr t.p t.asked (i*(2*t.gap))):=fun i hi=>by
    rw[kp (2*i) (by omega)]
    congr 2
    rw[PJ 2 i,Nat.mul_assoc]
   have ek:(ND 5).filterMap (fun i=>(t.kept++[t.on.front])[2*i]?)=(ND 5).map fun i=>itr t.p t.asked (i*(2*t.gap)):=by
    rw[hfr,show ND 5=[0,1,2,3,4] from rfl]
    simp only[N3,List.filterMap_nil,hk 0 (by decide),hk 1 (by decide),hk 2 (by decide),hk 3 (by decide),hk 4 (by decide),NW,Pi]
   have dv:(t.far+1) / (2*t.gap)=4:=by
    rw[f8,show 8*t.gap=4*(2*t.gap) by omega]
    exact Rr _ (by omega)
   refine ⟨⟨I.run,I.ok,I.ask,?_,?_,I.m1,h,hf,?_,?_,fun j hj=>?_,?_,?_⟩,⟨rfl,rfl,rfl,rfl⟩,rfl⟩
   ·show 0 < 2*t.gap;omega
   ·show 2*t.gap<=1000;omega
   ·show ((ND 5).filterMap fun i=>(t.kept++[t.on.front])[2*i]?).length=(t.far+1) / (2*t.gap)+1
    rw[ek,dv];simp
   ·show ((ND 5).filterMap fun i=>(t.kept++[t.on.front])[2*i]?).length<=8
    rw[ek];simp
   ·have hj':j < 5:=by
     have q:j < ((ND 5).filterMap fun i=>(t.kept++[t.on.front])[2*i]?).length:=hj
     rw[ek] at q;simpa using q
    show ((ND 5).filterMap fun i=>(t.kept++[t.on.front])[2*i]?)[j]?=some (itr t.p t.asked (j*(2*t.gap)))
    rw[ek,N1,Qh hj'];rfl
   ·show t.now<=t.far+1;have:=I.now;omega
   ·obtain ⟨j,h1,h2⟩:=I.pw
    refine ⟨j+1,?_,fun _=>?_⟩
    ·show 2*t.gap=ev*2 ^ (j+1)
     rw[h1,Nat.pow_succ];rw[PJ 2,Nat.mul_assoc]
    ·show 8<=(t.far+1) / (2*t.gap / 2)
     rw[Nat.mul_div_cancel_left _ (by omega:0 < 2),f8,Rr _ g0]
     exact Nu _
 ·rw[if_neg c]
  refine ⟨⟨I.run,I.ok,I.ask,g0,I.g1,I.m1,h,hf,?_,I.l8,I.kept,?_,?_⟩,⟨rfl,rfl,rfl,rfl⟩,rfl⟩
  ·show t.kept.length=(t.far+1) / t.gap+1
   rw[I.len,yY g0 c]
  ·show t.now<=t.far+1;have:=I.now;omega
  ·obtain ⟨j,h1,h2⟩:=I.pw
   exact ⟨j,h1,fun hj=>Oj (h2 hj) (mono _)⟩
section
variable {T:FK->Option Fn}{G:Str->Option W}
noncomputable def rcC:E:=(.and (.cmp .lt (.fld (.var 0 "self") "farthest") (.var 1 "moment")) (.not (.meth (.var 0 "self") "is_last" (.cons (.fld (.var 0 "self") "farthest") (.cons (.fld (.var 0 "self") "front") .nil)))))
noncomputable def rcB:S:=(.seq (.setf (.var 0 "self") "front" (.meth (.var 0 "self") "behind" (.cons (.fld (.var 0 "self") "front") .nil)))
 (.seq (.augf (.var 0 "self") "farthest" .add (.cst (.int 1)))
 (.ife (.cmp .eq (.bin .mod (.fld (.var 0 "self") "farthest") (.fld (.var 0 "self") "gap")) (.cst (.int 0))) (.ex (.meth (.var 0 "self") "keep" (.cons (.fld (.var 0 "self") "front") .nil))) .nil)))
theorem dS (t:Tp) (r:Nat):bf "is_last" (t.fs r)=none:=bX t r rfl
theorem fM (t:Tp) (r:Nat):bf "behind" (t.fs r)=none:=bX t r rfl
theorem FJ (t:Tp) (r:Nat):bf "keep" (t.fs r)=none:=bX t r rfl
theorem tR (t:Tp) (r:Nat):bf "reach" (t.fs r)=none:=bX t r rfl
theorem II (t:Tp) (r:Nat):bf "has" (t.fs r)=none:=bX t r rfl
theorem tS (t:Tp) (r:Nat):bf "check" (t.fs r)=none:=bX t r rfl
theorem y9 (t:Tp) (r:Nat):bf "at" (t.fs r)=none:=bX t r rfl
theorem IJ (t:Tp) (r:Nat):bf "end" (t.fs r)=none:=bX t r rfl
theorem IK {n r:Nat}{t:Tp}{h:HH} (a:TAt h n r t) (t':Tp) (k:t'.kept=t.kept):Go n h r t (h.set n (.o "Tape" (t'.fs r))) r t':=by
 have hn:=jE a.ob
 have nr:=Dg a.ob a.li
 exact ⟨a,⟨jm hn _,by rw[iN (Os nr),k];exact a.li⟩,.inl ⟨by simp,rfl⟩,by simp,fun i h1 _ _=>N9 (Os h1)⟩
theorem B7 (P:TpP T G) (k:Nat) {n r:Nat}{t:Tp}{h:HH}{e ev:Nat} (a:TAt h n r t) (I:TI t e ev) (hl:t.far < e) (w:W) :
 ∃ h' r',evS (runN T G (k+7)) G rcB [some (.o n),some w] h=some (.nx [some (.o n),some w] h')/\Go n h r t h' r' t.nx:=by
 have hn:=jE a.ob
 have atf:=dN I.ok I.ask I.run t.far (by omega)
 have le:=I.run.le
 have m1:=I.m1
 have bh:=eW P k a I.ok (j:=t.far) (st:=t.front) (by omega) (by rw[I.front];exact atf) (by rw[I.front];exact I.run.on _ hl)
 have go1:=IK a t.on rfl
 have e1:oat (h.set n (.o "Tape" (({ t with front:=step t.p t.asked t.front }:Tp).fs r))) n=some (NN "Tape",({ t with front:=step t.p t.asked t.front }:Tp).fs r):=jm hn _
 have pf:=vG t r (step t.p t.asked t.front)
 have pa:br "farthest" (.p (.int ((t.far:Int)+1))) (({ t with front:=step t.p t.asked t.front }:Tp).fs r)=t.on.fs r:=B5 ({ t with front:=step t.p t.asked t.front }:Tp) r (t.far+1)
 have e2:oat (h.set n (.o "Tape" (t.on.fs r))) n=some (NN "Tape",t.on.fs r):=jm hn _
 have g0:(0:Int) < (t.gap:Int):=by have:=I.g0;omega
 have s2:∀ x y:Cl,(h.set n x).set n y=h.set n y:=fun x y=>by rw[SW]
 have of:t.on.far=t.far+1:=rfl
 have og:t.on.gap=t.gap:=rfl
 have pre:evS (runN T G (k+7)) G rcB [some (.o n),some w] h=evS (runN T G (k+7)) G (.ife (.cmp .eq (.bin .mod (.fld (.var 0 "self") "farthest") (.fld (.var 0 "self") "gap")) (.cst (.int 0))) (.ex (.meth (.var 0 "self") "keep" (.cons (.fld (.var 0 "self") "front") .nil))) .nil) [some (.o n),some w] (h.set n (.o "Tape" (t.on.fs r))):=by
  rw[rcB]
  simp[a.ob,bh,fM,pf,e1,pa,s2]
 rw[pre]
 unfold Tp.nx
 have cm:(((t.far+1) % t.gap:Nat):Int)=((t.far:Int)+1) % (t.gap:Int):=by simp
 by_cases c:(t.far+1) % t.gap=0
 ·rw[if_pos c]
  have c1:((t.far:Int)+1) % (t.gap:Int)=0:=by omega
  obtain ⟨h2,r2,k1,k2⟩:=yX P (k+6) go1.b (by show t.gap<=100000;have:=I.g1;omega) (by show t.kept.length<=8;exact I.l8) t.on.front
  refine ⟨h2,r2,?_,go1.trans k2⟩
  simp[e2,of,og,g0,I.g0,c1,FJ,k1]
 ·rw[if_neg c]
  have c1:¬ ((t.far:Int)+1) % (t.gap:Int)=0:=by omega
  refine ⟨_,r,?_,go1⟩
  have c2:(((t.far:Int)+1) % (t.gap:Int)==0)=false:=by simpa using c1
  simp[e2,of,og,g0,I.g0,c2]
theorem oz (P:TpP T G) (k:Nat) {n r:Nat}{t:Tp}{h:HH}{e ev:Nat} (a:TAt h n r t) (I:TI t e ev) (m:Nat) :
 BT.ev (runN T G (k+7)) G rcC [some (.o n),some (.p (.int m))] h=some (.p (.bl (decide (t.far < min m e))),h):=by
 have il:=dM P (k+5) a t.far t.front
 have le:=I.run.le
 by_cases c:t.far < m
 ·have c1:(t.far:Int) < (m:Int):=by omega
  by_cases c2:t.far < e
  ·have o:over t.p t.front=false:=by rw[I.front];exact I.run.on _ c2
   have q:(decide (t.most<=t.far)||over t.p t.front)=false:=by
    rw[o,Ro];exact decide_eq_false (by omega)
   rw[q] at il
   have d:decide (t.far < min m e)=true:=decide_eq_true (by omega)
   rw[d]
   simp[rcC,a.ob,c1,c,dS,il]
  ·have fe:t.far=e:=by have:=I.far;omega
   have q:(decide (t.most<=t.far)||over t.p t.front)=true:=by
    rcases I.run.last with z | z
    ·rw[decide_eq_true (by omega)];rfl
    ·rw[I.front,fe,z,Bool.or_true]
   rw[q] at il
   have d:decide (t.far < min m e)=false:=decide_eq_false (by omega)
   rw[d]
   simp[rcC,a.ob,c1,c,dS,il]
 ·have c1:¬ (t.far:Int) < (m:Int):=by omega
  have d:decide (t.far < min m e)=false:=decide_eq_false (by omega)
  rw[d]
  simp[rcC,a.ob,c1,c]
theorem B8 (P:TpP T G) (k:Nat) (n:Nat) (e ev m:Nat):∀ (d f:Nat) (h:HH) (r:Nat) (t:Tp),TAt h n r t->TI t e ev->min m e - t.far<=d->d<=f →
 ∃ h' r' t',aZ (BT.ev (runN T G (k+7)) G rcC) (evS (runN T G (k+7)) G rcB) (f+1) [some (.o n),some (.p (.int m))] h=some (.nx [some (.o n),some (.p (.int m))] h')/\Go n h r t h' r' t'/\TI t' e ev/\Sm8 t t'/\t'.far=max t.far (min m e):=by
 intro d
 induction d with
 | zero =>
  intro f h r t a I hd hf
  have q:=oz P k a I m
  rw[decide_eq_false (by omega)] at q
  refine ⟨h,r,t,?_,.refl a,I,.refl t,by omega⟩
  rw[aZ,q,c5,gq]
 | succ d ih =>
  intro f h r t a I hd hf
  by_cases c:t.far < min m e
  ·have q:=oz P k a I m
   rw[decide_eq_true c] at q
   obtain ⟨h1,r1,b1,g1⟩:=B7 P k a I (by omega) (.p (.int m))
   obtain ⟨I1,s1,f1⟩:=I.nx (by omega)
   cases f with
   | zero=>omega
   | succ f =>
    obtain ⟨h2,r2,t2,b2,g2,I2,s2,f2⟩:=ih f h1 r1 t.nx g1.b I1 (by omega) (by omega)
    refine ⟨h2,r2,t2,?_,g1.trans g2,I2,s1.trans s2,by omega⟩
    rw[aZ,q,c5,iB,b1,cJ,b2]
  ·have q:=oz P k a I m
   rw[decide_eq_false c] at q
   refine ⟨h,r,t,?_,.refl a,I,.refl t,by omega⟩
   rw[aZ,q,c5,gq]
theorem qc:bT=⟨["self","moment"],["self","moment"],.whl rcC rcB⟩:=rfl
theorem mZ (P:TpP T G) (k:Nat) {n r:Nat}{t:Tp}{h:HH}{e ev:Nat} (a:TAt h n r t) (I:TI t e ev) (m:Nat) :
 ∃ h' r' t',runN T G (k+8) (.m "Tape" "reach") [.o n,.p (.int m)] h=some (.p .non,h')/\Go n h r t h' r' t'/\TI t' e ev/\Sm8 t t'/\t'.far=max t.far (min m e):=by
 have le:=I.run.le
 have m1:=I.m1
 obtain ⟨h',r',t',b,g,I',s,f⟩:=B8 P k n e ev m 99999 99999 h r t a I (by omega) (Nu _)
 refine ⟨h',r',t',?_,g,I',s,f⟩
 rw[run_eq P.reach rfl,qc]
 have fn:=cz g (.p .non)
 simp[turns,b,fn]
theorem B9 (P:TpP T G) (k:Nat) {n r:Nat}{t:Tp}{h:HH}{e ev:Nat} (a:TAt h n r t) (I:TI t e ev) (m:Nat) (hm:m<=t.most) :
 ∃ h' r' t',runN T G (k+9) (.m "Tape" "has") [.o n,.p (.int m)] h=some (.p (.bl (decide (m<=e))),h')/\Go n h r t h' r' t'/\TI t' e ev/\Sm8 t t'/\t'.far=max t.far (min m e):=by
 obtain ⟨h',r',t',b,g,I',s,f⟩:=mZ P k a I m
 refine ⟨h',r',t',?_,g,I',s,f⟩
 rw[run_eq P.has rfl]
 have w:=oq P (k+7) m
 have c1:¬ ((m:Int) < 0):=by omega
 have c2:¬ ((t.most:Int) < (m:Int)):=by omega
 have fn:=fun w=>cz g w
 have far:=I.far
 have d:decide ((m:Int)<=(t'.far:Int))=decide (m<=e):=by
  by_cases c:m<=e
  ·rw[decide_eq_true c];exact decide_eq_true (by omega)
  ·rw[decide_eq_false c];exact decide_eq_false (by omega)
 simp[dJ,w,c1,a.ob,c2,tR,b,g.b.ob,fn]
 simpa using d
theorem m6 (P:TpP T G) (k:Nat) {n r:Nat}{t:Tp}{h:HH}{e ev:Nat} (a:TAt h n r t) (I:TI t e ev) (m:Nat) (hm:m<=e) :
 ∃ h' r' t',runN T G (k+10) (.m "Tape" "check") [.o n,.p (.int m)] h=some (.p .non,h')/\Go n h r t h' r' t'/\TI t' e ev/\Sm8 t t'/\t'.far=max t.far m:=by
 obtain ⟨h',r',t',b,g,I',s,f⟩:=B9 P k a I m (Oj hm I.run.le)
 rw[decide_eq_true hm] at b
 refine ⟨h',r',t',?_,g,I',s,by omega⟩
 rw[run_eq P.check rfl]
 have fn:=cz g (.p .non)
 simp[bU,a.ob,II,b,fn]
noncomputable def atB:S:=(.set 2 "state" (.meth (.var 0 "self") "behind" (.cons (.var 2 "state") .nil)))
theorem tT (P:TpP T G) (k:Nat) {n r:Nat}{t:Tp}{h:HH}{e ev:Nat} (a:TAt h n r t) (I:TI t e ev) (w1:W):∀ (q j:Nat) (x:Option W) (lo:Int),j+q<=e →
 ∃ x',bK (evS (runN T G (k+7)) G atB) [(3,"step")] (upto lo q) [some (.o n),some w1,some (.p (itr t.p t.asked j).enc),x] h=some (.nx [some (.o n),some w1,some (.p (itr t.p t.asked (j+q)).enc),x'] h)
 | 0,j,x,lo,_=>⟨x,rfl⟩
 | q+1,j,x,lo,hj=>by
  have le:=I.run.le
  have m1:=I.m1
  obtain ⟨x',b⟩:=tT P k a I w1 q (j+1) (some (.p (.int lo))) (lo+1) (by omega)
  refine ⟨x',?_⟩
  have bh:=eW P k a I.ok (j:=j) (st:=itr t.p t.asked j) (by omega) (dN I.ok I.ask I.run j (by omega)) (I.run.on j (by omega))
  have up:upto lo (q+1)=.int lo :: upto (lo+1) q:=by
   unfold upto
   rw[QH,NW,PD]
   simp only[QI,Int.add_zero,PZ,true_and]
   apply Px
   intro i _
   simp;omega
  rw[up]
  have s1:step t.p t.asked (itr t.p t.asked j)=itr t.p t.asked (j+1):=rfl
  rw[s1] at bh
  have ej:j+1+q=j+(q+1):=by omega
  rw[ej] at b
  have hb:evS (runN T G (k+7)) G atB [some (.o n),some w1,some (.p (itr t.p t.asked j).enc),some (.p (.int lo))] h=some (.nx [some (.o n),some w1,some (.p (itr t.p t.asked (j+1)).enc),some (.p (.int lo))] h):=by
   simp[atB,a.ob,fM,bh]
  simp[hb,b]
theorem za:eV=⟨["self","moment"],["self","moment","state","step"],(.seq (.ex (.meth (.var 0 "self") "check" (.cons (.var 1 "moment") .nil)))
 (.seq (.set 2 "state" (.idx (.fld (.var 0 "self") "kept") (.bin .fdiv (.var 1 "moment") (.fld (.var 0 "self") "gap"))))
 (.seq (.for [(3,"step")] .rng1 (.cons (.bin .mod (.var 1 "moment") (.fld (.var 0 "self") "gap")) .nil) atB)
 (.ret (.var 2 "state")))))⟩:=rfl
theorem oA (P:TpP T G) (k:Nat) {n r:Nat}{t:Tp}{h:HH}{e ev:Nat} (a:TAt h n r t) (I:TI t e ev) (m:Nat) (hm:m<=e) :
 ∃ h' r' t',runN T G (k+11) (.m "Tape" "at") [.o n,.p (.int m)] h=some (.p (itr t.p t.asked m).enc,h')/\Go n h r t h' r' t'/\TI t' e ev/\Sm8 t t'/\t'.far=max t.far m:=by
 obtain ⟨h',r',t',b,g,I',s,f⟩:=m6 P k a I m hm
 refine ⟨h',r',t',?_,g,I',s,f⟩
 rw[run_eq P.at_ rfl,za]
 have fn:=fun w=>cz g w
 have g0:=I'.g0
 have g1:=I'.g1
 have dm:=QX m t'.gap
 have md:=QY m g0
 have hq:m / t'.gap < t'.kept.length:=by
  rw[I'.len]
  have:m / t'.gap<=t'.far / t'.gap:=Q0 (by omega)
  omega
 have hk:=I'.kept _ hq
 have le:=I'.run.le
 have m1:=I'.m1
 rw[s.p,s.asked] at hk
 have gz:(0:Int) < (t'.gap:Int):=by omega
 have gm:(t'.gap:Int) < 1073741824:=by omega
 have e1:(m:Int) / (t'.gap:Int)=((m / t'.gap:Nat):Int):=by simp
 have e2:(m:Int) % (t'.gap:Int)=((m % t'.gap:Nat):Int):=by simp
 have ix:bM (.lst (t'.kept.map St.enc)) (.int ((m / t'.gap:Nat):Int))=some (itr t.p t.asked (m / t'.gap*t'.gap)).enc:=by
  show atP _ _=_
  rw[j9,N1,hk];rfl
 obtain ⟨x',lp⟩:=tT P (k+3) g.b I' (.p (.int m)) (m % t'.gap) (m / t'.gap*t'.gap) none 0 (by rw[PJ];omega)
 rw[s.p,s.asked] at lp
 have em:m / t'.gap*t'.gap+m % t'.gap=m:=by rw[PJ];exact dm
 rw[em] at lp
 have rg:dZ .rng1 [.int ((m % t'.gap:Nat):Int)]=some (upto 0 (m % t'.gap)):=by
  rw[bE]
  have c:((-100000<=(((m % t'.gap:Nat):Int)):Bool)&&(((m % t'.gap:Nat):Int)<=100000:Bool))=true:=by
   simp only[Nt,decide_eq_true_eq];omega
  rw[if_pos c];rfl
 simp[-bH,-bE,-Int.natCast_ediv,-Int.natCast_emod,a.ob,tS,b,g.b.ob,g.b.li,rd,gz,g0,gm,e1,e2,ix,rg,gn,lp,fn]
end
end BT
end
section
namespace BT
open PySem
section
variable {T:FK->Option Fn}{G:Str->Option W}
theorem zb {h h':HH} (i:Nat) (hi:i < h.length) (ne:h'[i]?≠h[i]?) (w:W):fin h w h'=some (w,h'):=by
 unfold fin
 by_cases c:h'.length=h.length
 ·rw[if_pos c]
 ·rw[if_neg c,if_neg]
  intro z
  apply ne
  have q:=PF (l:=h') hi
  rw[z] at q
  exact q.symm
noncomputable def Tp.new (p:Pg) (asked:List Int) (ev most:Nat):Tp:=⟨p,asked,ev,most,[St.zero],0,St.zero,0⟩
theorem zc (P:TpP T G) (k:Nat) (p:Pg) (asked:List Int) (ev most:Nat) (hv:1<=ev) (h:HH) :
 runN T G (k+2) (.m "Tape" "__init__") [.o h.length,.p (bC p),.p (.lst (aa asked)),.p (.int ev),.p (.int most)] (h++[.o "Tape" []])=some (.p .non,h++[.o "Tape" ((Tp.new p asked ev most).fs (h.length+1)),.l [St.zero.enc]]):=by
 rw[run_eq P.init rfl]
 have b:=vB P.prg k
 have c0:(if (1:Int) > (ev:Int) then (1:Int) else (ev:Int))=(ev:Int):=if_neg (by omega)
 have c1:(if (0:Int) > (most:Int) then (0:Int) else (most:Int))=(most:Int):=if_neg (by omega)
 have f:∀ (c:Cl) (g:HH) (w:W),c≠.o "Tape" []->fin (h++[.o "Tape" []]) w (h++c :: g)=some (w,h++c :: g):=fun c g w hc=>by
  refine zb h.length (by simp) ?_ w
  simp
  exact hc
 have f2:=f (.o "Tape" ((Tp.new p asked ev most).fs (h.length+1))) [.l [St.zero.enc]] (.p .non) (by simp[Tp.fs])
 have fs:(Tp.new p asked ev most).fs (h.length+1)=([("program",.p (bC p)),("asked",.p (.lst (aa asked))),("gap",.p (.int ev)),("most",.p (.int most)),("kept",.r (h.length+1)),("farthest",.p (.int 0)),("front",.p St.zero.enc),("now",.p (.int 0))]:List (Str×W)):=by simp[Tp.fs,Tp.new]
 rw[fs] at f2 ⊢
 rw[cR]
 simp only[fy,NW,Pi,NS,Ow]
 simp[c0,c1,b,f2]
theorem FM {p:Pg}{asked:List Int}{ev most e:Nat} (hp:Pg.ok p) (ha:Ask asked) (R:Run p asked most e) (h1:1<=ev) (h2:ev<=1000) (h3:most<=1000):TI (Tp.new p asked ev most) e ev :=
 ⟨R,hp,ha,h1,h2,h3,N5 _,rfl,by simp[Tp.new],by simp[Tp.new],fun j hj=>by
  have:j=0:=by simpa [Tp.new] using hj
  subst this
  simp[Tp.new,itr],N5 _,⟨0,by simp[Tp.new],fun z=>absurd z (OZ _)⟩⟩
theorem FN (h:HH) (p:Pg) (asked:List Int) (ev most:Nat):TAt (h++[.o "Tape" ((Tp.new p asked ev most).fs (h.length+1)),.l [St.zero.enc]]) h.length (h.length+1) (Tp.new p asked ev most) :=
 ⟨by simp,by simp[Tp.new]⟩
theorem TAt.app {h g:HH}{n r:Nat}{t:Tp} (a:TAt h n r t):TAt (h++g) n r t:=⟨(tQ (jE a.ob)).trans a.ob,(B6 (jF a.li)).trans a.li⟩
end
end BT
end
section
namespace BT
open PySem
noncomputable def ffC:E:=(.not (.callv 2 "test" (.cons (.var 3 "state") .nil)))
noncomputable def ffB:S:=(.seq (.ife (.meth (.var 0 "self") "is_last" (.cons (.var 1 "moment") (.cons (.var 3 "state") .nil))) (.ret (.cst .non)) .nil)
 (.seq (.set 3 "state" (.meth (.var 0 "self") "behind" (.cons (.var 3 "state") .nil)))
 (.aug 1 "moment" .add (.cst (.int 1)))))
noncomputable def aO:Fn:=⟨["self","moment","test"],["self","moment","test","state"],
 (.seq (.set 3 "state" (.meth (.var 0 "self") "at" (.cons (.var 1 "moment") .nil)))
 (.seq (.whl ffC ffB)
 (.ret (.var 1 "moment"))))⟩
noncomputable def ltC:E:=(.and (.cmp .isN (.var 3 "found") (.cst .non)) (.cmp .ge (.var 1 "moment") (.cst (.int 0))))
noncomputable def ltB:S:=(.seq (.set 4 "mark" (.bin .sub (.var 1 "moment") (.bin .mod (.var 1 "moment") (.fld (.var 0 "self") "gap"))))
 (.seq (.set 3 "found" (.meth (.var 0 "self") "last_between" (.cons (.var 4 "mark") (.cons (.var 1 "moment") (.cons (.var 2 "test") .nil)))))
 (.set 1 "moment" (.bin .sub (.var 4 "mark") (.cst (.int 1))))))
noncomputable def bD:Fn:=⟨["self","moment","test"],["self","moment","test","found","mark"],
 (.seq (.ex (.meth (.var 0 "self") "check" (.cons (.var 1 "moment") .nil)))
 (.seq (.set 3 "found" (.cst .non))
 (.seq (.whl ltC ltB)
 (.ret (.var 3 "found")))))⟩
noncomputable def lbB:S:=(.seq (.ife (.cmp .gt (.var 6 "number") (.var 1 "mark")) (.set 4 "state" (.meth (.var 0 "self") "behind" (.cons (.var 4 "state") .nil))) .nil)
 (.ife (.callv 3 "test" (.cons (.var 4 "state") .nil)) (.set 5 "found" (.var 6 "number")) .nil))
noncomputable def aH:Fn:=⟨["self","mark","moment","test"],["self","mark","moment","test","state","found","number"],
 (.seq (.set 4 "state" (.idx (.fld (.var 0 "self") "kept") (.bin .fdiv (.var 1 "mark") (.fld (.var 0 "self") "gap"))))
 (.seq (.set 5 "found" (.cst .non))
 (.seq (.for [(6,"number")] .rng2 (.cons (.var 1 "mark") (.cons (.bin .add (.var 2 "moment") (.cst (.int 1))) .nil)) lbB)
 (.ret (.var 5 "found")))))⟩
structure TpF (T:FK->Option Fn):Prop where
 first:T (.m "Tape" "first_from")=some aO
structure TpB (T:FK->Option Fn):Prop where
 last:T (.m "Tape" "last_to")=some bD
 betw:T (.m "Tape" "last_between")=some aH
structure TpL (T:FK->Option Fn):Prop where
 f:TpF T
 b:TpB T
noncomputable def aP:Option Nat->D
 | none=>.non
 | some j=>.int j
@[simp] theorem zd:aP none=.non:=rfl
@[simp] theorem ze (j:Nat):aP (some j)=.int j:=rfl
structure FF (g:Nat->Bool) (m e:Nat) (o:Option Nat):Prop where
 yes:∀ j,o=some j->m<=j/\j<=e/\g j=true/\∀ i,m<=i->i < j->g i=false
 no:o=none->∀ i,m<=i->i<=e->g i=false
structure FL (g:Nat->Bool) (a b:Nat) (o:Option Nat):Prop where
 yes:∀ j,o=some j->a<=j/\j<=b/\g j=true/\∀ i,j < i->i<=b->g i=false
 no:o=none->∀ i,a<=i->i<=b->g i=false
section
variable {T:FK->Option Fn}{G:Str->Option W}
noncomputable def Tst (T:FK->Option Fn) (G:Str->Option W) (n:Nat) (t:Tp) (q:FK) (cs:List Cp) (g:Nat->Bool) (e:Nat):Prop :=
 ∀ k h r t',TAt h n r t'->Sm8 t t'->∀ i,i<=e->runN T G (k+10) q (.p (itr t.p t.asked i).enc :: cs.map Cp.w) h=some (.p (.bl (g i)),h)
theorem kg (t:Tp) (r:Nat):bf "first_from" (t.fs r)=none:=bX t r rfl
theorem oB (t:Tp) (r:Nat):bf "last_to" (t.fs r)=none:=bX t r rfl
theorem FO (t:Tp) (r:Nat):bf "last_between" (t.fs r)=none:=bX t r rfl
theorem oE {p:Pg}{asked:List Int}{most e:Nat} (R:Run p asked most e) {m:Nat} (h:m<=e):(decide (most<=m)||over p (itr p asked m))=decide (m=e):=by
 have le:=R.le
 by_cases c:m=e
 ·rw[decide_eq_true c]
  rcases R.last with z | z
  ·rw[decide_eq_true (by omega)];rfl
  ·rw[c,z,Bool.or_true]
 ·rw[decide_eq_false c,R.on m (by omega),decide_eq_false (by omega)];rfl
theorem Ca (P:TpP T G) (k:Nat) {n r:Nat}{t:Tp}{h:HH}{e ev:Nat} (a:TAt h n r t) (I:TI t e ev) {t0:Tp} (s0:Sm8 t0 t) {q:FK}{cs:List Cp}{g:Nat->Bool} (tt:Tst T G n t0 q cs g e):∀ (d f m:Nat),e - m=d->d < f->m<=e →
 ∃ o,FF g m e o/\(∀ j,o=some j->aZ (BT.ev (runN T G (k+10)) G ffC) (evS (runN T G (k+10)) G ffB) f [some (.o n),some (.p (.int m)),some (.c q cs),some (.p (itr t.p t.asked m).enc)] h=some (.nx [some (.o n),some (.p (.int j)),some (.c q cs),some (.p (itr t.p t.asked j).enc)] h)) ∧
  (o=none->aZ (BT.ev (runN T G (k+10)) G ffC) (evS (runN T G (k+10)) G ffB) f [some (.o n),some (.p (.int m)),some (.c q cs),some (.p (itr t.p t.asked m).enc)] h=some (.rt (.p .non) h)):=by
 intro d
 induction d with
 | zero =>
  intro f m hd hf hm
  have em:m=e:=by omega
  cases f with
  | zero=>omega
  | succ f =>
   have t1:=tt k h r t a s0 m hm
   rw[← s0.p,← s0.asked] at t1
   have ts:BT.ev (runN T G (k+10)) G ffC [some (.o n),some (.p (.int m)),some (.c q cs),some (.p (itr t.p t.asked m).enc)] h=some (.p (.bl (!g m)),h):=by
    simp[ffC,t1]
   cases gm:g m with
   | true =>
    rw[gm] at ts
    refine ⟨some m,⟨fun j e1=>by cases e1;exact ⟨Nu _,hm,gm,fun i h1 h2=>by omega⟩,fun z=>by cases z⟩,fun j e1=>?_,fun z=>by cases z⟩
    cases e1
    rw[aZ,ts,SE,c5,gq]
   | false =>
    rw[gm] at ts
    refine ⟨none,⟨fun j e1=>(by cases e1),fun _ i h1 h2=>by rw[show i=m by omega];exact gm⟩,fun j e1=>(by cases e1),fun _=>?_⟩
    have il:=dM P (k+8) a m (itr t.p t.asked m)
    rw[oE I.run hm,decide_eq_true em] at il
    have bd:evS (runN T G (k+10)) G ffB [some (.o n),some (.p (.int m)),some (.c q cs),some (.p (itr t.p t.asked m).enc)] h=some (.rt (.p .non) h):=by
     simp[ffB,a.ob,dS,il]
    rw[aZ,ts,Bool.not_false,c5,iB,bd,xy]
 | succ d ih =>
  intro f m hd hf hm
  cases f with
  | zero=>omega
  | succ f =>
   have t1:=tt k h r t a s0 m hm
   rw[← s0.p,← s0.asked] at t1
   have ts:BT.ev (runN T G (k+10)) G ffC [some (.o n),some (.p (.int m)),some (.c q cs),some (.p (itr t.p t.asked m).enc)] h=some (.p (.bl (!g m)),h):=by
    simp[ffC,t1]
   cases gm:g m with
   | true =>
    rw[gm] at ts
    refine ⟨some m,⟨fun j e1=>by cases e1;exact ⟨Nu _,hm,gm,fun i h1 h2=>by omega⟩,fun z=>by cases z⟩,fun j e1=>?_,fun z=>by cases z⟩
    cases e1
    rw[aZ,ts,SE,c5,gq]
   | false =>
    rw[gm] at ts
    obtain ⟨o,F,y,nn⟩:=ih f (m+1) (by omega) (by omega) (by omega)
    have il:=dM P (k+8) a m (itr t.p t.asked m)
    rw[oE I.run hm,decide_eq_false (by omega)] at il
    have le:=I.run.le
    have m1:=I.m1
    have bh:=eW P (k+3) a I.ok (j:=m) (st:=itr t.p t.asked m) (by omega) (dN I.ok I.ask I.run m hm) (I.run.on m (by omega))
    have s1:step t.p t.asked (itr t.p t.asked m)=itr t.p t.asked (m+1):=rfl
    rw[s1] at bh
    have em:(m:Int)+1=((m+1:Nat):Int):=by omega
    have bd:evS (runN T G (k+10)) G ffB [some (.o n),some (.p (.int m)),some (.c q cs),some (.p (itr t.p t.asked m).enc)] h=some (.nx [some (.o n),some (.p (.int ((m+1:Nat):Int))),some (.c q cs),some (.p (itr t.p t.asked (m+1)).enc)] h):=by
     simp[ffB,a.ob,dS,il,fM,bh]
    have wl:∀ z,aZ (BT.ev (runN T G (k+10)) G ffC) (evS (runN T G (k+10)) G ffB) f [some (.o n),some (.p (.int ((m+1:Nat):Int))),some (.c q cs),some (.p (itr t.p t.asked (m+1)).enc)] h=z->aZ (BT.ev (runN T G (k+10)) G ffC) (evS (runN T G (k+10)) G ffB) (f+1) [some (.o n),some (.p (.int m)),some (.c q cs),some (.p (itr t.p t.asked m).enc)] h=z:=fun z e1=>by
     rw[aZ,ts,Bool.not_false,c5,iB,bd,cJ,e1]
    refine ⟨o,⟨fun j e1=>?_,fun z i h1 h2=>?_⟩,fun j e1=>wl _ (y j e1),fun z=>wl _ (nn z)⟩
    ·obtain ⟨q1,q2,q3,q4⟩:=F.yes j e1
     refine ⟨by omega,q2,q3,fun i h1 h2=>?_⟩
     by_cases c:i=m
     ·rw[c];exact gm
     ·exact q4 i (by omega) h2
    ·by_cases c:i=m
     ·rw[c];exact gm
     ·exact F.no z i (by omega) h2
theorem m7 (P:TpP T G) (L:TpF T) (k:Nat) {n r:Nat}{t:Tp}{h:HH}{e ev:Nat} (a:TAt h n r t) (I:TI t e ev) {q:FK}{cs:List Cp}{g:Nat->Bool} (tt:Tst T G n t q cs g e) (m:Nat) (hm:m<=e) :
 ∃ o h' r' t',runN T G (k+12) (.m "Tape" "first_from") [.o n,.p (.int m),.c q cs] h=some (.p (aP o),h')/\FF g m e o/\Go n h r t h' r' t'/\TI t' e ev/\Sm8 t t':=by
 obtain ⟨h',r',t',b,g1,I',s,f⟩:=oA P k a I m hm
 have le:=I.run.le
 have m1:=I.m1
 obtain ⟨o,F,y,nn⟩:=Ca P (k+1) g1.b I' s tt (e - m) 100000 m rfl (by omega) hm
 refine ⟨o,h',r',t',?_,F,g1,I',s⟩
 rw[s.p,s.asked] at y nn
 rw[run_eq L.first rfl,aO]
 have fn:=fun w=>cz g1 w
 cases o with
 | none =>
  have w1:=nn rfl
  simp[a.ob,y9,b,turns,w1,fn]
 | some j =>
  have w1:=y j rfl
  simp[a.ob,y9,b,turns,w1,fn]
theorem iO (lo:Int) (q:Nat):upto lo (q+1)=.int lo :: upto (lo+1) q:=by
 unfold upto
 rw[QH,NW,PD]
 simp only[QI,Int.add_zero,PZ,true_and]
 apply Px
 intro i _
 simp;omega
theorem tU (P:TpP T G) (k:Nat) {n r:Nat}{t:Tp}{h:HH}{e ev:Nat} (A:TAt h n r t) (I:TI t e ev) {t0:Tp} (s0:Sm8 t0 t) {q:FK}{cs:List Cp}{g:Nat->Bool}{E:Nat} (tt:Tst T G n t0 q cs g E) (a:Nat) (w2:W):∀ (c j:Nat) (o:Option Nat) (x:Option W),a<=j->j+c<=e->j+c<=E->FL g a j o →
 ∃ o' x',bK (evS (runN T G (k+10)) G lbB) [(6,"number")] (upto ((j+1:Nat):Int) c) [some (.o n),some (.p (.int a)),some w2,some (.c q cs),some (.p (itr t.p t.asked j).enc),some (.p (aP o)),x] h =
  some (.nx [some (.o n),some (.p (.int a)),some w2,some (.c q cs),some (.p (itr t.p t.asked (j+c)).enc),some (.p (aP o')),x'] h)/\FL g a (j+c) o'
 | 0,j,o,x,_,_,_,F=>⟨o,x,rfl,F⟩
 | c+1,j,o,x,h1,h2,h2',F=>by
  have le:=I.run.le
  have m1:=I.m1
  have t1:=tt k h r t A s0 (j+1) (by omega)
  rw[← s0.p,← s0.asked] at t1
  have bh:=eW P (k+3) A I.ok (j:=j) (st:=itr t.p t.asked j) (by omega) (dN I.ok I.ask I.run j (by omega)) (I.run.on j (by omega))
  have s1:step t.p t.asked (itr t.p t.asked j)=itr t.p t.asked (j+1):=rfl
  rw[s1] at bh
  have gt:(a:Int) < ((j+1:Nat):Int):=by omega
  have F1:FL g a (j+1) (if g (j+1)=true then some (j+1) else o):=by
   by_cases c1:g (j+1)=true
   ·rw[if_pos c1]
    exact ⟨fun i e1=>by cases e1;exact ⟨by omega,Nu _,c1,fun i h3 h4=>by omega⟩,fun z=>by cases z⟩
   ·rw[if_neg c1]
    have c2:g (j+1)=false:=by simpa using c1
    refine ⟨fun i e1=>?_,fun z i h3 h4=>?_⟩
    ·obtain ⟨q1,q2,q3,q4⟩:=F.yes i e1
     refine ⟨q1,by omega,q3,fun i' h3 h4=>?_⟩
     by_cases c3:i'=j+1
     ·rw[c3];exact c2
     ·exact q4 i' h3 (by omega)
    ·by_cases c3:i=j+1
     ·rw[c3];exact c2
     ·exact F.no z i h3 (by omega)
  obtain ⟨o',x',b,F'⟩:=tU P k A I s0 tt a w2 c (j+1) _ (some (.p (.int ((j+1:Nat):Int)))) (by omega) (by omega) (by omega) F1
  have ej:j+1+c=j+(c+1):=by omega
  rw[ej] at b F'
  refine ⟨o',x',?_,F'⟩
  have bd:evS (runN T G (k+10)) G lbB [some (.o n),some (.p (.int a)),some w2,some (.c q cs),some (.p (itr t.p t.asked j).enc),some (.p (aP o)),some (.p (.int ((j+1:Nat):Int)))] h =
   some (.nx [some (.o n),some (.p (.int a)),some w2,some (.c q cs),some (.p (itr t.p t.asked (j+1)).enc),some (.p (aP (if g (j+1)=true then some (j+1) else o))),some (.p (.int ((j+1:Nat):Int)))] h):=by
   generalize hz:((j+1:Nat):Int)=z at gt
   have ez:∀ i:Nat,i=j+1->(D.int (i:Int))=D.int z:=fun i e1=>by rw[e1,hz]
   cases g1:g (j+1) with
   | true =>
    rw[g1] at t1
    simp[lbB,gt,A.ob,fM,bh,t1,hz]
   | false =>
    rw[g1] at t1
    simp[lbB,gt,A.ob,fM,bh,t1]
  have e1:((j+1:Nat):Int)+1=((j+1+1:Nat):Int):=by omega
  rw[iO,e1]
  have st:∀ (d:D) (l:List D) (s':Sl) (w:Option W),bK (evS (runN T G (k+10)) G lbB) [(6,"number")] (d :: l) [some (.o n),some (.p (.int a)),some w2,some (.c q cs),some (.p (itr t.p t.asked j).enc),some (.p (aP o)),w] h =
   fY (evS (runN T G (k+10)) G lbB [some (.o n),some (.p (.int a)),some w2,some (.c q cs),some (.p (itr t.p t.asked j).enc),some (.p (aP o)),some (.p d)] h) (bK (evS (runN T G (k+10)) G lbB) [(6,"number")] l):=fun d l s' w=>rfl
  rw[st _ _ [] x,bd,cJ,b]
theorem zf (P:TpP T G) (L:TpB T) (k:Nat) {n r:Nat}{t:Tp}{h:HH}{e ev:Nat} (A:TAt h n r t) (I:TI t e ev) {t0:Tp} (s0:Sm8 t0 t) {q:FK}{cs:List Cp}{g:Nat->Bool}{E:Nat} (tt:Tst T G n t0 q cs g E) (a m:Nat) (h1:a<=m) (h2:m<=t.far) (hE:m<=E) (h3:a % t.gap=0) :
 ∃ o,runN T G (k+11) (.m "Tape" "last_between") [.o n,.p (.int a),.p (.int m),.c q cs] h=some (.p (aP o),h)/\FL g a m o:=by
 have le:=I.run.le
 have m1:=I.m1
 have fr:=I.far
 have g0:=I.g0
 have g1':=I.g1
 have t1:=tt k h r t A s0 a (by omega)
 rw[← s0.p,← s0.asked] at t1
 have F0:FL g a a (if g a=true then some a else none):=by
  by_cases c:g a=true
  ·rw[if_pos c];exact ⟨fun i e1=>by cases e1;exact ⟨Nu _,Nu _,c,fun i h3 h4=>by omega⟩,fun z=>by cases z⟩
  ·rw[if_neg c];exact ⟨fun i e1=>(by cases e1),fun _ i h3 h4=>by rw[show i=a by omega];simpa using c⟩
 obtain ⟨o,x',b,F⟩:=tU P k A I s0 tt a (.p (.int m)) (m - a) a _ (some (.p (.int (a:Int)))) (Nu _) (by omega) (by omega) F0
 rw[show a+(m - a)=m by omega] at b F
 refine ⟨o,?_,F⟩
 rw[run_eq L.betw rfl,aH]
 have hq:a / t.gap < t.kept.length:=by
  rw[I.len]
  have:a / t.gap<=t.far / t.gap:=Q0 (by omega)
  omega
 have hk:=I.kept _ hq
 have ea:a / t.gap*t.gap=a:=Nat.div_mul_cancel (Nat.dvd_of_mod_eq_zero h3)
 rw[ea] at hk
 have e1:(a:Int) / (t.gap:Int)=((a / t.gap:Nat):Int):=by simp
 have ix:bM (.lst (t.kept.map St.enc)) (.int ((a / t.gap:Nat):Int))=some (itr t.p t.asked a).enc:=by
  show atP _ _=_
  rw[j9,N1,hk];rfl
 have gz:(0:Int) < (t.gap:Int):=by omega
 have gm:(t.gap:Int) < 1073741824:=by omega
 have rg:dZ .rng2 [.int (a:Int),.int ((m:Int)+1)]=some (.int (a:Int) :: upto ((a+1:Nat):Int) (m - a)):=by
  rw[gO]
  have c:((-100000<=(a:Int):Bool)&&((a:Int)<=100000:Bool)&&((-100000<=(m:Int)+1:Bool))&&(((m:Int)+1<=100000:Bool)))=true:=by
   simp only[Nt,decide_eq_true_eq];omega
  rw[if_pos c,show ((m:Int)+1 - (a:Int)).toNat=(m - a)+1 by omega,iO]
  rfl
 have bd:evS (runN T G (k+10)) G lbB [some (.o n),some (.p (.int a)),some (.p (.int m)),some (.c q cs),some (.p (itr t.p t.asked a).enc),some (.p .non),some (.p (.int (a:Int)))] h =
  some (.nx [some (.o n),some (.p (.int a)),some (.p (.int m)),some (.c q cs),some (.p (itr t.p t.asked a).enc),some (.p (aP (if g a=true then some a else none))),some (.p (.int (a:Int)))] h):=by
  cases g1:g a with
  | true=>rw[g1] at t1;simp[lbB,t1]
  | false=>rw[g1] at t1;simp[lbB,t1]
 have st:∀ (d:D) (l:List D) (w:Option W),bK (evS (runN T G (k+10)) G lbB) [(6,"number")] (d :: l) [some (.o n),some (.p (.int a)),some (.p (.int m)),some (.c q cs),some (.p (itr t.p t.asked a).enc),some (.p .non),w] h =
  fY (evS (runN T G (k+10)) G lbB [some (.o n),some (.p (.int a)),some (.p (.int m)),some (.c q cs),some (.p (itr t.p t.asked a).enc),some (.p .non),some (.p d)] h) (bK (evS (runN T G (k+10)) G lbB) [(6,"number")] l):=fun d l w=>rfl
 have lp:bK (evS (runN T G (k+10)) G lbB) [(6,"number")] (.int (a:Int) :: upto ((a+1:Nat):Int) (m - a)) [some (.o n),some (.p (.int a)),some (.p (.int m)),some (.c q cs),some (.p (itr t.p t.asked a).enc),some (.p .non),none] h=some (.nx [some (.o n),some (.p (.int a)),some (.p (.int m)),some (.c q cs),some (.p (itr t.p t.asked m).enc),some (.p (aP o)),x'] h):=by
  rw[st,bd,cJ,b]
 generalize upto ((a+1:Nat):Int) (m - a)=ll at rg lp
 simp[-bH,-gO,-Int.natCast_ediv,A.ob,A.li,rd,gz,g0,gm,e1,ix,rg,gn,-bK,lp,ah]
theorem tV (P:TpP T G) (L:TpB T) (k:Nat) {n r:Nat}{t:Tp}{h:HH}{e ev:Nat} (A:TAt h n r t) (I:TI t e ev) {t0:Tp} (s0:Sm8 t0 t) {q:FK}{cs:List Cp}{g:Nat->Bool}{E:Nat} (tt:Tst T G n t0 q cs g E) (M:Nat) (hM:M<=t.far) (hE:M<=E):∀ (f mm:Nat) (o:Option Nat) (x:Option W),mm < f->mm<=M+1 →
 (o=none->∀ i,mm<=i->i<=M->g i=false)->(∀ j,o=some j->FL g 0 M (some j)) →
 ∃ o' y x',aZ (BT.ev (runN T G (k+11)) G ltC) (evS (runN T G (k+11)) G ltB) f [some (.o n),some (.p (.int ((mm:Int) - 1))),some (.c q cs),some (.p (aP o)),x] h=some (.nx [some (.o n),y,some (.c q cs),some (.p (aP o')),x'] h)/\FL g 0 M o'
 | 0,mm,o,x,hf,_,_,_=>absurd hf (QW _)
 | f+1,mm,some j,x,hf,hm,i1,i2=>by
  refine ⟨some j,some (.p (.int ((mm:Int) - 1))),x,?_,i2 j rfl⟩
  have ts:BT.ev (runN T G (k+11)) G ltC [some (.o n),some (.p (.int ((mm:Int) - 1))),some (.c q cs),some (.p (aP (some j))),x] h=some (.p (.bl false),h):=by simp[ltC]
  rw[aZ,ts,c5,gq]
 | f+1,0,none,x,hf,hm,i1,i2=>by
  refine ⟨none,some (.p (.int (((0:Nat):Int) - 1))),x,?_,⟨fun j z=>(by cases z),fun _ i h1 h2=>i1 rfl i h1 h2⟩⟩
  have ts:BT.ev (runN T G (k+11)) G ltC [some (.o n),some (.p (.int (((0:Nat):Int) - 1))),some (.c q cs),some (.p (aP none)),x] h=some (.p (.bl false),h):=by simp[ltC]
  rw[aZ,ts,c5,gq]
 | f+1,m+1,none,x,hf,hm,i1,i2=>by
  have e0:((m+1:Nat):Int) - 1=(m:Int):=by omega
  rw[e0]
  have ts:BT.ev (runN T G (k+11)) G ltC [some (.o n),some (.p (.int (m:Int))),some (.c q cs),some (.p (aP none)),x] h=some (.p (.bl true),h):=by simp[ltC]
  have g0:=I.g0
  have dm:=QX m t.gap
  have md:=QY m g0
  have mk:(m - m % t.gap) % t.gap=0:=by
   have:m - m % t.gap=t.gap*(m / t.gap):=by omega
   rw[this];exact Nat.mul_mod_right _ _
  obtain ⟨o1,b1,F1⟩:=zf P L k A I s0 tt (m - m % t.gap) m (by omega) (by omega) (by omega) mk
  have hmm:m % t.gap<=m:=Nat.mod_le _ _
  have em:(m:Int) - (m:Int) % (t.gap:Int)=((m - m % t.gap:Nat):Int):=by
   have:(m:Int) % (t.gap:Int)=((m % t.gap:Nat):Int):=by simp
   rw[this];omega
  have gz:(0:Int) < (t.gap:Int):=by omega
  have bd:evS (runN T G (k+11)) G ltB [some (.o n),some (.p (.int (m:Int))),some (.c q cs),some (.p (aP none)),x] h=some (.nx [some (.o n),some (.p (.int (((m - m % t.gap:Nat):Int) - 1))),some (.c q cs),some (.p (aP o1)),some (.p (.int ((m - m % t.gap:Nat):Int)))] h):=by
   generalize hz:((m - m % t.gap:Nat):Int)=z at b1 em
   simp[ltB,A.ob,gz,g0,em,FO,b1]
  obtain ⟨o',y,x',b2,F2⟩:=tV P L k A I s0 tt M hM hE f (m - m % t.gap) o1 (some (.p (.int ((m - m % t.gap:Nat):Int)))) (by omega) (by omega) (fun z i h1 h2=>by
   by_cases c:i<=m
   ·exact F1.no z i h1 c
   ·exact i1 rfl i (by omega) h2) (fun j z=>by
   obtain ⟨q1,q2,q3,q4⟩:=F1.yes j z
   refine ⟨fun j' z'=>?_,fun z'=>by cases z'⟩
   cases z'
   refine ⟨N5 _,by omega,q3,fun i h1 h2=>?_⟩
   by_cases c:i<=m
   ·exact q4 i h1 c
   ·exact i1 rfl i (by omega) h2)
  refine ⟨o',y,x',?_,F2⟩
  rw[aZ,ts,c5,iB,bd,cJ,b2]
theorem qd (P:TpP T G) (L:TpB T) (k:Nat) {n r:Nat}{t:Tp}{h:HH}{e ev:Nat} (a:TAt h n r t) (I:TI t e ev) {q:FK}{cs:List Cp}{g:Nat->Bool}{E:Nat} (tt:Tst T G n t q cs g E) (m:Nat) (hm:m<=e) (hE:m<=E) :
 ∃ o h' r' t',runN T G (k+12) (.m "Tape" "last_to") [.o n,.p (.int m),.c q cs] h=some (.p (aP o),h')/\FL g 0 m o/\Go n h r t h' r' t'/\TI t' e ev/\Sm8 t t':=by
 obtain ⟨h',r',t',b,g1,I',s,f⟩:=m6 P (k+1) a I m hm
 have le:=I.run.le
 have m1:=I.m1
 obtain ⟨o,y,x',w1,F⟩:=tV P L k g1.b I' s tt m (by omega) hE 100000 (m+1) none none (by omega) (Nu _) (fun _ i h1 h2=>by omega) (fun j z=>by cases z)
 refine ⟨o,h',r',t',?_,F,g1,I',s⟩
 rw[run_eq L.last rfl,bD]
 have fn:=fun w=>cz g1 w
 have e0:((m+1:Nat):Int) - 1=(m:Int):=by omega
 rw[e0] at w1
 simp only[zd] at w1
 simp[a.ob,tS,b,turns,w1,fn]
structure TpE (T:FK->Option Fn):Prop where
 end_:T (.m "Tape" "end")=some dI
theorem zg (P:TpP T G) (M:TpE T) (k:Nat) {n r:Nat}{t:Tp}{h:HH}{e ev:Nat} (a:TAt h n r t) (I:TI t e ev) :
 ∃ h' r' t',runN T G (k+9) (.m "Tape" "end") [.o n] h=some (.p (.int e),h')/\Go n h r t h' r' t'/\TI t' e ev/\Sm8 t t'/\t'.far=e:=by
 obtain ⟨h',r',t',b,g,I',s,f⟩:=mZ P k a I t.most
 have le:=I.run.le
 have fr:=I.far
 have fe:t'.far=e:=by omega
 refine ⟨h',r',t',?_,g,I',s,fe⟩
 rw[run_eq M.end_ rfl]
 have fn:=fun w=>cz g w
 simp[dI,a.ob,tR,b,g.b.ob,fe,fn]
end
end BT
end
section
namespace BT
open PySem
noncomputable def iP:Fn:=⟨["thing"],["thing"],
 (.ret (.and (.call "is_whole" (.cons (.var 0 "thing") .nil)) (.chain .le .lt (.cst (.int 0)) (.var 0 "thing") (.glo "CELL_COUNT"))))⟩
noncomputable def eX:Fn:=⟨["thing"],["thing"],
 (.ife (.and (.not (.call "is_name" (.cons (.var 0 "thing") .nil))) (.not (.call "is_cell" (.cons (.var 0 "thing") .nil)))) .bad .nil)⟩
inductive Th where
 | nm (x:Nm) | cl (i:Nat) (h:i < 4)
noncomputable def Th.enc:Th->D
 | .nm x=>.str x.w
 | .cl i _=>.int i
noncomputable def Th.val (st:St):Th->Int
 | .nm x=>st.names.getD x.ix 0
 | .cl i _=>st.cells.getD i 0
noncomputable def wb (st:St):Rw->Option Th
 | .set x _=>some (.nm x)
 | .ask x=>some (.nm x)
 | .put s _=>some (.cl (s.val st % 4).toNat (by omega))
 | _=>none
section
variable {T:FK->Option Fn}{G:Str->Option W}
noncomputable def IL:Option Nat->D
 | none=>.non
 | some j=>.int ((j:Int)+1)
@[simp] theorem L8:IL none=.non:=rfl
@[simp] theorem Ma (j:Nat):IL (some j)=.int ((j:Int)+1):=rfl
end
end BT
end
section
namespace BT
open PySem
noncomputable def rdC:E:=(.not (.meth (.var 0 "self") "is_last" (.cons (.bin .sub (.bi .len false (.cons (.var 3 "told") .nil)) (.cst (.int 1))) (.cons (.var 2 "state") .nil))))
noncomputable def rdB:S:=(.seq (.set 2 "state" (.meth (.var 0 "self") "behind" (.cons (.var 2 "state") .nil)))
 (.ex (.me .append (.var 3 "told") (.cons (.callv 1 "reader" (.cons (.var 2 "state") .nil)) .nil))))
noncomputable def bq:Fn:=⟨["self","reader"],["self","reader","state","told"],
 (.seq (.set 2 "state" (.idx (.fld (.var 0 "self") "kept") (.cst (.int 0))))
 (.seq (.set 3 "told" (.lst true (.cons (.callv 1 "reader" (.cons (.var 2 "state") .nil)) .nil)))
 (.seq (.whl rdC rdB)
 (.ret (.var 3 "told")))))⟩
structure TpR (T:FK->Option Fn):Prop where
 readings:T (.m "Tape" "readings")=some bq
section
variable {T:FK->Option Fn}{G:Str->Option W}
theorem lB (t:Tp) (r:Nat):bf "readings" (t.fs r)=none:=bX t r rfl
noncomputable def Rdg (T:FK->Option Fn) (G:Str->Option W) (n:Nat) (t:Tp) (q:FK) (cs:List Cp) (f:Nat->D) (e:Nat):Prop :=
 ∀ k h r t',TAt h n r t'->Sm8 t t'->∀ i,i<=e->runN T G (k+10) q (.p (itr t.p t.asked i).enc :: cs.map Cp.w) h=some (.p (f i),h)
noncomputable def each (f:Nat->D) (e:Nat):List D:=(ND (e+1)).map f
theorem lC (f:Nat->D) (e:Nat):(each f e).length=e+1:=by simp[each]
theorem vH (f:Nat->D) (e:Nat):each f (e+1)=each f e++[f (e+1)]:=by
 unfold each
 rw[List.range_succ (n:=e+1),Qg];rfl
theorem Cb (P:TpP T G) (k:Nat) {n r:Nat}{t:Tp}{h:HH}{e ev:Nat} (a:TAt h n r t) (I:TI t e ev) {q:FK}{cs:List Cp}{f:Nat->D} (tt:Rdg T G n t q cs f e):∀ (d u m:Nat),e - m=d->d < u->m<=e →
 aZ (BT.ev (runN T G (k+10)) G rdC) (evS (runN T G (k+10)) G rdB) u [some (.o n),some (.c q cs),some (.p (itr t.p t.asked m).enc),some (.r h.length)] (h++[.l (each f m)]) =
  some (.nx [some (.o n),some (.c q cs),some (.p (itr t.p t.asked e).enc),some (.r h.length)] (h++[.l (each f e)])):=by
 intro d
 induction d with
 | zero =>
  intro u m hd hu hm
  have em:m=e:=by omega
  subst em
  cases u with
  | zero=>omega
  | succ u =>
   have A:=a.app (g:=[.l (each f m)])
   have il:=dM P (k+8) A m (itr t.p t.asked m)
   rw[oE I.run hm,decide_eq_true rfl] at il
   have l1:(((each f m).length:Nat):Int) - 1=(m:Int):=by rw[lC];omega
   have ts:BT.ev (runN T G (k+10)) G rdC [some (.o n),some (.c q cs),some (.p (itr t.p t.asked m).enc),some (.r h.length)] (h++[.l (each f m)])=some (.p (.bl false),h++[.l (each f m)]):=by
    simp[rdC,A.ob,dS,rd,l1,il]
   rw[aZ,ts,c5,gq]
 | succ d ih =>
  intro u m hd hu hm
  cases u with
  | zero=>omega
  | succ u =>
   have A:=a.app (g:=[.l (each f m)])
   have il:=dM P (k+8) A m (itr t.p t.asked m)
   rw[oE I.run hm,decide_eq_false (by omega)] at il
   have l1:(((each f m).length:Nat):Int) - 1=(m:Int):=by rw[lC];omega
   have ts:BT.ev (runN T G (k+10)) G rdC [some (.o n),some (.c q cs),some (.p (itr t.p t.asked m).enc),some (.r h.length)] (h++[.l (each f m)])=some (.p (.bl true),h++[.l (each f m)]):=by
    simp[rdC,A.ob,dS,rd,l1,il]
   have le:=I.run.le
   have m1:=I.m1
   have bh:=eW P (k+3) A I.ok (j:=m) (st:=itr t.p t.asked m) (by omega) (dN I.ok I.ask I.run m hm) (I.run.on m (by omega))
   have s1:step t.p t.asked (itr t.p t.asked m)=itr t.p t.asked (m+1):=rfl
   rw[s1] at bh
   have t1:=tt k (h++[.l (each f m)]) r t A (.refl t) (m+1) (by omega)
   have l2:(each f m).length < 100000:=by rw[lC];omega
   have bd:evS (runN T G (k+10)) G rdB [some (.o n),some (.c q cs),some (.p (itr t.p t.asked m).enc),some (.r h.length)] (h++[.l (each f m)])=some (.nx [some (.o n),some (.c q cs),some (.p (itr t.p t.asked (m+1)).enc),some (.r h.length)] (h++[.l (each f (m+1))])):=by
    simp[rdB,A.ob,fM,bh,t1,l2,vH]
   rw[aZ,ts,c5,iB,bd,cJ]
   exact ih u (m+1) (by omega) (by omega) (by omega)
theorem jn (P:TpP T G) (Q:TpR T) (k:Nat) {n r:Nat}{t:Tp}{h:HH}{e ev:Nat} (a:TAt h n r t) (I:TI t e ev) {q:FK}{cs:List Cp}{f:Nat->D} (tt:Rdg T G n t q cs f e) :
 runN T G (k+11) (.m "Tape" "readings") [.o n,.c q cs] h=some (.p (.lst (each f e)),h):=by
 have le:=I.run.le
 have m1:=I.m1
 have k0:0 < t.kept.length:=by rw[I.len];exact Nat.succ_pos _
 have hk:=I.kept 0 k0
 rw[Nat.zero_mul] at hk
 have ix:bM (.lst (t.kept.map St.enc)) (.int 0)=some (itr t.p t.asked 0).enc:=by
  show atP _ ((0:Nat):Int)=_
  rw[j9,N1,hk];rfl
 have t0:=tt k h r t a (.refl t) 0 (N5 _)
 have lp:=Cb P k a I tt (e - 0) 100000 0 rfl (by omega) (N5 _)
 have e0:each f 0=[f 0]:=rfl
 rw[e0] at lp
 rw[run_eq Q.readings rfl,bq]
 simp[-bH,a.ob,a.li,rd,ix,t0,turns,lp,Df]
end
end BT
end
section
namespace BT
open PySem
noncomputable def fN:Fn:=⟨["tape","moment","term"],["tape","moment","term"],
 (.ret (.call "reckoned" (.cons (.var 2 "term") (.cons (.meth (.var 0 "tape") "at" (.cons (.var 1 "moment") .nil)) .nil))))⟩
structure SuP (T:FK->Option Fn):Prop where
 sum_at:T "sum_at"=some fN
theorem jo {F:FK->List W->HH->Option (W×HH)}{G:Str->Option W}{sr:Sr}{sa:Es}{tg:List Str}{fv:List (Nat×Str)}{cond:Es}{elt:E}{s:Sl}{h h1 h2:HH}{ws:List W}{ds xs:List D}{fs:Sl} (e1:evs F G sa s h=some (ws,h1)) (e2:(rds ws h1).bind (dZ sr)=some ds) (e3:frees s fv=some fs) (e4:gn ws=true) (e5:aR (cE (evs F G cond) (BT.ev F G elt) fs) tg.length ds h1=some (xs,h2)) (e6:xs.length<=100000):BT.ev F G (.comp false sr sa tg fv cond elt) s h=some (.p (.lst xs),h2):=by
 rw[BT.ev,e1,bg]
 unfold xr
 rw[e2,e3]
 show (if gn ws=true then _ else _)=_
 rw[if_pos e4,e5,bg]
 unfold kL
 rw[if_pos (show xs.length<=lim from e6)];rfl
theorem FP {α:Type} (f:List D->HH->Option (Option D×HH)) (mk:α->D) (g:α->Option D) (h:HH):∀ (l:List α),(∀ x∈l,f [mk x] h=some (g x,h))->aR f 1 (l.map mk) h=some (l.filterMap g,h):=by
 intro l
 induction l with
 | nil=>intro _;rfl
 | cons x r ih =>
  intro hf
  rw[NW,aR,gk]
  show bnd (f [mk x] h) (uU (aR f 1 (r.map mk)))=_
  rw[hf x NI,bg,nG,ih fun y hy=>hf y (NC _ hy),bg,kK,N3]
  cases g x<;>rfl
theorem zh {α:Type} (f:List D->HH->Option (Option D×HH)) (mk:α->D) (g:α->Option D) (Iv:HH->Prop):∀ (l:List α),(∀ x∈l,∀ h,Iv h->∃ h',f [mk x] h=some (g x,h')/\Iv h')->∀ h,Iv h->∃ h',aR f 1 (l.map mk) h=some (l.filterMap g,h')/\Iv h':=by
 intro l
 induction l with
 | nil=>intro _ h hi;exact ⟨h,rfl,hi⟩
 | cons x r ih =>
  intro hf h hi
  obtain ⟨h1,e1,i1⟩:=hf x NI h hi
  obtain ⟨h2,e2,i2⟩:=ih (fun y hy=>hf y (NC _ hy)) h1 i1
  refine ⟨h2,?_,i2⟩
  rw[NW,aR,gk]
  show bnd (f [mk x] h) (uU (aR f 1 (r.map mk)))=_
  rw[e1,bg,nG,e2,bg,kK,N3]
  cases g x<;>rfl
theorem tW {α β:Type} (p:α->Bool) (m:α->β) (l:List α):l.filterMap (fun x=>if p x=true then some (m x) else none)=(l.filter p).map m:=by
 induction l with
 | nil=>rfl
 | cons x r ih =>
  rw[N3,List.filter_cons]
  cases p x with
  | true=>simp[ih]
  | false=>simp[ih]
section
variable {T:FK->Option Fn}{G:Str->Option W}
@[simp] theorem Nk (h:HH) (a:Cl) (r:HH):dat (h++a :: r) h.length=uS a:=by simp[dat]
theorem lD (P:TpP T G) (S:SuP T) (k:Nat) {n r:Nat}{t:Tp}{h:HH}{e ev:Nat} (a:TAt h n r t) (I:TI t e ev) (s:Sm) (hs:s.size<=40000) (hok:s.ok) (m:Nat) (hm:m<=e) :
 ∃ h' r' t',runN T G (k+12) "sum_at" [.o n,.p (.int m),.p s.enc] h=some (.p (.int (s.val (itr t.p t.asked m))),h')/\Go n h r t h' r' t'/\TI t' e ev/\Sm8 t t':=by
 obtain ⟨h1,r1,t1,b1,g1,I1,s1,f1⟩:=oA P k a I m hm
 have b2:=aM P.prg (k+7) s hs hok (itr t.p t.asked m) (dN I.ok I.ask I.run m hm).ok h1
 refine ⟨h1,r1,t1,?_,g1,I1,s1⟩
 rw[run_eq S.sum_at rfl]
 have fn:=fun w=>cz g1 w
 simp[fN,a.ob,y9,b1,b2,fn]
end
end BT
end
section
namespace BT
open PySem
noncomputable def msE:E:=(.comp false .enu (.cons (.var 2 "worths") .nil) ["moment","worth"] [] (.cons (.cmp .ne (.var 1 "worth") (.cst (.int 0))) .nil) (.var 0 "moment"))
noncomputable def bG:Fn:=⟨["tape","term"],["tape","term","worths","<moments_so>"],
 (.seq (.set 2 "worths" (.methL (.var 0 "tape") "readings" .nil 3 [(1,"term")]))
 (.ret msE))⟩
noncomputable def cA:Fn:=⟨["tape","moment","term"],["tape","moment","term","<last_so>"],
 (.ret (.methL (.var 0 "tape") "last_to" (.cons (.var 1 "moment") .nil) 4 [(2,"term")]))⟩
noncomputable def cB:Fn:=⟨["tape","moment","term"],["tape","moment","term","<next_so>"],
 (.ret (.methL (.var 0 "tape") "first_from" (.cons (.var 1 "moment") .nil) 5 [(2,"term")]))⟩
noncomputable def viE:E:=(.comp false .enu (.cons (.var 2 "places") .nil) ["moment","place"] [(1,"row")] (.cons (.cmp .eq (.var 1 "place") (.var 2 "row")) .nil) (.var 0 "moment"))
noncomputable def dU:Fn:=⟨["tape","row"],["tape","row","places","<visits>"],
 (.seq (.set 2 "places" (.methL (.var 0 "tape") "readings" .nil 6 []))
 (.ret viE))⟩
noncomputable def aY:Fn:=⟨["tape","moment","row"],["tape","moment","row","<last_visit>"],
 (.ret (.methL (.var 0 "tape") "last_to" (.cons (.var 1 "moment") .nil) 7 [(2,"row")]))⟩
noncomputable def eY:Fn:=⟨["tape","moment"],["tape","moment"],
 (.ret (.bi .list false (.cons (.idx (.meth (.var 0 "tape") "at" (.cons (.var 1 "moment") .nil)) (.glo "SAID")) .nil)))⟩
noncomputable def bB:Fn:=⟨["tape","number"],["tape","number","<when_said>"],
 (.ret (.methL (.var 0 "tape") "first_from" (.cons (.cst (.int 0)) .nil) 8 [(1,"number")]))⟩
structure SoP (T:FK->Option Fn):Prop where
 moments_so:T "moments_so"=some bG
 last_so:T "last_so"=some cA
 next_so:T "next_so"=some cB
 l3:T (.l 3)=some AN
 l4:T (.l 4)=some AO
 l5:T (.l 5)=some AQ
structure ViP (T:FK->Option Fn):Prop where
 visits:T "visits"=some dU
 last_visit:T "last_visit"=some aY
 l6:T (.l 6)=some AR
 l7:T (.l 7)=some AS
structure SdP (T:FK->Option Fn):Prop where
 said_at:T "said_at"=some eY
 when_said:T "when_said"=some bB
 l8:T (.l 8)=some AU
theorem zj {α:Type} (f:List D->HH->Option (Option D×HH)) (n:Nat) (mk:α->D) (tx:α->List D) (g:α->Option D) (h:HH):∀ (l:List α),(∀ x∈l,target n (mk x)=some (tx x)/\f (tx x) h=some (g x,h))->aR f n (l.map mk) h=some (l.filterMap g,h):=by
 intro l
 induction l with
 | nil=>intro _;rfl
 | cons x r ih =>
  intro hf
  obtain ⟨h1,h2⟩:=hf x NI
  rw[NW,aR,h1]
  show bnd (f (tx x) h) (uU (aR f n (r.map mk)))=_
  rw[h2,bg,nG,ih fun y hy=>hf y (NC _ hy),bg,kK,N3]
  cases g x<;>rfl
theorem qe {α:Type} (f:α->D):∀ (l:List α) (k:Nat),ay k (l.map f)=(l.zipIdx k).map fun p=>.tup [.int p.2,f p.1]
 | [],_=>rfl
 | x :: l,k=>by
  show D.tup [.int k,f x] :: ay (k+1) (l.map f)=_
  rw[qe f l (k+1),List.zipIdx_cons,NW]
theorem vI (n:Nat):(ND n).zipIdx=(ND n).map fun i=>(i,i):=by
 refine List.ext_getElem (by simp) fun i h1 h2=>?_
 simp
theorem m8 (f:Nat->D) (e:Nat):ay 0 (each f e)=(ND (e+1)).map fun i=>.tup [.int i,f i]:=by
 unfold each
 rw[qe,vI,PD]
 rfl
noncomputable def mom (g:Nat->Bool) (e:Nat):List Nat:=(ND (e+1)).filter g
theorem jq {g:Nat->Bool}{e i:Nat}:i∈mom g e↔i<=e/\g i=true:=by
 unfold mom
 rw[List.mem_filter,List.mem_range]
 constructor<;>rintro ⟨a,b⟩<;>exact ⟨by omega,b⟩
theorem kh (g:Nat->Bool) (e:Nat):(mom g e).length<=e+1:=by
 have:=List.length_filter_le g (ND (e+1))
 rw[O5] at this
 exact this
noncomputable def sv (t:Tp) (s:Sm) (i:Nat):Int:=s.val (itr t.p t.asked i)
noncomputable def gso (t:Tp) (s:Sm) (i:Nat):Bool:=!(sv t s i==0)
noncomputable def gvi (t:Tp) (c:Nat) (i:Nat):Bool:=(itr t.p t.asked i).row==c
noncomputable def gsd (t:Tp) (c:Nat) (i:Nat):Bool:=decide (c < (itr t.p t.asked i).said.length)
theorem IM {t t':Tp} (s:Sm8 t t') (q:Sm):sv t' q=sv t q:=by funext i;unfold sv;rw[s.p,s.asked]
theorem oF {t t':Tp} (s:Sm8 t t') (q:Sm):gso t' q=gso t q:=by funext i;unfold gso;rw[IM s]
theorem zk {t t':Tp} (s:Sm8 t t') (c:Nat):gvi t' c=gvi t c:=by funext i;unfold gvi;rw[s.p,s.asked]
section
variable {T:FK->Option Fn}{G:Str->Option W}
theorem Mb (P:TpP T G) (Q:SoP T) {n:Nat}{t:Tp}{e ev:Nat} (I:TI t e ev) (s:Sm) (hs:s.size<=40000) (hok:s.ok):Rdg T G n t (.l 3) [.p s.enc] (fun i=>.int (sv t s i)) e:=fun k h r t' a _ i hi=>by
 rw[run_eq (k:=k+9) Q.l3 rfl]
 have b2:=aM P.prg (k+5) s hs hok (itr t.p t.asked i) (dN I.ok I.ask I.run i hi).ok h
 simp[AN,b2,ah,sv]
theorem Mc (P:TpP T G) (Q:SoP T) {n:Nat}{t:Tp}{e ev:Nat} (I:TI t e ev) (s:Sm) (hs:s.size<=40000) (hok:s.ok):Tst T G n t (.l 4) [.p s.enc] (gso t s) e:=fun k h r t' a _ i hi=>by
 rw[run_eq (k:=k+9) Q.l4 rfl]
 have b2:=aM P.prg (k+5) s hs hok (itr t.p t.asked i) (dN I.ok I.ask I.run i hi).ok h
 simp[AO,b2,ah,gso,sv]
theorem Mf (P:TpP T G) (Q:SoP T) {n:Nat}{t:Tp}{e ev:Nat} (I:TI t e ev) (s:Sm) (hs:s.size<=40000) (hok:s.ok):Tst T G n t (.l 5) [.p s.enc] (gso t s) e:=fun k h r t' a _ i hi=>by
 rw[run_eq (k:=k+9) Q.l5 rfl]
 have b2:=aM P.prg (k+5) s hs hok (itr t.p t.asked i) (dN I.ok I.ask I.run i hi).ok h
 simp[AQ,b2,ah,gso,sv]
theorem Mg (P:TpP T G) (Q:ViP T) (n:Nat) (t:Tp) (e:Nat):Rdg T G n t (.l 6) [] (fun i=>.int ((itr t.p t.asked i).row:Int)) e:=fun k h r t' a _ i hi=>by
 rw[run_eq (k:=k+9) Q.l6 rfl]
 simp[AR,P.prg.ROW,ah,St.enc]
theorem Mh (P:TpP T G) (Q:ViP T) (n:Nat) (t:Tp) (c e:Nat):Tst T G n t (.l 7) [.p (.int c)] (gvi t c) e:=fun k h r t' a _ i hi=>by
 rw[run_eq (k:=k+9) Q.l7 rfl]
 have e1:(((itr t.p t.asked i).row:Int)==(c:Int))=((itr t.p t.asked i).row==c):=by
  rw[Bool.eq_iff_iff,beq_iff_eq,beq_iff_eq];omega
 simp[AS,P.prg.ROW,ah,St.enc,gvi,e1]
theorem Mi (P:TpP T G) (Q:SdP T) (n:Nat) (t:Tp) (c e:Nat):Tst T G n t (.l 8) [.p (.int c)] (gsd t c) e:=fun k h r t' a _ i hi=>by
 rw[run_eq (k:=k+9) Q.l8 rfl]
 have e1:decide ((c:Int) < ((itr t.p t.asked i).said.length:Int))=decide (c < (itr t.p t.asked i).said.length):=by
  rw[decide_eq_decide];omega
 simp[AU,P.prg.SAID,ah,St.enc,gsd,aa]
theorem gG (P:TpP T G) (R:TpR T) (Q:SoP T) (k:Nat) {n r:Nat}{t:Tp}{h:HH}{e ev:Nat} (a:TAt h n r t) (I:TI t e ev) (s:Sm) (hs:s.size<=40000) (hok:s.ok) :
 runN T G (k+12) "moments_so" [.o n,.p s.enc] h=some (.p (.lst (af (mom (gso t s) e))),h):=by
 have b1:=jn P R k a I (Mb P Q I s hs hok)
 have le:=I.run.le
 have m1:=I.m1
 have cm:aR (cE (evs (runN T G (k+11)) G (.cons (.cmp .ne (.var 1 "worth") (.cst (.int 0))) .nil)) (BT.ev (runN T G (k+11)) G (.var 0 "moment")) []) 2 (ay 0 (each (fun i=>.int (sv t s i)) e)) h=some (af (mom (gso t s) e),h):=by
  have e0:af (mom (gso t s) e)=(ND (e+1)).filterMap fun k=>if gso t s k=true then some (D.int (k:Int)) else none:=(tW _ _ _).symm
  rw[m8,e0]
  refine zj _ 2 _ (fun (i:Nat)=>[.int i,.int (sv t s i)]) _ h (ND (e+1)) fun i hi=>⟨rfl,?_⟩
  unfold gso
  by_cases q:sv t s i=0
  ·simp[cE,bQ,q]
  ·have qb:(sv t s i==0)=false:=beq_eq_false_iff_ne.mpr q
   simp[cE,bQ,qb]
 have ln:=kh (gso t s) e
 have ce:BT.ev (runN T G (k+11)) G msE [some (.o n),some (.p s.enc),some (.p (.lst (each (fun i=>.int (sv t s i)) e))),none] h=some (.p (.lst (af (mom (gso t s) e))),h) :=
  jo (ws:=[.p (.lst (each (fun i=>.int (sv t s i)) e))]) (h1:=h) (fs:=[]) (by simp) rfl rfl rfl cm (by unfold af;rw[NP];omega)
 rw[run_eq Q.moments_so rfl,bG]
 simp[a.ob,lB,b1,ce,ah]
theorem rH (P:TpP T G) (R:TpR T) (Q:ViP T) (k:Nat) {n r:Nat}{t:Tp}{h:HH}{e ev:Nat} (a:TAt h n r t) (I:TI t e ev) (c:Nat) :
 runN T G (k+12) "visits" [.o n,.p (.int c)] h=some (.p (.lst (af (mom (gvi t c) e))),h):=by
 have b1:=jn P R k a I (Mg P Q n t e)
 have le:=I.run.le
 have m1:=I.m1
 have cm:aR (cE (evs (runN T G (k+11)) G (.cons (.cmp .eq (.var 1 "place") (.var 2 "row")) .nil)) (BT.ev (runN T G (k+11)) G (.var 0 "moment")) [some (.p (.int c))]) 2 (ay 0 (each (fun i=>.int ((itr t.p t.asked i).row:Int)) e)) h=some (af (mom (gvi t c) e),h):=by
  have e0:af (mom (gvi t c) e)=(ND (e+1)).filterMap fun k=>if gvi t c k=true then some (D.int (k:Int)) else none:=(tW _ _ _).symm
  rw[m8,e0]
  refine zj _ 2 _ (fun (i:Nat)=>[.int i,.int ((itr t.p t.asked i).row:Int)]) _ h (ND (e+1)) fun i hi=>⟨rfl,?_⟩
  unfold gvi
  by_cases q:(itr t.p t.asked i).row=c
  ·simp[cE,bQ,q]
  ·have q':(((itr t.p t.asked i).row:Int)==(c:Int))=false:=beq_eq_false_iff_ne.mpr (by omega)
   simp[cE,bQ,q,q']
 have ln:=kh (gvi t c) e
 have ce:BT.ev (runN T G (k+11)) G viE [some (.o n),some (.p (.int c)),some (.p (.lst (each (fun i=>.int ((itr t.p t.asked i).row:Int)) e))),none] h=some (.p (.lst (af (mom (gvi t c) e))),h) :=
  jo (ws:=[.p (.lst (each (fun i=>.int ((itr t.p t.asked i).row:Int)) e))]) (h1:=h) (fs:=[some (.p (.int c))]) (by simp) rfl rfl rfl cm (by unfold af;rw[NP];omega)
 rw[run_eq Q.visits rfl,dU]
 simp[a.ob,lB,b1,ce,ah]
theorem qf (P:TpP T G) (L:TpB T) (Q:SoP T) (k:Nat) {n r:Nat}{t:Tp}{h:HH}{e ev:Nat} (a:TAt h n r t) (I:TI t e ev) (s:Sm) (hs:s.size<=40000) (hok:s.ok) (m:Nat) (hm:m<=e) :
 ∃ o h' r' t',runN T G (k+13) "last_so" [.o n,.p (.int m),.p s.enc] h=some (.p (aP o),h')/\FL (gso t s) 0 m o/\Go n h r t h' r' t'/\TI t' e ev/\Sm8 t t':=by
 obtain ⟨o,h1,r1,t1,b1,F,g1,I1,s1⟩:=qd P L k a I (Mc (n:=n) P Q I s hs hok) m hm hm
 refine ⟨o,h1,r1,t1,?_,F,g1,I1,s1⟩
 rw[run_eq Q.last_so rfl]
 have fn:=fun w=>cz g1 w
 cases o with
 | none=>simp[cA,a.ob,oB,b1,fn]
 | some j=>simp[cA,a.ob,oB,b1,fn]
theorem qi (P:TpP T G) (L:TpF T) (Q:SoP T) (k:Nat) {n r:Nat}{t:Tp}{h:HH}{e ev:Nat} (a:TAt h n r t) (I:TI t e ev) (s:Sm) (hs:s.size<=40000) (hok:s.ok) (m:Nat) (hm:m<=e) :
 ∃ o h' r' t',runN T G (k+13) "next_so" [.o n,.p (.int m),.p s.enc] h=some (.p (aP o),h')/\FF (gso t s) m e o/\Go n h r t h' r' t'/\TI t' e ev/\Sm8 t t':=by
 obtain ⟨o,h1,r1,t1,b1,F,g1,I1,s1⟩:=m7 P L k a I (Mf (n:=n) P Q I s hs hok) m hm
 refine ⟨o,h1,r1,t1,?_,F,g1,I1,s1⟩
 rw[run_eq Q.next_so rfl]
 have fn:=fun w=>cz g1 w
 cases o with
 | none=>simp[cB,a.ob,kg,b1,fn]
 | some j=>simp[cB,a.ob,kg,b1,fn]
theorem lE (P:TpP T G) (L:TpB T) (Q:ViP T) (k:Nat) {n r:Nat}{t:Tp}{h:HH}{e ev:Nat} (a:TAt h n r t) (I:TI t e ev) (c m:Nat) (hm:m<=e) :
 ∃ o h' r' t',runN T G (k+13) "last_visit" [.o n,.p (.int m),.p (.int c)] h=some (.p (aP o),h')/\FL (gvi t c) 0 m o/\Go n h r t h' r' t'/\TI t' e ev/\Sm8 t t':=by
 obtain ⟨o,h1,r1,t1,b1,F,g1,I1,s1⟩:=qd P L k a I (Mh P Q n t c e) m hm hm
 refine ⟨o,h1,r1,t1,?_,F,g1,I1,s1⟩
 rw[run_eq Q.last_visit rfl]
 have fn:=fun w=>cz g1 w
 cases o with
 | none=>simp[aY,a.ob,oB,b1,fn]
 | some j=>simp[aY,a.ob,oB,b1,fn]
theorem ig (P:TpP T G) (L:TpF T) (Q:SdP T) (k:Nat) {n r:Nat}{t:Tp}{h:HH}{e ev:Nat} (a:TAt h n r t) (I:TI t e ev) (c:Nat) :
 ∃ o h' r' t',runN T G (k+13) "when_said" [.o n,.p (.int c)] h=some (.p (aP o),h')/\FF (gsd t c) 0 e o/\Go n h r t h' r' t'/\TI t' e ev/\Sm8 t t':=by
 obtain ⟨o,h1,r1,t1,b1,F,g1,I1,s1⟩:=m7 P L k a I (Mi P Q n t c e) 0 (N5 _)
 refine ⟨o,h1,r1,t1,?_,F,g1,I1,s1⟩
 rw[run_eq Q.when_said rfl]
 have fn:=fun w=>cz g1 w
 rw[QI] at b1
 cases o with
 | none=>simp[bB,a.ob,kg,b1,fn]
 | some j=>simp[bB,a.ob,kg,b1,fn]
theorem jO (P:TpP T G) (Q:SdP T) (k:Nat) {n r:Nat}{t:Tp}{h:HH}{e ev:Nat} (a:TAt h n r t) (I:TI t e ev) (m:Nat) (hm:m<=e) :
 ∃ h' r' t',runN T G (k+12) "said_at" [.o n,.p (.int m)] h=some (.p (.lst (aa (itr t.p t.asked m).said)),h')/\Go n h r t h' r' t'/\TI t' e ev/\Sm8 t t':=by
 obtain ⟨h1,r1,t1,b1,g1,I1,s1,f1⟩:=oA P k a I m hm
 refine ⟨h1,r1,t1,?_,g1,I1,s1⟩
 rw[run_eq Q.said_at rfl]
 have fn:=fun w=>cz g1 w
 simp[eY,a.ob,y9,b1,P.prg.SAID,St.enc,fn]
end
end BT
end
section
namespace BT
open PySem
theorem jG {T:FK->Option Fn}{G:Str->Option W} (L:Lw T) (ns:List Int) (hl:ns.length<=1000) (q many:Int) (hm:0 < many):∃ z:Nat,(z:Int) < many/\∀ k h,runN T G (k+2) "_law_drawn" [.p (.lst (aa ns)),.p (.int q),.p (.int many)] h=some (.p (.int (z:Int)),h):=by
 have h0:=cu ns q hm
 have h1:=cy ns q hm
 refine ⟨(drw ns q many).toNat,by omega,fun k h=>?_⟩
 have:=dR (G:=G) L k ns hl q many hm h
 rw[this]
 congr 4
 omega
theorem zl (xs:List Int) (v:Int):ded (xs++[v])=if (ded xs).any (·==v) then ded xs else ded xs++[v]:=by
 unfold ded
 rw[List.foldl_append];rfl
theorem zm:∀ (n:Nat) (xs:List Int),xs.length=n->xs.Nodup->ded xs=xs
 | 0,xs,h,_=>by
  have:=List.length_eq_zero_iff.mp h
  subst this;rfl
 | n+1,xs,h,nd=>by
  have hne:xs≠[]:=fun z=>by rw[z] at h;cases h
  have e1:=RP hne
  rw[← e1] at nd ⊢
  have nd1:=(List.nodup_append.mp nd).1
  rw[zl,zm n _ (by rw[Td];omega) nd1,if_neg]
  intro z
  obtain ⟨y,hy,e⟩:=List.any_eq_true.mp z
  have:=(List.nodup_append.mp nd).2.2 y hy _ NI
  exact this (eq_of_beq e)
theorem jH:∀ (xs:List Int),intsOf (aa xs)=some xs
 | []=>rfl
 | x :: xs=>by
  show (intsOf (aa xs)).map (x :: ·)=_
  rw[jH xs];rfl
section
variable {T:FK->Option Fn}{G:Str->Option W}
end
end BT
end
section
namespace BT
open PySem
theorem ng (p:Pg) (asked:List Int) (st:St):(step p asked st).said=st.said\/∃ s,p[st.row]?=some (.say s)/\(step p asked st).said=st.said++[s.val st]:=by
 unfold step
 cases g:p[st.row]? with
 | none=>exact .inl rfl
 | some r =>
  cases r with
  | say s=>exact .inr ⟨s,rfl,rfl⟩
  | _=>exact .inl rfl
theorem lF (p:Pg) (asked:List Int) (i:Nat):∀ d,(itr p asked i).said <+: (itr p asked (i+d)).said
 | 0=>List.prefix_refl _
 | d+1=>by
  refine (lF p asked i d).trans ?_
  show (itr p asked (i+d)).said <+: (step p asked (itr p asked (i+d))).said
  rcases ng p asked (itr p asked (i+d)) with h | ⟨s,_,h⟩
  ·rw[h];exact List.prefix_refl _
  ·rw[h];exact List.prefix_append _ _
theorem tX {p:Pg}{asked:List Int}{i j:Nat} (h:i<=j):(itr p asked i).said.length<=(itr p asked j).said.length:=by
 have:=(lF p asked i (j - i)).length_le
 rwa [show i+(j - i)=j by omega] at this
theorem rJ {t:Tp}{e c j:Nat}{w:Int} (F:FF (gsd t c) 0 e (some j)) (hw:(itr t.p t.asked e).said[c]?=some w) :
 ∃ i s,j=i+1/\t.p[(itr t.p t.asked i).row]?=some (.say s)/\s.val (itr t.p t.asked i)=w/\(itr t.p t.asked (i+1)).said.length=c+1:=by
 obtain ⟨_,f2,f3,f4⟩:=F.yes j rfl
 have g3:c < (itr t.p t.asked j).said.length:=by simpa [gsd] using f3
 cases j with
 | zero=>exact absurd g3 (by simp[itr,St.zero])
 | succ i =>
  have g4:=f4 i (N5 _) (OW _)
  have g4:¬ c < (itr t.p t.asked i).said.length:=by simpa [gsd] using g4
  have e1:(itr t.p t.asked (i+1)).said=(step t.p t.asked (itr t.p t.asked i)).said:=rfl
  rcases ng t.p t.asked (itr t.p t.asked i) with h | ⟨s,h1,h2⟩
  ·rw[e1,h] at g3;exact absurd g3 g4
  ·have ln:(itr t.p t.asked (i+1)).said.length=(itr t.p t.asked i).said.length+1:=by rw[e1,h2,NT];rfl
   have lc:(itr t.p t.asked i).said.length=c:=by omega
   refine ⟨i,s,rfl,h1,?_,by omega⟩
   obtain ⟨more,hm⟩:=lF t.p t.asked (i+1) (e - (i+1))
   rw[show i+1+(e - (i+1))=e by omega] at hm
   rw[← hm,e1,h2,Ny (by rw[NT,Pj];omega),NY (by omega)] at hw
   rw[lc,Nat.sub_self] at hw
   simpa using hw
theorem zo {p:Pg}{asked:List Int}{most e:Nat} (hp:Pg.ok p) (R:Run p asked most e):∀ i,i<=e->(itr p asked i).row<=p.length/\∀ c∈(itr p asked i).calls,c<=p.length
 | 0,_=>⟨N5 _,by simp[itr,St.zero]⟩
 | i+1,h=>by
  obtain ⟨h1,h2⟩:=zo hp R i (by omega)
  have ov:=R.on i (by omega)
  show (step p asked (itr p asked i)).row<=p.length/\∀ c∈(step p asked (itr p asked i)).calls,c<=p.length
  unfold step
  unfold over at ov
  cases g:p[(itr p asked i).row]? with
  | none=>rw[g] at ov;cases ov
  | some r =>
   have lt:(itr p asked i).row < p.length:=(List.getElem?_eq_some_iff.mp g).1
   have ok:=hp r (NJ g)
   show (r.next asked (itr p asked i)).row<=p.length/\∀ c∈(r.next asked (itr p asked i)).calls,c<=p.length
   cases r with
   | set x s=>exact ⟨lt,h2⟩
   | put s u=>exact ⟨lt,h2⟩
   | ask x=>exact ⟨lt,h2⟩
   | say s=>exact ⟨lt,h2⟩
   | jump q=>exact ⟨ok,h2⟩
   | «unless» s q =>
    refine ⟨?_,h2⟩
    show (if s.val (itr p asked i)=0 then q else (itr p asked i).row+1)<=p.length
    split
    ·exact ok.2
    ·exact lt
   | call q =>
    refine ⟨ok,fun c hc=>?_⟩
    rcases List.mem_append.mp hc with hc | hc
    ·exact h2 c hc
    ·rw[List.mem_singleton.mp hc];exact lt
   | back =>
    refine ⟨?_,fun c hc=>h2 c (List.dropLast_subset _ hc)⟩
    show (itr p asked i).calls.getLast?.getD 0<=p.length
    cases q:(itr p asked i).calls.getLast? with
    | none=>exact N5 _
    | some c=>exact h2 c (List.mem_of_getLast? q)
   | stop=>exact ⟨h1,h2⟩
noncomputable def qj (xs:List Nat):List Int:=xs.map fun (n:Nat)=>(n:Int)
theorem fO (xs:List Nat):af xs=aa (qj xs):=by unfold af aa qj;rw[PD];rfl
theorem Cc {xs:List Nat} (h:xs.Pairwise (·<=·)):(qj xs).Pairwise (·<=·):=Si _ (fun a b h=>by omega) h
theorem nh {xs ys:List Nat} (h:xs.Perm ys) (hy:ys.Pairwise (·<=·)):sortI (qj xs)=qj ys:=Rp ((sortI_perm _).trans (h.map _)) (kJ _) (Cc hy)
theorem zu (n:Nat):(ND n).Pairwise (·<=·):=List.pairwise_lt_range.imp fun h=>OI h
theorem Cd (n:Nat):upto 0 n=af (ND n):=by
 unfold upto af
 apply Px
 intro i _
 rw[Int.zero_add]
theorem rK (xs:List Int):dok 100 (.lst (aa xs))=true:=by
 show (aa xs).all (dok 99)=true
 unfold aa
 rw[List.all_map,OM]
 intro x _
 exact r8 99 x
theorem gH (xs:List Nat):(af xs).length=xs.length:=by unfold af;rw[NP]
theorem tY {g:Nat->Bool}{e m:Nat} (hm:m<=e):(af (mom g e)).any (fun y=>eqv y (.int (m:Int)))=g m:=by
 rw[Bool.eq_iff_iff,List.any_eq_true]
 constructor
 ·rintro ⟨y,hy,q⟩
  obtain ⟨i,hi,rfl⟩:=List.mem_map.mp hy
  have:(i:Int)=(m:Int):=by simpa using q
  have:i=m:=by omega
  subst this
  exact (jq.mp hi).2
 ·intro h
  exact ⟨_,List.mem_map.mpr ⟨m,jq.mpr ⟨hm,h⟩,rfl⟩,by simp⟩
theorem qk (xs:List D) (i:Int):(xs.all fun y=>bw y (.int i))=true:=List.all_eq_true.mpr fun y _=>gi (r8 _ _)
theorem zw (g:Nat->Bool) (g':Nat->Bool) (e:Nat) (h:∀ i,i<=e->g' i=!g i):(mom g e++mom g' e).Perm (ND (e+1)):=by
 have:mom g' e=(ND (e+1)).filter fun x=>!g x:=by
  unfold mom
  apply List.filter_congr
  intro i hi
  exact h i (by have:=List.mem_range.mp hi;omega)
 rw[this]
 exact List.filter_append_perm g _
noncomputable def vis (t:Tp) (e:Nat):Nat->Nat->List Nat
 | _,0=>[]
 | c,q+1=>mom (gvi t c) e++vis t e (c+1) q
theorem oG {t:Tp}{e i:Nat}:∀ (q c:Nat),i∈vis t e c q↔i<=e/\c<=(itr t.p t.asked i).row/\(itr t.p t.asked i).row < c+q
 | 0,c=>by
  constructor
  ·intro h;cases h
  ·rintro ⟨_,a,b⟩;omega
 | q+1,c=>by
  show i∈mom (gvi t c) e++vis t e (c+1) q↔_
  rw[List.mem_append,jq,oG q (c+1)]
  unfold gvi
  rw[beq_iff_eq]
  constructor
  ·rintro (⟨a,b⟩ | ⟨a,b,d⟩)
   ·exact ⟨a,by omega,by omega⟩
   ·exact ⟨a,by omega,by omega⟩
  ·rintro ⟨a,b,d⟩
   by_cases z:(itr t.p t.asked i).row=c
   ·exact .inl ⟨a,z⟩
   ·exact .inr ⟨a,by omega,by omega⟩
theorem zx (t:Tp) (e:Nat):∀ (q c:Nat),(vis t e c q).Nodup
 | 0,_=>Qn
 | q+1,c=>by
  refine List.nodup_append.mpr ⟨List.Nodup.sublist List.filter_sublist List.nodup_range,zx t e q (c+1),fun x hx y hy=>?_⟩
  rintro rfl
  have h1:=(jq.mp hx).2
  unfold gvi at h1
  have h1:=eq_of_beq h1
  have h2:=(oG q (c+1)).mp hy
  omega
theorem zy {t t':Tp} (s:Sm8 t t') (e:Nat):∀ (q c:Nat),vis t' e c q=vis t e c q
 | 0,_=>rfl
 | q+1,c=>by
  show mom (gvi t' c) e++vis t' e (c+1) q=_
  rw[zk s,zy s e q (c+1)];rfl
theorem zA {t:Tp}{e n:Nat} (h:∀ i,i<=e->(itr t.p t.asked i).row<=n):(vis t e 0 (n+1)).Perm (ND (e+1)) :=
 (List.perm_ext_iff_of_nodup (zx t e _ _) List.nodup_range).mpr fun i=>by
  rw[oG,List.mem_range]
  constructor
  ·rintro ⟨a,_⟩;omega
  ·intro a;have:=h i (by omega);exact ⟨by omega,by omega,by omega⟩
noncomputable def FQ:E:=(.cmp .ne (.call "sum_at" (.cons (.var 1 "_law_tape") (.cons (.var 0 "_law_at") (.cons (.var 2 "_law_one") .nil)))) (.cst (.int 0)))
noncomputable def IP:E:=(.comp false .rng2 (.cons (.bin .add (.var 11 "_law_low") (.cst (.int 1))) (.cons (.var 12 "_law_high") .nil)) ["_law_at"] [(3,"_law_tape"),(4,"_law_one")] (.cons FQ .nil) (.var 0 "_law_at"))
noncomputable def FU:E:=(.or (.cmp .ne IP (.lst false .nil)) (.not (.chain .le .le (.var 11 "_law_low") (.var 8 "_law_moment") (.var 12 "_law_high"))))
noncomputable def rL:E:=(.or (.and (.cmp .notN (.var 0 "_law_at") (.cst .non)) (.cmp .nmem (.var 0 "_law_at") (.var 1 "_law_so"))) (.cmp .ne (.cmp .eq (.var 0 "_law_at") (.var 2 "_law_moment")) (.cmp .mem (.var 2 "_law_moment") (.var 1 "_law_so"))))
noncomputable def IQ:E:=(.comp false .seq (.cons (.tup (.cons (.var 9 "_law_before") (.cons (.var 10 "_law_behind") .nil))) .nil) ["_law_at"] [(6,"_law_so"),(8,"_law_moment")] (.cons rL .nil) (.var 0 "_law_at"))
noncomputable def Ce:E:=(.cmp .ne (.bi .sorted false (.cons (.bin .add (.var 6 "_law_so") (.var 7 "_law_other")) .nil)) (.lsr false .rng1 (.cons (.bin .add (.var 5 "_law_end") (.cst (.int 1))) .nil)))
noncomputable def FW:E:=(.cmp .ne (.bi .sorted false (.cons (.var 13 "_law_every") .nil)) (.lsr false .rng1 (.cons (.bin .add (.var 5 "_law_end") (.cst (.int 1))) .nil)))
noncomputable def FY:E:=(.cmp .ne (.call "last_visit" (.cons (.var 1 "_law_tape") (.cons (.var 0 "_law_at") (.cons (.var 2 "_law_place") .nil)))) (.var 0 "_law_at"))
noncomputable def IR:E:=(.comp false .seq (.cons (.var 15 "_law_here") .nil) ["_law_at"] [(3,"_law_tape"),(14,"_law_place")] (.cons FY .nil) (.var 0 "_law_at"))
noncomputable def IS:E:=(.or (.cmp .ne (.idx (.var 20 "_law_row_here") (.cst (.int 0))) (.cst (.str "say"))) (.or (.cmp .ne (.call "sum_at" (.cons (.var 3 "_law_tape") (.cons (.bin .sub (.var 19 "_law_at") (.cst (.int 1))) (.cons (.idx (.var 20 "_law_row_here") (.cst (.int 1))) .nil)))) (.var 18 "_law_worth")) (.cmp .ne (.bi .len false (.cons (.call "said_at" (.cons (.var 3 "_law_tape") (.cons (.var 19 "_law_at") .nil))) .nil)) (.bin .add (.var 17 "_law_number") (.cst (.int 1))))))
noncomputable def FZ:E:=(.and (.cmp .eq (.var 16 "_law_told") (.bi .sset false (.cons (.var 16 "_law_told") .nil))) (.cmp .isN (.call "when_said" (.cons (.var 3 "_law_tape") (.cons (.bi .len false (.cons (.var 16 "_law_told") .nil)) .nil))) (.cst .non)))
noncomputable def F3:E:=(.ite (.cmp .isN (.var 9 "_law_before") (.cst .non)) (.neg (.cst (.int 1))) (.var 9 "_law_before"))
noncomputable def F6:E:=(.ite (.cmp .isN (.var 10 "_law_behind") (.cst .non)) (.bin .add (.var 5 "_law_end") (.cst (.int 1))) (.var 10 "_law_behind"))
noncomputable def rM:S:=(.seq (.set 15 "_law_here" (.call "visits" (.cons (.var 3 "_law_tape") (.cons (.var 14 "_law_place") .nil))))
 (.seq (.set 13 "_law_every" (.bin .add (.var 13 "_law_every") (.var 15 "_law_here")))
 (.ife (.cmp .ne IR (.lst false .nil)) (.ret (.cst (.bl false))) .nil)))
noncomputable def lG:S:=(.seq (.set 19 "_law_at" (.call "when_said" (.cons (.var 3 "_law_tape") (.cons (.var 17 "_law_number") .nil))))
 (.seq (.set 20 "_law_row_here" (.idx (.var 1 "_law_program_here") (.idx (.meth (.var 3 "_law_tape") "at" (.cons (.bin .sub (.var 19 "_law_at") (.cst (.int 1))) .nil)) (.cst (.int 0)))))
 (.seq (.ife IS (.ret (.cst (.bl false))) .nil)
 (.ex (.me .append (.var 16 "_law_told") (.cons (.var 19 "_law_at") .nil))))))
noncomputable def F7:S:=(.seq (.set 13 "_law_every" (.lst false .nil))
 (.seq (.for [(14,"_law_place")] .rng1 (.cons (.bin .add (.bi .len false (.cons (.var 1 "_law_program_here") .nil)) (.cst (.int 1))) .nil) rM)
 (.seq (.ife FW (.ret (.cst (.bl false))) .nil)
 (.seq (.set 16 "_law_told" (.lst true .nil))
 (.seq (.for [(17,"_law_number"),(18,"_law_worth")] .enu (.cons (.call "said_at" (.cons (.var 3 "_law_tape") (.cons (.var 5 "_law_end") .nil))) .nil) lG)
 (.ret FZ))))))
noncomputable def Cf:S:=(.seq (.set 8 "_law_moment" (.call "_law_drawn" (.cons (.var 0 "_law_script") (.cons (.cst (.int 443)) (.cons (.bin .add (.var 5 "_law_end") (.cst (.int 1))) .nil)))))
 (.seq (.set 9 "_law_before" (.call "last_so" (.cons (.var 3 "_law_tape") (.cons (.var 8 "_law_moment") (.cons (.var 4 "_law_one") .nil)))))
 (.seq (.set 10 "_law_behind" (.call "next_so" (.cons (.var 3 "_law_tape") (.cons (.var 8 "_law_moment") (.cons (.var 4 "_law_one") .nil)))))
 (.seq (.set 11 "_law_low" F3)
 (.seq (.set 12 "_law_high" F6)
 (.seq (.ife FU (.ret (.cst (.bl false))) .nil)
 (.seq (.ife (.cmp .ne IQ (.lst false .nil)) (.ret (.cst (.bl false))) .nil)
 F7)))))))
noncomputable def Cg:S:=(.seq (.set 4 "_law_one" (.call "_law_sum" (.cons (.var 0 "_law_script") (.cons (.cst (.int 460)) (.cons (.cst (.int 2)) .nil)))))
 (.seq (.set 5 "_law_end" (.meth (.var 3 "_law_tape") "end" .nil))
 (.seq (.set 6 "_law_so" (.call "moments_so" (.cons (.var 3 "_law_tape") (.cons (.var 4 "_law_one") .nil))))
 (.seq (.set 7 "_law_other" (.call "moments_so" (.cons (.var 3 "_law_tape") (.cons (.tup (.cons (.cst (.str "sub")) (.cons (.tup (.cons (.cst (.str "num")) (.cons (.cst (.int 1)) .nil))) (.cons (.tup (.cons (.cst (.str "less")) (.cons (.tup (.cons (.cst (.str "num")) (.cons (.cst (.int 0)) .nil))) (.cons (.var 4 "_law_one") .nil)))) .nil)))) .nil))))
 (.seq (.ife Ce (.ret (.cst (.bl false))) .nil)
 Cf)))))
noncomputable def Ci:S:=(.seq (.set 1 "_law_program_here" (.call "_law_program" (.cons (.var 0 "_law_script") (.cons (.cst (.int 20)) .nil))))
 (.seq (.set 2 "_law_asked_here" (.call "_law_asked" (.cons (.var 0 "_law_script") (.cons (.cst (.int 450)) .nil))))
 (.seq (.set 3 "_law_tape" (.make "Tape" (.cons (.var 1 "_law_program_here") (.cons (.var 2 "_law_asked_here") (.cons (.bin .add (.cst (.int 1)) (.call "_law_drawn" (.cons (.var 0 "_law_script") (.cons (.cst (.int 441)) (.cons (.cst (.int 5)) .nil))))) (.cons (.call "_law_drawn" (.cons (.var 0 "_law_script") (.cons (.cst (.int 440)) (.cons (.cst (.int 15)) .nil)))) .nil))))))
 Cg)))
noncomputable def fQ:Fn:=⟨["_law_script"],["_law_script","_law_program_here","_law_asked_here","_law_tape","_law_one","_law_end","_law_so","_law_other","_law_moment","_law_before","_law_behind","_law_low","_law_high","_law_every","_law_place","_law_here","_law_told","_law_number","_law_worth","_law_at","_law_row_here"],
 Ci⟩
theorem tnx (s:Sl) (h:HH) (k:Sl->HH->Option Fl):jL (some (.nx s h)) k=k s h:=Eq.trans rfl rfl
structure Mj (T:FK->Option Fn):Prop where
 lw:Lw T
 program:T "_law_program"=some aN
 law:T "law"=some fQ
structure oH (T:FK->Option Fn) (G:Str->Option W):Prop where
 P:TpP T G
 L:TpL T
 S:SuP T
 R:TpR T
 So:SoP T
 Vi:ViP T
 Sd:SdP T
section
variable {T:FK->Option Fn}{G:Str->Option W}
theorem Dh (e:Nat) (he:e<=1000):dZ .rng1 [.int ((e:Int)+1)]=some (af (ND (e+1))):=by
 rw[bE]
 have c:((-100000<=((e:Int)+1):Bool)&&(((e:Int)+1)<=100000:Bool))=true:=by
  simp only[Nt,decide_eq_true_eq];omega
 rw[if_pos c,show ((e:Int)+1).toNat=e+1 by omega,Cd]
theorem zB {xs:List Nat}{e:Nat} (h:xs.Perm (ND (e+1))) (he:e+1 < 64):biD .sorted [.lst (af xs)]=some (.lst (af (ND (e+1)))):=by
 have ln:=h.length_eq
 rw[O5] at ln
 rw[fO,kI,jH,OJ,if_pos (by unfold qj;rw[NP];omega),nh h (zu _),fO]
 rfl
theorem IT (F:FK->List W->HH->Option (W×HH)) (w0 w1 w2 w3 w4:W) (rest:Sl) (h:HH) (e:Nat) (he:e+1 < 64) (A B:List Nat) (pm:(A++B).Perm (ND (e+1))) :
 BT.ev F G Ce (some w0 :: some w1 :: some w2 :: some w3 :: some w4 :: some (.p (.int (e:Int))) :: some (.p (.lst (af A))) :: some (.p (.lst (af B))) :: rest) h=some (.p (.bl false),h):=by
 have r1:=Dh e (by omega)
 have s1:=zB pm he
 have e1:af A++af B=af (A++B):=by unfold af;rw[Qg]
 have ln:=pm.length_eq
 rw[O5,NT] at ln
 have l1:(af A).length+(af B).length<=100000:=by rw[gH,gH];omega
 have l2:(af (ND (e+1))).length<=100000:=by rw[gH,O5];omega
 have d1:dO .ne (.lst (af (ND (e+1)))) (.lst (af (ND (e+1))))=some false:=ne_self (by rw[fO];exact rK _)
 generalize af (ND (e+1))=R at *
 simp[-jW,-bE,Ce,e1,l1,s1,r1,l2,d1]
theorem IU (F:FK->List W->HH->Option (W×HH)) (w0 w1 w2 w3 w4 w6 w7 w8 w9 wa wb wc:W) (rest:Sl) (h:HH) (e:Nat) (he:e+1 < 64) (A:List Nat) (pm:A.Perm (ND (e+1))) :
 BT.ev F G FW (some w0 :: some w1 :: some w2 :: some w3 :: some w4 :: some (.p (.int (e:Int))) :: some w6 :: some w7 :: some w8 :: some w9 :: some wa :: some wb :: some wc :: some (.p (.lst (af A))) :: rest) h=some (.p (.bl false),h):=by
 have r1:=Dh e (by omega)
 have s1:=zB pm he
 have l2:(af (ND (e+1))).length<=100000:=by rw[gH,O5];omega
 have d1:dO .ne (.lst (af (ND (e+1)))) (.lst (af (ND (e+1))))=some false:=ne_self (by rw[fO];exact rK _)
 generalize af (ND (e+1))=R at *
 simp[-jW,-bE,FW,s1,r1,l2,d1]
theorem lH {α β:Type} (l:List α):l.filterMap (fun _=>(none:Option β))=[]:=by
 induction l with
 | nil=>rfl
 | cons x l ih=>rw[N3];exact ih
theorem IV (A:oH T G) (k:Nat) (w0 w1 w2 w5 w6 w7 w8 w9 wa:W) (rest:Sl) {n r:Nat}{t:Tp}{h:HH}{e ev:Nat} (a:TAt h n r t) (I:TI t e ev) (s:Sm) (hs:s.size<=40000) (hok:s.ok) (lo hi:Int) (x y:Nat) (hx:lo+1=(x:Int)) (hy:hi=(y:Int)) (hxe:x<=e+1) (hye:y<=e+1) (hg:∀ i,x<=i->i < y->gso t s i=false) :
 ∃ h' r' t',BT.ev (runN T G (k+13)) G IP (some w0 :: some w1 :: some w2 :: some (.o n) :: some (.p s.enc) :: some w5 :: some w6 :: some w7 :: some w8 :: some w9 :: some wa :: some (.p (.int lo)) :: some (.p (.int hi)) :: rest) h=some (.p (.lst []),h')/\TAt h' n r' t'/\TI t' e ev/\Sm8 t t':=by
 have le:=I.run.le
 have m1:=I.m1
 obtain ⟨h',c,r',t',a',I',s'⟩:=zh (cE (evs (runN T G (k+13)) G (.cons FQ .nil)) (BT.ev (runN T G (k+13)) G (.var 0 "_law_at")) [some (.o n),some (.p s.enc)]) (fun (i:Nat)=>D.int ((x:Int)+(i:Int))) (fun _=>none) (fun h=>∃ r' t',TAt h n r' t'/\TI t' e ev/\Sm8 t t') (ND (y - x)) (fun i hi h ⟨r1,t1,a1,I1,s1⟩=>by
  have hi:=List.mem_range.mp hi
  obtain ⟨h2,r2,t2,b2,g2,I2,s2⟩:=lD A.P A.S (k+1) a1 I1 s hs hok (x+i) (by omega)
  have z:=hg (x+i) (by omega) (by omega)
  rw[← oF s1] at z
  have z:s.val (itr t1.p t1.asked (x+i))=0:=by simpa [gso,sv] using z
  rw[z,Int.natCast_add] at b2
  refine ⟨h2,?_,r2,t2,g2.b,I2,s1.trans s2⟩
  simp[cE,bQ,FQ,b2]) h ⟨r,t,a,I,.refl t⟩
 refine ⟨h',r',t',?_,a',I',s'⟩
 rw[lH] at c
 have rg:dZ .rng2 [.int (lo+1),.int hi]=some (upto (x:Int) (y - x)):=by
  rw[gO,hx,hy]
  have c:((-100000<=(x:Int):Bool)&&((x:Int)<=100000:Bool)&&((-100000<=(y:Int):Bool))&&(((y:Int)<=100000:Bool)))=true:=by
   simp only[Nt,decide_eq_true_eq];omega
  rw[if_pos c,show ((y:Int) - (x:Int)).toNat=y - x by omega]
 exact jo (ws:=[.p (.int (lo+1)),.p (.int hi)]) (h1:=h) (fs:=[some (.o n),some (.p s.enc)]) (by simp) rg rfl rfl c (by simp)
theorem Di (F:FK->List W->HH->Option (W×HH)) (h:HH) {g:Nat->Bool}{e m:Nat} (hm:m<=e) {o:Option Nat} (h1:o=none->g m=false) (h2:∀ j,o=some j->j<=e/\g j=true/\(j=m↔g m=true)) :
 BT.ev F G rL [some (.p (aP o)),some (.p (.lst (af (mom g e)))),some (.p (.int (m:Int)))] h=some (.p (.bl false),h):=by
 have c1:dO .mem (.int (m:Int)) (.lst (af (mom g e)))=some (g m):=by rw[aJ,if_pos (qk _ _),tY hm]
 cases o with
 | none =>
  rw[h1 rfl] at c1
  simp[-aJ,-aE,rL,c1]
 | some j =>
  obtain ⟨j1,j2,j3⟩:=h2 j rfl
  have c2:dO .nmem (.int (j:Int)) (.lst (af (mom g e)))=some false:=by rw[aE,if_pos (qk _ _),tY j1,j2];rfl
  by_cases z:j=m
  ·subst z
   rw[j2] at c1
   simp[-aJ,-aE,rL,c1,c2]
  ·have gm:g m=false:=by
    cases q:g m with
    | false=>rfl
    | true=>exact absurd (j3.mpr q) z
   have z':((j:Int)==(m:Int))=false:=beq_eq_false_iff_ne.mpr (by omega)
   rw[gm] at c1
   simp[-aJ,-aE,rL,c1,c2,z,z']
theorem IW (F:FK->List W->HH->Option (W×HH)) (w0 w1 w2 w3 w4 w5 w7:W) (rest:Sl) (h:HH) {g:Nat->Bool}{e m:Nat} (hm:m<=e) {o1 o2:Option Nat} (F1:FL g 0 m o1) (F2:FF g m e o2) :
 BT.ev F G IQ (some w0 :: some w1 :: some w2 :: some w3 :: some w4 :: some w5 :: some (.p (.lst (af (mom g e)))) :: some w7 :: some (.p (.int (m:Int))) :: some (.p (aP o1)) :: some (.p (aP o2)) :: rest) h=some (.p (.lst []),h):=by
 have q1:=Di (G:=G) F h hm (o:=o1) (fun z=>F1.no z m (N5 _) (Nu _)) fun j z=>by
  obtain ⟨_,a2,a3,a4⟩:=F1.yes j z
  refine ⟨by omega,a3,fun z=>by rw[← z];exact a3,fun gm=>?_⟩
  rcases NK j m with q | q
  ·rw[a4 m q (Nu _)] at gm;cases gm
  ·omega
 have q2:=Di (G:=G) F h hm (o:=o2) (fun z=>F2.no z m (Nu _) hm) fun j z=>by
  obtain ⟨a1,a2,a3,a4⟩:=F2.yes j z
  refine ⟨a2,a3,fun z=>by rw[← z];exact a3,fun gm=>?_⟩
  rcases NK m j with q | q
  ·rw[a4 m (Nu _) q] at gm;cases gm
  ·omega
 have c:=FP (cE (evs F G (.cons rL .nil)) (BT.ev F G (.var 0 "_law_at")) [some (.p (.lst (af (mom g e)))),some (.p (.int (m:Int)))]) aP (fun _=>none) h [o1,o2] (fun o ho=>by
  have hq:BT.ev F G rL [some (.p (aP o)),some (.p (.lst (af (mom g e)))),some (.p (.int (m:Int)))] h=some (.p (.bl false),h):=by
   rcases List.mem_cons.mp ho with z | z
   ·rw[z];exact q1
   ·rw[List.mem_singleton.mp z];exact q2
  simp[cE,bQ,hq])
 rw[lH] at c
 exact jo (ws:=[.p (.tup [aP o1,aP o2])]) (h1:=h) (fs:=[some (.p (.lst (af (mom g e)))),some (.p (.int (m:Int)))]) (by simp) rfl rfl rfl c (by simp)
theorem IX (A:oH T G) (k:Nat) (w0 w1 w2 w4 w5 w6 w7 w8 w9 wa wb wc wd:W) (rest:Sl) {n r:Nat}{t:Tp}{h:HH}{e ev:Nat} (a:TAt h n r t) (I:TI t e ev) (c:Nat) :
 ∃ h' r' t',BT.ev (runN T G (k+13)) G IR (some w0 :: some w1 :: some w2 :: some (.o n) :: some w4 :: some w5 :: some w6 :: some w7 :: some w8 :: some w9 :: some wa :: some wb :: some wc :: some wd :: some (.p (.int (c:Int))) :: some (.p (.lst (af (mom (gvi t c) e)))) :: rest) h=some (.p (.lst []),h')/\TAt h' n r' t'/\TI t' e ev/\Sm8 t t':=by
 obtain ⟨h',cc,r',t',a',I',s'⟩:=zh (cE (evs (runN T G (k+13)) G (.cons FY .nil)) (BT.ev (runN T G (k+13)) G (.var 0 "_law_at")) [some (.o n),some (.p (.int (c:Int)))]) (fun (i:Nat)=>D.int (i:Int)) (fun _=>none) (fun h=>∃ r' t',TAt h n r' t'/\TI t' e ev/\Sm8 t t') (mom (gvi t c) e) (fun i hi h ⟨r1,t1,a1,I1,s1⟩=>by
  obtain ⟨i1,i2⟩:=jq.mp hi
  obtain ⟨o,h2,r2,t2,b2,F2,g2,I2,s2⟩:=lE A.P A.L.b A.Vi k a1 I1 c i i1
  rw[zk s1] at F2
  have ho:o=some i:=by
   cases o with
   | none=>rw[F2.no rfl i (N5 _) (Nu _)] at i2;cases i2
   | some j =>
    obtain ⟨_,a2,a3,a4⟩:=F2.yes j rfl
    rcases NK j i with q | q
    ·rw[a4 i q (Nu _)] at i2;cases i2
    ·rw[show j=i by omega]
  rw[ho,ze] at b2
  refine ⟨h2,?_,r2,t2,g2.b,I2,s1.trans s2⟩
  simp[cE,bQ,FY,b2]) h ⟨r,t,a,I,.refl t⟩
 refine ⟨h',r',t',?_,a',I',s'⟩
 rw[lH] at cc
 exact jo (ws:=[.p (.lst (af (mom (gvi t c) e)))]) (h1:=h) (fs:=[some (.o n),some (.p (.int (c:Int)))]) (by simp) rfl rfl rfl cc (by simp)
theorem zC (A:oH T G) (k:Nat) (w0 w1 w2 w4 w5 w6 w7 w8 w9 wa wb wc:W) (x15:Option W) (rest:Sl) {n r:Nat}{t:Tp}{h:HH}{e ev:Nat} (a:TAt h n r t) (I:TI t e ev) (c:Nat) (E:List Nat) (hE:E.length<=50000) :
 ∃ h' r' t',evS (runN T G (k+13)) G rM (some w0 :: some w1 :: some w2 :: some (.o n) :: some w4 :: some w5 :: some w6 :: some w7 :: some w8 :: some w9 :: some wa :: some wb :: some wc :: some (.p (.lst (af E))) :: some (.p (.int (c:Int))) :: x15 :: rest) h=some (.nx (some w0 :: some w1 :: some w2 :: some (.o n) :: some w4 :: some w5 :: some w6 :: some w7 :: some w8 :: some w9 :: some wa :: some wb :: some wc :: some (.p (.lst (af (E++mom (gvi t c) e)))) :: some (.p (.int (c:Int))) :: some (.p (.lst (af (mom (gvi t c) e)))) :: rest) h')/\TAt h' n r' t'/\TI t' e ev/\Sm8 t t':=by
 have le:=I.run.le
 have m1:=I.m1
 have b1:=rH A.P A.R A.Vi (k+1) a I c
 obtain ⟨h2,r2,t2,b2,a2,I2,s2⟩:=IX A k w0 w1 w2 w4 w5 w6 w7 w8 w9 wa wb wc (.p (.lst (af (E++mom (gvi t c) e)))) rest a I c
 refine ⟨h2,r2,t2,?_,a2,I2,s2⟩
 have e1:af E++af (mom (gvi t c) e)=af (E++mom (gvi t c) e):=by unfold af;rw[Qg]
 have ml:=kh (gvi t c) e
 have l1:(af E).length+(af (mom (gvi t c) e)).length<=100000:=by rw[gH,gH];omega
 simp[rM,b1,e1,l1,b2]
theorem qm (A:oH T G) (k:Nat) (w0 w1 w2 w4 w5 w6 w7 w8 w9 wa wb wc:W) (rest:Sl) (n e ev:Nat):∀ (q c:Nat) (x14 x15:Option W) (E:List Nat) (h:HH) (r:Nat) (t:Tp),TAt h n r t->TI t e ev->E.length+q*(e+1)<=50000 →
 ∃ y14 y15 h' r' t',bK (evS (runN T G (k+13)) G rM) [(14,"_law_place")] (upto (c:Int) q) (some w0 :: some w1 :: some w2 :: some (.o n) :: some w4 :: some w5 :: some w6 :: some w7 :: some w8 :: some w9 :: some wa :: some wb :: some wc :: some (.p (.lst (af E))) :: x14 :: x15 :: rest) h=some (.nx (some w0 :: some w1 :: some w2 :: some (.o n) :: some w4 :: some w5 :: some w6 :: some w7 :: some w8 :: some w9 :: some wa :: some wb :: some wc :: some (.p (.lst (af (E++vis t e c q)))) :: y14 :: y15 :: rest) h')/\TAt h' n r' t'/\TI t' e ev/\Sm8 t t'
 | 0,c,x14,x15,E,h,r,t,a,I,hE=>⟨x14,x15,h,r,t,by show some _=_;rw[show vis t e c 0=[] from rfl,Oa],a,I,.refl t⟩
 | q+1,c,x14,x15,E,h,r,t,a,I,hE=>by
  rw[Nat.succ_mul] at hE
  obtain ⟨h1,r1,t1,b1,a1,I1,s1⟩:=zC A k w0 w1 w2 w4 w5 w6 w7 w8 w9 wa wb wc x15 rest a I c E (by omega)
  have hl:=kh (gvi t c) e
  obtain ⟨z14,z15,h2,r2,t2,b2,a2,I2,s2⟩:=qm A k w0 w1 w2 w4 w5 w6 w7 w8 w9 wa wb wc rest n e ev q (c+1) (some (.p (.int (c:Int)))) (some (.p (.lst (af (mom (gvi t c) e))))) (E++mom (gvi t c) e) h1 r1 t1 a1 I1 (by rw[NT];omega)
  rw[zy s1,Ot] at b2
  refine ⟨z14,z15,h2,r2,t2,?_,a2,I2,s1.trans s2⟩
  have st:∀ (d:D) (l:List D),bK (evS (runN T G (k+13)) G rM) [(14,"_law_place")] (d :: l) (some w0 :: some w1 :: some w2 :: some (.o n) :: some w4 :: some w5 :: some w6 :: some w7 :: some w8 :: some w9 :: some wa :: some wb :: some wc :: some (.p (.lst (af E))) :: x14 :: x15 :: rest) h=fY (evS (runN T G (k+13)) G rM (some w0 :: some w1 :: some w2 :: some (.o n) :: some w4 :: some w5 :: some w6 :: some w7 :: some w8 :: some w9 :: some wa :: some wb :: some wc :: some (.p (.lst (af E))) :: some (.p d) :: x15 :: rest) h) (bK (evS (runN T G (k+13)) G rM) [(14,"_law_place")] l):=fun d l=>rfl
  have e1:(c:Int)+1=((c+1:Nat):Int):=by omega
  rw[iO,st,b1,cJ,e1,b2]
  rfl
structure Tld (h:HH) (n r q:Nat) (js:List Nat):Prop where
 at_:lat h q=some (af js)
 n1:q≠n
 n2:q≠r
theorem Tld.go {n q:Nat}{h h':HH}{r r':Nat}{t t':Tp}{js:List Nat} (d:Tld h n r q js) (g:Go n h r t h' r' t'):Tld h' n r' q js:=by
 have lt:=jF d.at_
 refine ⟨?_,d.n1,?_⟩
 ·rw[← d.at_];exact yU (g.fr q d.n1 d.n2 lt)
 ·rcases g.len with ⟨_,z⟩ | z
  ·rw[z];exact d.n2
  ·omega
theorem Tld.put {n q:Nat}{h:HH}{r:Nat}{t:Tp}{js:List Nat} (d:Tld h n r q js) (a:TAt h n r t) (j:Nat):Tld (h.set q (.l (af js++[.int (j:Int)]))) n r q (js++[j])/\TAt (h.set q (.l (af js++[.int (j:Int)]))) n r t:=by
 have lt:=jF d.at_
 refine ⟨⟨?_,d.n1,d.n2⟩,?_,?_⟩
 ·rw[qa lt]
  show some _=_
  unfold af
  rw[Qg];rfl
 ·rw[lA (fun z=>d.n1 z.symm)];exact a.ob
 ·rw[iN (fun z=>d.n2 z.symm)];exact a.li
theorem zD (A:oH T G) (k:Nat) (w0 w2 w4 w5 w6 w7 w8 w9 wa wb wc wd:W) (we wf:Option W) (x19 x20:Option W) {n r q:Nat}{t:Tp}{h:HH}{e ev:Nat} (a:TAt h n r t) (I:TI t e ev) {js:List Nat} (d:Tld h n r q js) (hj:js.length < 100000) (c:Nat) (w:Int) (hw:(itr t.p t.asked e).said[c]?=some w) :
 ∃ (y20:Option W) (j:Nat) (h':HH) (r':Nat) (t':Tp),evS (runN T G (k+13)) G lG [some w0,some (.p (bC t.p)),some w2,some (.o n),some w4,some w5,some w6,some w7,some w8,some w9,some wa,some wb,some wc,some wd,we,wf,some (.r q),some (.p (.int (c:Int))),some (.p (.int w)),x19,x20] h=some (.nx [some w0,some (.p (bC t.p)),some w2,some (.o n),some w4,some w5,some w6,some w7,some w8,some w9,some wa,some wb,some wc,some wd,we,wf,some (.r q),some (.p (.int (c:Int))),some (.p (.int w)),some (.p (.int (j:Int))),y20] h') ∧
  TAt h' n r' t'/\TI t' e ev/\Sm8 t t'/\Tld h' n r' q (js++[j])/\j<=e/\(itr t.p t.asked j).said.length=c+1:=by
 obtain ⟨o,h1,r1,t1,b1,F1,g1,I1,s1⟩:=ig A.P A.L.f A.Sd k a I c
 have cl:c < (itr t.p t.asked e).said.length:=(List.getElem?_eq_some_iff.mp hw).1
 cases o with
 | none =>
  have:=F1.no rfl e (N5 _) (Nu _)
  simp[gsd] at this
  omega
 | some j =>
  obtain ⟨i,s,rfl,i2,i3,i4⟩:=rJ F1 hw
  have ie:i+1<=e:=(F1.yes _ rfl).2.1
  obtain ⟨h2,r2,t2,b2,g2,I2,s2,_⟩:=oA A.P (k+2) g1.b I1 i (by omega)
  have ok:=(I.ok _ (NJ i2):lY s)
  obtain ⟨h3,r3,t3,b3,g3,I3,s3⟩:=lD A.P A.S (k+1) g2.b I2 s (by have:=ok.2;omega) ok.1 i (by omega)
  obtain ⟨h4,r4,t4,b4,g4,I4,s4⟩:=jO A.P A.Sd (k+1) g3.b I3 (i+1) ie
  have S1:=s1
  have S2:=s1.trans s2
  have S3:=S2.trans s3
  rw[S1.p,S1.asked] at b2
  rw[S2.p,S2.asked,i3] at b3
  rw[S3.p,S3.asked] at b4
  have d4:=((((d.go g1).go g2).go g3).go g4)
  obtain ⟨d5,a5⟩:=d4.put g4.b (i+1)
  refine ⟨some (.p (Rw.say s).enc),i+1,_,r4,t4,?_,a5,I4,S3.trans s4,d5,ie,i4⟩
  have e1:((i+1:Nat):Int) - 1=(i:Int):=by omega
  have ix:bM (bC t.p) (.int ((itr t.p t.asked i).row:Int))=some (Rw.say s).enc:=by
   show atP _ _=_
   rw[j9,N1,i2];rfl
  have i0:bM (itr t.p t.asked i).enc (.int 0)=some (.int ((itr t.p t.asked i).row:Int)):=rfl
  have j0:bM (Rw.say s).enc (.int 0)=some (.str "say"):=rfl
  have j1:bM (Rw.say s).enc (.int 1)=some s.enc:=rfl
  have ln:(aa (itr t.p t.asked (i+1)).said).length=c+1:=by unfold aa;rw[NP];exact i4
  have c1:((c+1:Nat):Int)=(c:Int)+1:=by omega
  have l4:=d4.at_
  rw[ze] at b1
  generalize hz:((i+1:Nat):Int)=z at b1 b4 e1 ⊢
  generalize (itr t.p t.asked i).enc=di at b2 i0
  generalize (Rw.say s).enc=ds at ix j0 j1 ⊢
  have l1:(af js).length < 100000:=by rw[gH];exact hj
  simp[-wZ,-bH,lG,IS,b1,g1.b.ob,y9,e1,b2,i0,ix,j0,j1,b3,b4,ln,c1,l4,l1]
theorem qo (A:oH T G) (k:Nat) (w0 w1 w2 w4 w5 w6 w7 w8 w9 wa wb wc wd:W) (we wf:Option W) (n q e ev:Nat):∀ (ws:List Int) (c:Nat) (js:List Nat) (x17 x18 x19 x20:Option W) (h:HH) (r:Nat) (t:Tp),TAt h n r t->TI t e ev->w1=.p (bC t.p)->Tld h n r q js->js.length+ws.length < 100000->(itr t.p t.asked e).said.drop c=ws →
 ∃ (new:List Nat) (y17 y18 y19 y20:Option W) (h':HH) (r':Nat) (t':Tp),bK (evS (runN T G (k+13)) G lG) [(17,"_law_number"),(18,"_law_worth")] (ay c (aa ws)) [some w0,some w1,some w2,some (.o n),some w4,some w5,some w6,some w7,some w8,some w9,some wa,some wb,some wc,some wd,we,wf,some (.r q),x17,x18,x19,x20] h=some (.nx [some w0,some w1,some w2,some (.o n),some w4,some w5,some w6,some w7,some w8,some w9,some wa,some wb,some wc,some wd,we,wf,some (.r q),y17,y18,y19,y20] h') ∧
  TAt h' n r' t'/\TI t' e ev/\Sm8 t t'/\Tld h' n r' q (js++new)/\new.length=ws.length/\∀ (i j:Nat),new[i]?=some j->j<=e/\(itr t.p t.asked j).said.length=c+i+1
 | [],c,js,x17,x18,x19,x20,h,r,t,a,I,_,d,_,_=>⟨[],x17,x18,x19,x20,h,r,t,rfl,a,I,.refl t,by rw[Oa];exact d,rfl,fun i j z=>by simp at z⟩
 | w :: ws,c,js,x17,x18,x19,x20,h,r,t,a,I,hp,d,hj,hd=>by
  have hw:(itr t.p t.asked e).said[c]?=some w:=by
   have:((itr t.p t.asked e).said.drop c)[0]?=some w:=by rw[hd];rfl
   simpa using this
  have hd2:(itr t.p t.asked e).said.drop (c+1)=ws:=by
   have:=congrArg (List.drop 1) hd
   rw[List.drop_drop] at this
   simpa using this
  rw[NS] at hj
  obtain ⟨y20,j,h1,r1,t1,b1,a1,I1,s1,d1,j1,j2⟩:=zD A k w0 w2 w4 w5 w6 w7 w8 w9 wa wb wc wd we wf x19 x20 a I d (by omega) c w hw
  obtain ⟨new,z17,z18,z19,z20,h2,r2,t2,b2,a2,I2,s2,d2,l2,p2⟩:=qo A k w0 w1 w2 w4 w5 w6 w7 w8 w9 wa wb wc wd we wf n q e ev ws (c+1) (js++[j]) (some (.p (.int (c:Int)))) (some (.p (.int w))) (some (.p (.int (j:Int)))) y20 h1 r1 t1 a1 I1 (by rw[s1.p];exact hp) d1 (by rw[NT,Pj];omega) (by rw[s1.p,s1.asked];exact hd2)
  rw[← hp] at b1
  refine ⟨j :: new,z17,z18,z19,z20,h2,r2,t2,?_,a2,I2,s1.trans s2,by rw[Ot] at d2;exact d2,by simp[l2],fun i y z=>?_⟩
  ·have st:∀ (l:List D),bK (evS (runN T G (k+13)) G lG) [(17,"_law_number"),(18,"_law_worth")] (.tup [.int (c:Int),.int w] :: l) [some w0,some w1,some w2,some (.o n),some w4,some w5,some w6,some w7,some w8,some w9,some wa,some wb,some wc,some wd,we,wf,some (.r q),x17,x18,x19,x20] h=fY (evS (runN T G (k+13)) G lG [some w0,some w1,some w2,some (.o n),some w4,some w5,some w6,some w7,some w8,some w9,some wa,some wb,some wc,some wd,we,wf,some (.r q),some (.p (.int (c:Int))),some (.p (.int w)),x19,x20] h) (bK (evS (runN T G (k+13)) G lG) [(17,"_law_number"),(18,"_law_worth")] l):=fun l=>rfl
   show bK _ _ (.tup [.int (c:Int),.int w] :: ay (c+1) (aa ws)) _ _=_
   rw[st,b1,cJ,b2]
  ·cases i with
   | zero =>
    have:j=y:=by simpa using z
    subst this
    exact ⟨j1,j2⟩
   | succ i =>
    have:=p2 i y (by simpa using z)
    rw[s1.p,s1.asked] at this
    exact ⟨this.1,by omega⟩
theorem Cj {t:Tp}{c:Nat}{js:List Nat} (h:∀ (i j:Nat),js[i]?=some j->(itr t.p t.asked j).said.length=c+i+1):js.Pairwise (· < ·):=by
 rw[List.pairwise_iff_getElem]
 intro i j hi hj hij
 have h1:=h i _ (NB hi)
 have h2:=h j _ (NB hj)
 rcases NK js[i] js[j] with z | z
 ·exact z
 ·have:=tX (p:=t.p) (asked:=t.asked) z
  omega
theorem Ck {js:List Nat} (h:js.Pairwise (· < ·)) (hl:js.length < 64):biD .sset [.lst (af js)]=some (.lst (af js)):=by
 have nd:(qj js).Nodup:=Si _ (fun a b h=>by omega) h
 have le:js.Pairwise (·<=·):=h.imp fun h=>OI h
 rw[fO,pA,jH,OJ,if_pos (by unfold qj;rw[NP];exact hl),zm _ _ rfl nd,nh (.refl _) le]
 rfl
theorem IY (A:oH T G) (k:Nat) (w0 w1 w2 w4 w5 w6 w7 w8 w9 wa wb wc wd:W) (we wf:Option W) (rest:Sl) {n r q:Nat}{t:Tp}{h:HH}{e ev:Nat} (a:TAt h n r t) (I:TI t e ev) {js:List Nat} (d:Tld h n r q js) (hr:js.Pairwise (· < ·)) (hl:js.length < 64) (hs:(itr t.p t.asked e).said.length=js.length) :
 ∃ h',BT.ev (runN T G (k+13)) G FZ (some w0 :: some w1 :: some w2 :: some (.o n) :: some w4 :: some w5 :: some w6 :: some w7 :: some w8 :: some w9 :: some wa :: some wb :: some wc :: some wd :: we :: wf :: some (.r q) :: rest) h=some (.p (.bl true),h'):=by
 obtain ⟨o,h1,r1,t1,b1,F1,g1,I1,s1⟩:=ig A.P A.L.f A.Sd k a I js.length
 have on:o=none:=by
  cases o with
  | none=>rfl
  | some j =>
   obtain ⟨_,f2,f3,_⟩:=F1.yes j rfl
   have f3:js.length < (itr t.p t.asked j).said.length:=by simpa [gsd] using f3
   have:=tX (p:=t.p) (asked:=t.asked) f2
   omega
 rw[on,zd] at b1
 refine ⟨h1,?_⟩
 have ss:=Ck hr hl
 have d1:dO .eq (.lst (af js)) (.lst (af js))=some true:=by rw[nF,if_pos (gi (by rw[fO];exact rK _)),jl]
 have l4:=d.at_
 have ln:=gH js
 generalize af js=L at *
 simp[-nF,FZ,rd,l4,ss,d1,ln,b1]
noncomputable def loO:Option Nat->Int
 | none=>-1
 | some j=>(j:Int)
noncomputable def hiO (e:Nat):Option Nat->Int
 | none=>(e:Int)+1
 | some j=>(j:Int)
theorem IZ (F:FK->List W->HH->Option (W×HH)) (w0 w1 w2 w3 w4 w5 w6 w7 w8:W) (rest:Sl) (h:HH) (o:Option Nat) :
 BT.ev F G F3 (some w0 :: some w1 :: some w2 :: some w3 :: some w4 :: some w5 :: some w6 :: some w7 :: some w8 :: some (.p (aP o)) :: rest) h=some (.p (.int (loO o)),h):=by
 cases o<;>simp[F3,loO]
theorem Ja (F:FK->List W->HH->Option (W×HH)) (w0 w1 w2 w3 w4 w6 w7 w8 w9:W) (rest:Sl) (h:HH) (e:Nat) (o:Option Nat) :
 BT.ev F G F6 (some w0 :: some w1 :: some w2 :: some w3 :: some w4 :: some (.p (.int (e:Int))) :: some w6 :: some w7 :: some w8 :: some w9 :: some (.p (aP o)) :: rest) h=some (.p (.int (hiO e o)),h):=by
 cases o<;>simp[F6,hiO]
theorem Jb (A:oH T G) (k:Nat) (w0 w1 w2 w5 w6 w7 w9 wa:W) (rest:Sl) {n r:Nat}{t:Tp}{h:HH}{e ev:Nat} (a:TAt h n r t) (I:TI t e ev) (s:Sm) (hs:s.size<=40000) (hok:s.ok) {m:Nat} (hm:m<=e) {o1 o2:Option Nat} (F1:FL (gso t s) 0 m o1) (F2:FF (gso t s) m e o2) :
 ∃ h' r' t',BT.ev (runN T G (k+13)) G FU (some w0 :: some w1 :: some w2 :: some (.o n) :: some (.p s.enc) :: some w5 :: some w6 :: some w7 :: some (.p (.int (m:Int))) :: some w9 :: some wa :: some (.p (.int (loO o1))) :: some (.p (.int (hiO e o2))) :: rest) h=some (.p (.bl false),h')/\TAt h' n r' t'/\TI t' e ev/\Sm8 t t':=by
 obtain ⟨x,x1,x2,x3⟩:∃ x:Nat,loO o1+1=(x:Int)/\x<=m+1/\∀ i,x<=i->i<=m->gso t s i=false:=by
  cases o1 with
  | none=>exact ⟨0,rfl,by omega,fun i _ h=>F1.no rfl i (N5 _) h⟩
  | some j =>
   obtain ⟨_,a2,a3,a4⟩:=F1.yes j rfl
   exact ⟨j+1,by simp[loO],by omega,fun i h1 h2=>a4 i h1 h2⟩
 obtain ⟨y,y1,y2,y3,y4⟩:∃ y:Nat,hiO e o2=(y:Int)/\m<=y/\y<=e+1/\∀ i,m<=i->i < y->gso t s i=false:=by
  cases o2 with
  | none=>exact ⟨e+1,by simp[hiO],by omega,by omega,fun i h1 h2=>F2.no rfl i h1 (by omega)⟩
  | some j =>
   obtain ⟨a1,a2,a3,a4⟩:=F2.yes j rfl
   exact ⟨j,rfl,a1,by omega,fun i h1 h2=>a4 i h1 h2⟩
 obtain ⟨h1,r1,t1,b1,a1,I1,s1⟩:=IV A k w0 w1 w2 w5 w6 w7 (.p (.int (m:Int))) w9 wa rest a I s hs hok (loO o1) (hiO e o2) x y x1 y1 (by omega) y3 fun i p1 p2=>by
  rcases NK m i with q | q
  ·exact y4 i (by omega) p2
  ·exact x3 i p1 q
 refine ⟨h1,r1,t1,?_,a1,I1,s1⟩
 have c1:loO o1<=(m:Int):=by omega
 have c2:(m:Int)<=hiO e o2:=by omega
 simp[FU,b1,c1,c2]
theorem Jc (k:Nat) (w0:W) (dpg das ds:D) (W6 W7:W) (e:Int) (H0 h1 h11:HH) (fs0:List (Str×W)) (ob:oat H0 0=some (NN "Tape",fs0)) (me:bf "end" fs0=none)
 (rs:∀ h,runN T G (k+13) "_law_sum" [w0,.p (.int 460),.p (.int 2)] h=some (.p ds,h))
 (b1:runN T G (k+13) (.m "Tape" "end") [.o 0] H0=some (.p (.int e),h1))
 (b2:runN T G (k+13) "moments_so" [.o 0,.p ds] h1=some (W6,h1))
 (b3:runN T G (k+13) "moments_so" [.o 0,.p (.tup [.str "sub",.tup [.str "num",.int 1],.tup [.str "less",.tup [.str "num",.int 0],ds]])] h1=some (W7,h1))
 (q1:BT.ev (runN T G (k+13)) G Ce [some w0,some (.p dpg),some (.p das),some (.o 0),some (.p ds),some (.p (.int e)),some W6,some W7,none,none,none,none,none,none,none,none,none,none,none,none,none] h1=some (.p (.bl false),h1))
 (tm:evS (runN T G (k+13)) G Cf [some w0,some (.p dpg),some (.p das),some (.o 0),some (.p ds),some (.p (.int e)),some W6,some W7,none,none,none,none,none,none,none,none,none,none,none,none,none] h1=some (.rt (.p (.bl true)) h11)) :
 evS (runN T G (k+13)) G Cg [some w0,some (.p dpg),some (.p das),some (.o 0),none,none,none,none,none,none,none,none,none,none,none,none,none,none,none,none,none] H0=some (.rt (.p (.bl true)) h11):=by
 simp[-i7,tnx,Cg,rs,ob,me,b1,b2,b3,q1,tm]
theorem Cn (k:Nat) (w0:W) (v1 mo z1:Int) (dpg das:D) (H0 h11:HH) (hL:T "law"=some fQ)
 (rp:∀ h,runN T G (k+13) "_law_program" [w0,.p (.int 20)] h=some (.p dpg,h)) (ra:∀ h,runN T G (k+13) "_law_asked" [w0,.p (.int 450)] h=some (.p das,h))
 (r1:∀ h,runN T G (k+13) "_law_drawn" [w0,.p (.int 440),.p (.int 15)] h=some (.p (.int mo),h)) (r2:∀ h,runN T G (k+13) "_law_drawn" [w0,.p (.int 441),.p (.int 5)] h=some (.p (.int v1),h)) (c1:1+v1=z1)
 (in1:runN T G (k+13) (.m "Tape" "__init__") [.o 0,.p dpg,.p das,.p (.int z1),.p (.int mo)] [.o "Tape" []]=some (.p .non,H0))
 (tn:evS (runN T G (k+13)) G Cg [some w0,some (.p dpg),some (.p das),some (.o 0),none,none,none,none,none,none,none,none,none,none,none,none,none,none,none,none,none] H0=some (.rt (.p (.bl true)) h11))
 (f0:fin [] (.p (.bl true)) h11=some (.p (.bl true),[])):runN T G (k+14) "law" [w0] []=some (.p (.bl true),[]):=by
 have t0:evS (runN T G (k+13)) G Ci [some w0,none,none,none,none,none,none,none,none,none,none,none,none,none,none,none,none,none,none,none,none] []=some (.rt (.p (.bl true)) h11):=by
  simp[-i7,tnx,Ci,rp,ra,r1,r2,c1,in1,tn]
 rw[run_eq hL rfl]
 show lU (evS (runN T G (k+13)) G Ci [some w0,none,none,none,none,none,none,none,none,none,none,none,none,none,none,none,none,none,none,none,none] []) (fin [])=_
 rw[t0]
 exact f0
theorem vJ (A:oH T G) (M:TpE T) (Lx:Mj T) (ns:List Int) (hl:ns.length<=1000) (k:Nat):∃ h',runN T G (k+14) "law" [.p (.lst (aa ns))] []=some (.p (.bl true),h'):=by
 have P:=A.P
 obtain ⟨pg,dp,rp⟩:=p8 (G:=G) Lx.lw Lx.program ns hl 20
 obtain ⟨asked,ha,hal,ra⟩:=vF (G:=G) Lx.lw ns hl 450
 have rp':=rp (k+6)
 have ra':=ra (k+10)
 obtain ⟨mo,hmo,rmo⟩:=jG (G:=G) Lx.lw ns hl 440 15 (by decide)
 obtain ⟨v1,hv1,rv1⟩:=jG (G:=G) Lx.lw ns hl 441 5 (by decide)
 have rmo':=rmo (k+11)
 have rv1':=rv1 (k+11)
 obtain ⟨s,sok,ssz,rs⟩:=oj (G:=G) Lx.lw ns hl 2 460
 have rs':∀ h,runN T G (k+13) "_law_sum" [.p (.lst (aa ns)),.p (.int 460),.p (.int 2)] h=some (.p s.enc,h):=rs (k+8)
 have sz:s.size<=7:=by have:2 ^ (2+1)=8:=rfl;omega
 obtain ⟨e,R,es⟩:=B0 pg asked mo
 have le:=R.le
 have c1:1+(v1:Int)=((v1+1:Nat):Int):=by omega
 have in1:runN T G (k+13) (.m "Tape" "__init__") [.o 0,.p (bC pg),.p (.lst (aa asked)),.p (.int ((v1+1:Nat):Int)),.p (.int (mo:Int))] [.o "Tape" []]=some (.p .non,[.o "Tape" ((Tp.new pg asked (v1+1) mo).fs 1),.l [St.zero.enc]]):=zc P (k+11) pg asked (v1+1) mo (by omega) []
 have A0:TAt [.o "Tape" ((Tp.new pg asked (v1+1) mo).fs 1),.l [St.zero.enc]] 0 1 (Tp.new pg asked (v1+1) mo):=FN [] pg asked (v1+1) mo
 have I0:TI (Tp.new pg asked (v1+1) mo) e (v1+1):=FM dp.ok ha R (by omega) (by omega) (by omega)
 obtain ⟨h1,r1,t1,b1,g1,I1,s1,f1⟩:=zg P M (k+4) A0 I0
 have tp1:t1.p=pg:=s1.p
 have ta1:t1.asked=asked:=s1.asked
 obtain ⟨m,hm,rm⟩:=jG (G:=G) Lx.lw ns hl 443 ((e:Int)+1) (by omega)
 have hm:m<=e:=by omega
 have rm':=rm (k+11)
 have b2:=gG P A.R A.So (k+1) g1.b I1 s (by omega) sok
 have ok2:(Sm.two .sub (.num 1) (.two .less (.num 0) s)).ok:=⟨⟨by decide,by decide⟩,⟨by decide,by decide⟩,sok⟩
 have b3:=gG P A.R A.So (k+1) g1.b I1 (.two .sub (.num 1) (.two .less (.num 0) s)) (by simp[Sm.size];omega) ok2
 have e3:(Sm.two .sub (.num 1) (.two .less (.num 0) s)).enc=.tup [.str "sub",.tup [.str "num",.int 1],.tup [.str "less",.tup [.str "num",.int 0],s.enc]]:=rfl
 rw[e3] at b3
 have pm:=zw (gso t1 s) (gso t1 (.two .sub (.num 1) (.two .less (.num 0) s))) e fun i hi=>by
  have w:=Sm.mW (dN I1.ok I1.ask I1.run i hi).ok sok
  unfold gso sv
  show (!(BT.two .sub 1 (BT.two .less 0 (s.val (itr t1.p t1.asked i)))==0))=!!(s.val (itr t1.p t1.asked i)==0)
  have w1:=w.1
  generalize s.val (itr t1.p t1.asked i)=v at w1
  by_cases z:v=0
  ·subst z;decide
  ·have z1:(0:Int) < v:=by omega
   simp only[BT.two,if_pos z1]
   rw[beq_eq_false_iff_ne.mpr z]
   decide
 have q1:=IT (G:=G) (runN T G (k+13)) (.p (.lst (aa ns))) (.p (bC pg)) (.p (.lst (aa asked))) (.o 0) (.p s.enc) [none,none,none,none,none,none,none,none,none,none,none,none,none] h1 e (by omega) _ _ pm
 obtain ⟨o1,h4,r4,t4,b4,F4,g4,I4,s4⟩:=qf P A.L.b A.So k g1.b I1 s (by omega) sok m hm
 obtain ⟨o2,h5,r5,t5,b5,F5,g5,I5,s5⟩:=qi P A.L.f A.So k g4.b I4 s (by omega) sok m hm
 rw[oF s4] at F5
 have S5:=s4.trans s5
 have ql:=IZ (G:=G) (runN T G (k+13)) (.p (.lst (aa ns))) (.p (bC pg)) (.p (.lst (aa asked))) (.o 0) (.p s.enc) (.p (.int (e:Int))) (.p (.lst (af (mom (gso t1 s) e)))) (.p (.lst (af (mom (gso t1 (.two .sub (.num 1) (.two .less (.num 0) s))) e)))) (.p (.int (m:Int))) [some (.p (aP o2)),none,none,none,none,none,none,none,none,none,none] h5 o1
 have qh:=Ja (G:=G) (runN T G (k+13)) (.p (.lst (aa ns))) (.p (bC pg)) (.p (.lst (aa asked))) (.o 0) (.p s.enc) (.p (.lst (af (mom (gso t1 s) e)))) (.p (.lst (af (mom (gso t1 (.two .sub (.num 1) (.two .less (.num 0) s))) e)))) (.p (.int (m:Int))) (.p (aP o1)) [some (.p (.int (loO o1))),none,none,none,none,none,none,none,none,none] h5 e o2
 rw[← oF S5] at F4 F5
 obtain ⟨h6,r6,t6,b6,a6,I6,s6⟩:=Jb A k (.p (.lst (aa ns))) (.p (bC pg)) (.p (.lst (aa asked))) (.p (.int (e:Int))) (.p (.lst (af (mom (gso t1 s) e)))) (.p (.lst (af (mom (gso t1 (.two .sub (.num 1) (.two .less (.num 0) s))) e)))) (.p (aP o1)) (.p (aP o2)) [none,none,none,none,none,none,none,none] g5.b I5 s (by omega) sok hm F4 F5
 have S6:=S5.trans s6
 rw[oF S5] at F4 F5
 have q7:=IW (G:=G) (runN T G (k+13)) (.p (.lst (aa ns))) (.p (bC pg)) (.p (.lst (aa asked))) (.o 0) (.p s.enc) (.p (.int (e:Int))) (.p (.lst (af (mom (gso t1 (.two .sub (.num 1) (.two .less (.num 0) s))) e)))) [some (.p (.int (loO o1))),some (.p (.int (hiO e o2))),none,none,none,none,none,none,none,none] h6 hm F4 F5
 have hpl:=dp.hi
 have lim:(pg.length+1)*(e+1)<=1001*15:=Nat.mul_le_mul (by omega) (by omega)
 generalize hW6:(W.p (.lst (af (mom (gso t1 s) e))))=W6 at *
 generalize hW7:(W.p (.lst (af (mom (gso t1 (.two .sub (.num 1) (.two .less (.num 0) s))) e))))=W7 at *
 obtain ⟨y14,y15,h7,r7,t7,b7,a7,I7,s7⟩:=qm A k (.p (.lst (aa ns))) (.p (bC pg)) (.p (.lst (aa asked))) (.p s.enc) (.p (.int (e:Int))) W6 W7 (.p (.int (m:Int))) (.p (aP o1)) (.p (aP o2)) (.p (.int (loO o1))) (.p (.int (hiO e o2))) [none,none,none,none,none] 0 e (v1+1) (pg.length+1) 0 none none [] h6 r6 t6 a6 I6 (by simp only[Ow];omega)
 have S7:=S6.trans s7
 have tp6:t6.p=pg:=S6.p.trans tp1
 have tp7:t7.p=pg:=S7.p.trans tp1
 have vp:(vis t6 e 0 (pg.length+1)).Perm (ND (e+1)):=zA fun i hi=>by
  have:=(zo I6.ok I6.run i hi).1
  rw[tp6] at this ⊢
  exact this
 rw[Ph] at b7
 have q8:=IU (G:=G) (runN T G (k+13)) (.p (.lst (aa ns))) (.p (bC pg)) (.p (.lst (aa asked))) (.o 0) (.p s.enc) W6 W7 (.p (.int (m:Int))) (.p (aP o1)) (.p (aP o2)) (.p (.int (loO o1))) (.p (.int (hiO e o2))) [y14,y15,none,none,none,none,none] h7 e (by omega) _ vp
 generalize hW13:(W.p (.lst (af (vis t6 e 0 (pg.length+1)))))=W13 at *
 have a8:=a7.app (g:=[.l []])
 obtain ⟨h9,r9,t9,b9,g9,I9,s9⟩:=jO P A.Sd (k+1) a8 I7 e (Nu _)
 have d8:Tld (h7++[.l []]) 0 r7 h7.length []:=⟨by simp[lat];rfl,fun z=>by have:=jE a7.ob;omega,fun z=>by have:=jF a7.li;omega⟩
 have d9:=d8.go g9
 have sl:=(dN I7.ok I7.ask I7.run e (Nu _)).said
 obtain ⟨new,y17,y18,y19,y20,h10,r10,t10,b10,a10,I10,s10,d10,l10,p10⟩:=qo A k (.p (.lst (aa ns))) (.p (bC pg)) (.p (.lst (aa asked))) (.p s.enc) (.p (.int (e:Int))) W6 W7 (.p (.int (m:Int))) (.p (aP o1)) (.p (aP o2)) (.p (.int (loO o1))) (.p (.int (hiO e o2))) W13 y14 y15 0 h7.length e (v1+1) (itr t7.p t7.asked e).said 0 [] none none none none h9 r9 t9 g9.b I9 (by rw[s9.p,tp7]) d9 (by simp only[Ow];omega) (by rw[s9.p,s9.asked];rfl)
 have rise:new.Pairwise (· < ·):=Cj (t:=t9) (c:=0) fun i j z=>(p10 i j z).2
 rw[Ph] at d10
 obtain ⟨h11,q11⟩:=IY A k (.p (.lst (aa ns))) (.p (bC pg)) (.p (.lst (aa asked))) (.p s.enc) (.p (.int (e:Int))) W6 W7 (.p (.int (m:Int))) (.p (aP o1)) (.p (aP o2)) (.p (.int (loO o1))) (.p (.int (hiO e o2))) W13 y14 y15 [y17,y18,y19,y20] a10 I10 d10 rise (by omega) (by rw[s10.p,s10.asked,s9.p,s9.asked];omega)
 have f0:fin [] (.p (.bl true)) h11=some (.p (.bl true),[]):=by
  have:=jj [] h11 (.bl true)
  simpa using this
 refine ⟨[],?_⟩
 have lp:biD .len [bC pg]=some (.int (pg.length:Int)):=by
  show some (D.int ((pg.map Rw.enc).length:Int))=_
  rw[NP]
 have rg:dZ .rng1 [.int ((pg.length:Int)+1)]=some (upto 0 (pg.length+1)):=by
  rw[bE]
  have c:((-100000<=((pg.length:Int)+1):Bool)&&(((pg.length:Int)+1)<=100000:Bool))=true:=by
   simp only[Nt,decide_eq_true_eq];omega
  rw[if_pos c,show ((pg.length:Int)+1).toNat=pg.length+1 by omega]
 generalize hz1:((v1+1:Nat):Int)=z1 at in1 c1
 generalize hup:upto 0 (pg.length+1)=up at rg
 rw[QI,show af []=[] from rfl,hup] at b7
 generalize hen:ay 0 (aa (itr t7.p t7.asked e).said)=en at b10
 generalize bC pg=dpg at *
 have tc:evS (runN T G (k+13)) G F7 [some (.p (.lst (aa ns))),some (.p dpg),some (.p (.lst (aa asked))),some (.o 0),some (.p s.enc),some (.p (.int (e:Int))),some W6,some W7,some (.p (.int (m:Int))),some (.p (aP o1)),some (.p (aP o2)),some (.p (.int (loO o1))),some (.p (.int (hiO e o2))),none,none,none,none,none,none,none,none] h6=some (.rt (.p (.bl true)) h11):=by
  simp[-i7,tnx,-bK,-bE,-ay,F7,lp,rg,gn,b7,q8,b9,hen,b10,q11]
 have tm:evS (runN T G (k+13)) G Cf [some (.p (.lst (aa ns))),some (.p dpg),some (.p (.lst (aa asked))),some (.o 0),some (.p s.enc),some (.p (.int (e:Int))),some W6,some W7,none,none,none,none,none,none,none,none,none,none,none,none,none] h1=some (.rt (.p (.bl true)) h11):=by
  simp[-i7,tnx,-bE,Cf,rm',b4,b5,ql,qh,b6,q7,tc]
 exact Cn k (.p (.lst (aa ns))) (v1:Int) (mo:Int) z1 dpg (.lst (aa asked)) _ h11 Lx.law rp' ra' rmo' rv1' c1 in1 (Jc k (.p (.lst (aa ns))) dpg (.lst (aa asked)) s.enc W6 W7 (e:Int) _ h1 h11 _ A0.ob (IJ _ _) rs' b1 b2 b3 q1 tm) f0
end
end BT
end
section
namespace BF
open PySem PySem.Spec PyProof.Rows L2 BS
noncomputable def rN (P:NG) (w:N2) (K:Nl) (mg:Str->Option Np) (x:Str) (z:BT.W):Prop:=∃ u v,mg x=some u/\RelV v u/\∀ m H,RW P w K m H v z
theorem zE {P:NG}{w:N2}{K:Nl}{h:Heap}{mg:Str->Option Np} (X:K.In h) (G:h.Ns NL mg) {x:Str}{n:Int}{t:Tok} (a:Oe K NL x=some (some (.int n t))):rN P w K mg x (.p (.int n)) :=
 ⟨_,.int n,Pd X G a,⟨t,rfl⟩,fun _ _=>.p (.int n)⟩
inductive cS:List Str->List Np->Prop where
 | nil:cS [] []
 | cons {x:Str}{xs:List Str}{t:Tok}{vs:List Np} (h:PyData.strOk x=true) (r:cS xs vs):cS (x :: xs) (.str x t :: vs)
theorem cS.vals:∀ {xs:List Str}{vs:List Np},cS xs vs->au (xs.map V.str) vs
 | _,_,.nil=>.nil
 | _,_,.cons _ r=>.cons ⟨_,rfl⟩ r.vals
theorem cS.rds {K:Nl}{m:List Addr}{H:Hp}:∀ {xs:List Str}{vs:List Np},cS xs vs->RDs K m H (xs.map V.str) (xs.map BT.D.str)
 | _,_,.nil=>.nil
 | _,_,.cons h r=>.cons (.str _ h) r.rds
theorem cS.len:∀ {xs:List Str}{vs:List Np},cS xs vs->vs.length=xs.length
 | _,_,.nil=>rfl
 | _,_,.cons _ r=>by simp[r.len]
theorem zF {P:NG}{w:N2}{K:Nl}{h:Heap}{mg:Str->Option Np} (X:K.In h) (G:h.Ns NL mg) {x:Str}{f:Addr}{its:Array Np}{n:Nat}{sl:Array (Option Np)}{xs:List Str} (a:Oe K NL x=some (some (.ref f)))
 (l:K.lookup f=some ⟨.type "tuple",none,.seq its n,sl⟩) (hl:xs.length<=1000) (r:cS xs its.toList):rN P w K mg x (.p (.tup (xs.map BT.D.str))):=by
 refine ⟨_,.ref f,Pd X G a,rfl,fun m H=>.p (.tup (.inr ⟨_,its,n,⟨l,rfl,rfl,?_,r.vals⟩,rfl⟩) r.rds)⟩
 have:=r.len
 have e:its.size=xs.length:=by rw[← this];simp
 rw[e]
 exact OI (uP hl)
inductive fq (w:N2):List (Str×Int)->List RT->Prop where
 | nil:fq w [] []
 | cons {x:Str}{n:Int}{kvs:List (Str×Int)}{t u:Tok}{es:List RT} (r:fq w kvs es):fq w ((x,n) :: kvs) (⟨PyData.keyHash w.params x,.str x t,.int n u⟩ :: es)
theorem fq.ex {P:NG}{w:N2}:∀ {kvs:List (Str×Int)}{es:List RT},fq w kvs es->∃ vs:List (Key×Np),KV ((kvs.map fun q=>(q.1,V.int q.2)).map fun q=>((Sum.inr q.1:Key),q.2)) vs/\Pairs (cH P w) es vs/\vs.map (·.1)=kvs.map (fun q=>(Sum.inr q.1:Key))/\(∀ e∈es,∃ k,(cH P w).is k e.key=true/\e.hash=(cH P w).hash k)
 | _,_,.nil=>⟨[],.nil,.nil,rfl,fun e he=>nomatch he⟩
 | _,_,@fq.cons _ x n kvs t u es r=>by
  obtain ⟨vs,h1,h2,h3,h4⟩:=r.ex (P:=P)
  have is:(cH P w).is (Sum.inr x) (.str x t)=true:=by show Rf x (.str x t)=true;simp[Rf]
  refine ⟨(Sum.inr x,.int n u) :: vs,.cons ⟨rfl,u,rfl⟩ h1,.cons is rfl h2,by simp[h3],fun e he=>?_⟩
  rcases List.mem_cons.mp he with rfl | he
  ·exact ⟨Sum.inr x,is,rfl⟩
  ·exact h4 e he
theorem vK {P:NG}{w:N2}{K:Nl}{h:Heap}{mg:Str->Option Np} (X:K.In h) (G:h.Ns NL mg) {x:Str}{f:Addr}{es:Array RT}{n:Nat}{kvs:List (Str×Int)} (a:Oe K NL x=some (some (.ref f)))
 (l:K.lookup f=some { cls:=.type "dict",data:=.dict es n }) (hf:(f==R0)=false) (r:fq w kvs es.toList) (nd:(kvs.map (·.1)).Nodup):rN P w K mg x (.k (kvs.map fun q=>(q.1,BT.D.int q.2))):=by
 obtain ⟨vs,h1,h2,h3,h4⟩:=r.ex (P:=P)
 refine ⟨_,.ref f,Pd X G a,rfl,fun m H=>.k (es:=kvs.map fun q=>(q.1,V.int q.2)) ⟨hf,vs,h1,fun hh Kh=>⟨_,es,n,Kh _ _ l,⟨rfl,rfl,rfl⟩,rfl,fun e he=>h4 e (by simpa using he),h2,?_⟩⟩ ?_⟩
 ·rw[h3]
  have e:(kvs.map fun q=>(Sum.inr q.1:Key))=(kvs.map (·.1)).map Sum.inr:=by simp
  rw[e]
  exact List.pairwise_map.mpr (nd.imp fun h z=>h (Sum.inr.inj z))
 ·clear r nd h1 h2 h3 h4 l
  induction kvs with
  | nil=>exact .nil
  | cons q kvs ih=>exact .cons (fun _ _=>.int _) ih
noncomputable def look {κ α:Type} [DecidableEq κ] (l:List (κ×α)) (x:κ):Option α:=match l with
 | []=>none
 | (y,a) :: r=>if y=x then some a else look r x
theorem gI {κ α:Type} [DecidableEq κ] {Q:κ->α->Prop}:∀ {l:List (κ×α)} (_:∀ p∈l,Q p.1 p.2) {x:κ}{a:α},look l x=some a->Q x a
 | [],_,_,_,e=>by cases e
 | (y,b) :: r,h,x,a,e=>by
  rw[look] at e
  split at e
  ·rename_i z
   cases e
   subst z
   exact h (y,b) NI
  ·exact gI (fun p hp=>h p (NC _ hp)) e
theorem fK {K:Nl}{m:List Addr}{H:Hp}:∀ ns:List Int,RDs K m H (ns.map V.int) (BT.aa ns)
 | []=>.nil
 | n :: r=>.cons (.int n) (fK r)
theorem zG {P:NG}{w:N2}{K:Nl}{g:List BT.W->BT.HH->Option (BT.W×BT.HH)}{H:Hp}{a:Addr}{ns:List Int} (tb:TB K H) (hS:LL K H a (ns.map V.int)) (e:∃ h',g [.p (.lst (BT.aa ns))] []=some (.p (.bl true),h')):spF P w K g [.ref a] H (fun v _=>v=.bl true) fun _ _ _=>False:=by
 obtain ⟨h',e⟩:=e
 refine ⟨[],_,[],_,h',⟨Qn,rfl,fun i a xs z=>by simp at z,tb⟩,.cons (.p (.lst (hS.elim (fun q=>.inl ⟨q,by simp⟩) .inr) (fK ns))) .nil,e,fun v H' m' _ _ r=>jy r⟩
end BF
end
section
namespace BG
open PySem PySem.Spec PySem.Calls PyProof.Rows L2 BS BF
theorem Co {h:Heap}{K:Nl} (H:∀ p∈K,h.get? p.1=some p.2):K.In h:=by
 intro a o e
 obtain ⟨p,hp,he⟩:∃ p∈K,p.1=a/\p.2=o:=by
  clear H
  induction K with
  | nil=>cases e
  | cons q r ih =>
   rw[OV] at e
   split at e
   ·rename_i c
    cases e
    exact ⟨q,NI,(eq_of_beq c).symm,rfl⟩
   ·obtain ⟨p,hp,he⟩:=ih e
    exact ⟨p,NC _ hp,he⟩
 rw[← he.1,← he.2]
 exact H p hp
theorem zH {K:Nl}{f:Addr}{x qual:Str}{st:Sk} (e:zV K f=some (rP x qual st)):∃ fd,Fun K x qual st f fd/\∃ kV doc pm an cdv ct,fd=OS x qual (cG st) (aI st) (aq st) .none kV doc pm an cdv ct:=by
 unfold zV at e
 split at e
 ·rename_i oc od fd sl l
  have e':=NH e
  unfold rP at e'
  obtain ⟨nm,ql,pa,bo,sc,gl,cl,de,kw,dc,pm,an,co,ct,bu⟩:=fd
  simp only[FS.mk.injEq] at e'
  obtain ⟨rfl,rfl,rfl,rfl,rfl,rfl,rfl,rfl,rfl,hc⟩:=e'
  have F:=DY (K:=K) (x:=nm) (qual:=ql) (st:=st) (f:=f) (kV:=kw) (doc:=dc) (pm:=pm) (an:=an) (cdv:=co) (ct:=ct) l hc (by simp only[OD,l])
  exact ⟨_,F,kw,dc,pm,an,co,ct,rfl⟩
 ·cases e
theorem nth {α:Type}{l:List α}{a:α} (i:Nat) (h:l[i]?=some a):a∈l:=NJ h
noncomputable def qp (ns:List Str):Bool:=ns.all fun n=>!(n.cps[0]?==some 60)
theorem Jd (y:Str):(BT.b8 y).cps[0]?=some 60:=by
 show (((#[60]:Array Nat)++y.cps)++#[62])[0]?=some 60
 rw[← SR]
 simp
theorem Cq {y z:Str} (h:BT.b8 y=BT.b8 z):y=z:=by
 have e:((#[60]:Array Nat)++y.cps)++#[62]=((#[60]:Array Nat)++z.cps)++#[62]:=congrArg Str.cps h
 have e2:y.cps.toList=z.cps.toList:=by
  have:=congrArg SQ e
  simpa using this
 cases y;cases z;exact congrArg Str.mk (Array.toList_inj.mp e2)
theorem lI {ns:List Str} (h:qp ns=true) (y:Str):ns.contains (BT.b8 y)=false:=by
 cases e:ns.contains (BT.b8 y) with
 | false=>rfl
 | true =>
  have:=List.all_eq_true.mp h _ (List.contains_iff_mem.mp e)
  rw[Jd] at this
  cases this
theorem aG {K:Nl}{q:Str}{fd:OY}{fn:BT.Fn} (h:qp fn.ns=true):jN K q fd fn:=fun y hy=>by rw[lI h y] at hy;cases hy
section
variable {P:NG}{w:N2}{K:Nl}{h:Heap}{mg:Str->Option Np}
theorem oJ {o:Option (Option Np)}{f:Addr} (e:refOf o=some f):o=some (some (.ref f)):=by
 unfold refOf at e
 split at e
 ·cases e;rfl
 ·cases e
theorem aA (X:K.In h) (G:h.Ns NL mg) {x:Str}{f:Addr}{st:Sk}{fn:BT.Fn} (e:bY K (.fn x f st)=bZ w (.fn x f st))
 (sc:cI fn.ns fn.ps (aq st)) (hb:∀ (kV doc pm:Np) (an:Option Addr) (cdv ct:Np) (us:List Np),us.length=fn.ps.length->SA (OS x x (cG st) (aI st) (aq st) .none kV doc pm an cdv ct) ⟨us,[]⟩=pure (fn.ps.zip us))
 (ck:CSs (aq st) fn.ns fn.body (aI st)) (tg:∀ fd,Oe K NL x=some (some (.ref f))->(∃ oc od sl,K.lookup f=some ⟨oc,od,.func fd,sl⟩)->jN K x fd fn):Def K mg x fn:=by
 simp only[bY,bZ,Ov.fn.injEq] at e
 obtain ⟨fd,F,kV,doc,pm,an,cdv,ct,rfl⟩:=zH e.2
 refine ⟨f,_,st,Pd X G (oJ e.1),F,sc,F.binds hb,ck,tg _ (oJ e.1) ?_⟩
 obtain ⟨oc,od,kV,doc,pm,an,cdv,ct,osl,e1,lk,_⟩:=F.ex
 exact ⟨oc,od,osl,lk⟩
theorem zI {c:Str}{C:Addr} (e:bY K (.cls c C)=bZ w (.cls c C)):kO K c C:=by
 simp only[bY,bZ,Ov.b.injEq,GB,Nt,decide_eq_true_eq] at e
 obtain ⟨⟨⟨⟨⟨h1,h2⟩,h3⟩,h4⟩,h5⟩,h6⟩:=e
 refine ⟨h1,⟨h2,h3,h4,h5⟩,fun f hf=>?_⟩
 have hm:f∈attrs:=List.contains_iff_mem.mp hf
 exact of_decide_eq_true (p:=Ol K (.ref C) f=some none) (List.all_eq_true.mp h6 f hm)
theorem bO (X:K.In h) (G:h.Ns NL mg) {c:Str}{C:Addr}{m x qual:Str}{f:Addr}{st:Sk}{fn:BT.Fn} (ec:bY K (.cls c C)=bZ w (.cls c C)) (em:bY K (.mk C)=bZ w (.mk C)) (e:bY K (.me C m x qual f st)=bZ w (.me C m x qual f st))
 (sc:cI fn.ns fn.ps (aq st)) (hb:∀ (kV doc pm:Np) (an:Option Addr) (cdv ct:Np) (us:List Np),us.length=fn.ps.length->SA (OS x qual (cG st) (aI st) (aq st) .none kV doc pm an cdv ct) ⟨us,[]⟩=pure (fn.ps.zip us))
 (ck:CSs (aq st) fn.ns fn.body (aI st)) (tg:qp fn.ns=true):yI K mg c m fn:=by
 have hC:=zI ec
 simp only[bY,bZ,Ov.fn.injEq] at e
 obtain ⟨e1,e2⟩:=e
 obtain ⟨fd,F,kV,doc,pm,an,cdv,ct,rfl⟩:=zH e2
 have e1':meB K C m f=true:=by
  cases q:meB K C m f with
  | true=>rfl
  | false=>rw[q] at e1;cases e1
 simp only[meB,Nt,decide_eq_true_eq] at e1'
 simp only[bY,bZ,Ov.b.injEq,mkB,Nt] at em
 refine ⟨C,f,_,x,qual,st,hC,Pd X G hC.cn,⟨e1'.1,e1'.2,F.kp⟩,fun z=>?_,F,sc,F.binds hb,ck,aG tg⟩
 subst z
 exact ⟨em.1,e1'.1,e1'.2,em.2⟩
theorem none_of (X:K.In h) (G:h.Ns NL mg) {x:Str} (e:bY K (.no x)=bZ w (.no x)):mg x=none:=by
 simp only[bY,bZ,Ov.b.injEq,decide_eq_true_eq] at e
 exact PySem.W.mg_none_of X G e
theorem zJ {v:Np}{x:Int} (h:intOf v=some x):∃ t,v=.int x t:=by
 cases v<;>simp[intOf] at h
 exact ⟨_,by rw[h]⟩
theorem zK {v:Np}{x:Str} (h:strOf v=some x):∃ t,v=.str x t:=by
 cases v<;>simp[strOf] at h
 exact ⟨_,by rw[h]⟩
theorem bV (X:K.In h) (G:h.Ns NL mg) {x:Str}{n:Int} (e:bY K (.int x n)=bZ w (.int x n)):rN P w K mg x (.p (.int n)):=by
 simp only[bY,bZ,Ov.int.injEq] at e
 split at e
 ·rename_i v hv
  obtain ⟨t,rfl⟩:=zJ e
  exact zE X G hv
 ·cases e
theorem tZ:∀ {xs:List Str}{vs:List Np},xs.all PyData.strOk=true->vs.map strOf=xs.map some->cS xs vs
 | [],[],_,_=>.nil
 | [],_ :: _,_,h=>by simp at h
 | _ :: _,[],_,h=>by simp at h
 | x :: xs,v :: vs,k,h=>by
  simp only[NW,PZ] at h
  simp only[SC,Nt] at k
  obtain ⟨t,rfl⟩:=zK h.1
  exact .cons k.1 (tZ k.2 h.2)
theorem ua:∀ {kvs:List (Str×Int)}{es:List RT},es.map (fun e=>(e.hash,strOf e.key,intOf e.val))=kvs.map (fun q=>(PyData.keyHash w.params q.1,some q.1,some q.2))->fq w kvs es
 | [],[],_=>.nil
 | [],_ :: _,h=>by simp at h
 | _ :: _,[],h=>by simp at h
 | (x,n) :: kvs,⟨ha,k,v⟩ :: es,h=>by
  simp only[NW,PZ,Sg] at h
  obtain ⟨⟨rfl,h2,h3⟩,hr⟩:=h
  obtain ⟨t,rfl⟩:=zK h2
  obtain ⟨u,rfl⟩:=zJ h3
  exact .cons (ua hr)
theorem zL (X:K.In h) (G:h.Ns NL mg) {x:Str}{f:Addr}{xs:List Str} (e:bY K (.tup x f xs)=bZ w (.tup x f xs)) (hl:xs.length<=1000) (hs:xs.all PyData.strOk=true):rN P w K mg x (.p (.tup (xs.map BT.D.str))):=by
 simp only[bY,bZ,Ov.seq.injEq] at e
 obtain ⟨e1,e2,e3⟩:=e
 obtain ⟨o,l,e4⟩:=Option.map_eq_some_iff.mp e2
 rw[l] at e3
 obtain ⟨cl,di,da,sl⟩:=o
 simp only[shp,Sg] at e4
 obtain ⟨rfl,rfl,e5⟩:=e4
 have:sl=#[]:=Rv e5
 subst this
 simp only[OJ,CF] at e3
 cases da<;>simp only[Qe,reduceCtorEq] at e3
 exact zF X G (oJ e1) l hl (tZ hs e3)
theorem zM (X:K.In h) (G:h.Ns NL mg) {x:Str}{f:Addr}{kvs:List (Str×Int)} (e:bY K (.dct x f kvs)=bZ w (.dct x f kvs)) (hf:(f==R0)=false) (nd:(kvs.map (·.1)).Nodup):rN P w K mg x (.k (kvs.map fun q=>(q.1,BT.D.int q.2))):=by
 simp only[bY,bZ,Ov.dct.injEq] at e
 obtain ⟨e1,e2,e3⟩:=e
 obtain ⟨o,l,e4⟩:=Option.map_eq_some_iff.mp e2
 rw[l] at e3
 obtain ⟨cl,di,da,sl⟩:=o
 simp only[shp,Sg] at e4
 obtain ⟨rfl,rfl,e5⟩:=e4
 have:sl=#[]:=Rv e5
 subst this
 simp only[OJ,CG] at e3
 cases da<;>simp only[Qe,reduceCtorEq] at e3
 exact vK X G (oJ e1) l hf (ua e3) nd
end
theorem zN {α:Type}{us:List α}{n:Nat} (h:us.length=n+1):∃ a r,us=a :: r/\r.length=n:=by
 cases us with
 | nil=>simp at h
 | cons a r=>exact ⟨a,r,rfl,by simpa using h⟩
theorem len0 {α:Type}{us:List α} (h:us.length=0):us=[]:=RJ h
theorem mq {α:Type}{us:List α} (h:us.length=1):∃ a0,us=[a0]:=by
 obtain ⟨a0,r,rfl,g⟩:=zN h
 exact ⟨a0,by rw[len0 g]⟩
theorem eZ {α:Type}{us:List α} (h:us.length=2):∃ a0 a1,us=[a0,a1]:=by
 obtain ⟨a0,r,rfl,g⟩:=zN h
 obtain ⟨a1,rfl⟩:=mq g
 exact ⟨a0,a1,rfl⟩
theorem f7 {α:Type}{us:List α} (h:us.length=3):∃ a0 a1 a2,us=[a0,a1,a2]:=by
 obtain ⟨a0,r,rfl,g⟩:=zN h
 obtain ⟨a1,a2,rfl⟩:=eZ g
 exact ⟨a0,a1,a2,rfl⟩
theorem F8 {α:Type}{us:List α} (h:us.length=4):∃ a0 a1 a2 a3,us=[a0,a1,a2,a3]:=by
 obtain ⟨a0,r,rfl,g⟩:=zN h
 obtain ⟨a1,a2,a3,rfl⟩:=f7 g
 exact ⟨a0,a1,a2,a3,rfl⟩
theorem Ml {α:Type}{us:List α} (h:us.length=5):∃ a0 a1 a2 a3 a4,us=[a0,a1,a2,a3,a4]:=by
 obtain ⟨a0,r,rfl,g⟩:=zN h
 obtain ⟨a1,a2,a3,a4,rfl⟩:=F8 g
 exact ⟨a0,a1,a2,a3,a4,rfl⟩
noncomputable abbrev BdT (x qual:Str) (st:Sk) (fn:BT.Fn):Prop:=∀ (kV doc pm:Np) (an:Option Addr) (cdv ct:Np) (us:List Np),us.length=fn.ps.length->SA (OS x qual (cG st) (aI st) (aq st) .none kV doc pm an cdv ct) ⟨us,[]⟩=pure (fn.ps.zip us)
noncomputable def uc (K:Nl) (mg:Str->Option Np) (p:BT.FK×BT.Fn):Prop:=(∀ x,p.1=.f x->Def K mg x p.2)/\(∀ c m,p.1=.m c m->yI K mg c m p.2)/\∀ L,p.1=.l L->BT.nL L=some p.2/\∃ ns bt,p.2=⟨ns,ns,.ret bt⟩/\∀ y,ns.contains (BT.b8 y)=false
theorem dd {K:Nl}{mg:Str->Option Np}{x:Str}{fn:BT.Fn} (d:Def K mg x fn):uc K mg (.f x,fn):=⟨fun y e=>by cases e;exact d,fun c m e=>(by cases e),fun L e=>by cases e⟩
theorem dm {K:Nl}{mg:Str->Option Np}{c m:Str}{fn:BT.Fn} (d:yI K mg c m fn):uc K mg (.m c m,fn):=⟨fun y e=>(by cases e),fun c m e=>by cases e;exact d,fun L e=>by cases e⟩
theorem dl {K:Nl}{mg:Str->Option Np}{L:Nat}{ns:List Str}{bt:BT.E} (h:BT.nL L=some ⟨ns,ns,.ret bt⟩) (n:qp ns=true):uc K mg (.l L,⟨ns,ns,.ret bt⟩):=⟨fun y e=>(by cases e),fun c m e=>(by cases e),fun M e=>by cases e;exact ⟨h,ns,bt,rfl,lI n⟩⟩
structure Cr (K:Nl) (tl:List (Str×Addr×Addr)):Prop where
 all:∀ z∈BT.dg,(∃ c P,(z,c,P)∈tl/\Oi K z=some (c,P))\/Oi K z=none
 hd:∀ q∈tl,Qx K q.2.1 q.2.2=true
theorem bP {K:Nl}{w:N2}{x:Str}{c P:Addr} (e:bY K (.tab x c P)=bZ w (.tab x c P)):Oi K x=some (c,P)/\Qx K c P=true:=by
 simp only[bY,bZ,Ov.b.injEq,Nt,decide_eq_true_eq] at e
 exact e
theorem cT {K:Nl}{w:N2}{x:Str} (e:bY K (.no x)=bZ w (.no x)):Oi K x=none:=by
 simp only[bY,bZ,Ov.b.injEq,decide_eq_true_eq] at e
 unfold Oi
 rw[e]
theorem zO {K:Nl}{x:Str}{f c P:Addr}{oc:Np}{od:Option Addr}{fd:OY}{sl:Array (Option Np)} (h1:Oe K NL x=some (some (.ref f))) (h2:K.lookup f=some ⟨oc,od,.func fd,sl⟩) (h:Oi K x=some (c,P)):fd.code=.ref c:=by
 unfold Oi at h
 rw[h1] at h
 simp only[h2] at h
 split at h
 ·rename_i c' hc
  split at h
  ·split at h
   ·cases h;exact hc
   ·cases h
  ·cases h
 ·cases h
theorem F9 {K:Nl}{w:N2}{b:Addr} (e:bY K (.bm b)=bZ w (.bm b)):∃ bm ob,Oe K NL "__builtins__"=some (some (.ref bm))/\bm≠Pf/\K.lookup bm=some ob/\ob.cls=.type "module"/\ob.dict=some Pf/\ob.data=.plain:=by
 simp only[bY,bZ,Ov.b.injEq,bmB,Nt,decide_eq_true_eq] at e
 obtain ⟨⟨e1,e2⟩,e3⟩:=e
 split at e3
 ·rename_i d sl l
  exact ⟨b,_,e1,e2,l,rfl,congrArg some (eq_of_beq e3),rfl⟩
 ·cases e3
noncomputable def tabsOk (tl:List (Str×Addr×Addr)):Bool:=tl.all fun p=>tl.all fun q=>!(p.2.2==q.2.2)||p.1==q.1
theorem gW {K:Nl}{w:N2}{x:Str}{fn:BT.Fn}{ns:List Str}{tl:List (Str×Addr×Addr)}{f c P b:Addr} (hns:fn.ns=ns++[BT.b8 x]) (h0:qp ns=true) (mem:x∈BT.dg) (hT:Cr K tl) (hk:tabsOk tl=true) (hm:(x,c,P)∈tl) (et:bY K (.tab x c P)=bZ w (.tab x c P)) (eb:bY K (.bm b)=bZ w (.bm b)) :
 ∀ fd,Oe K NL x=some (some (.ref f))->(∃ oc od sl,K.lookup f=some ⟨oc,od,.func fd,sl⟩)->jN K x fd fn:=fun fd h1 ⟨oc,od,sl,h2⟩ y hy=>by
 obtain ⟨t1,t2⟩:=bP et
 have e:y=x:=by
  have m:=List.contains_iff_mem.mp hy
  rw[hns] at m
  rcases List.mem_append.mp m with m | m
  ·have:=lI h0 y
   rw[List.contains_iff_mem.mpr m] at this;cases this
  ·exact Cq (by simpa using m)
 subst e
 refine ⟨rfl,mem,⟨c,P,t1,zO h1 h2 t1,t2,fun z hz c2 e2=>?_⟩,F9 eb⟩
 rcases hT.all z hz with ⟨c3,P3,m3,e3⟩ | e3
 ·rw[e2] at e3
  cases e3
  have:=List.all_eq_true.mp (List.all_eq_true.mp hk _ m3) _ hm
  simp only[beq_self_eq_true,SE,Bool.false_or] at this
  exact eq_of_beq this
 ·rw[e2] at e3;cases e3
theorem rO {K:Nl}{b:Addr}{o:Obj} (e:K.lookup b=some o):b∈K.map (·.1):=List.mem_map.mpr ⟨(b,o),PySem.W.mem_of_lookupK e,rfl⟩
theorem vL {P:NG}{w:N2}{K:Nl}{mg mb:Str->Option Np}{k:Nat}{fa a:Addr}{fd:OY}{x:Str}{sp:Sp}{s₁:Nr}{vs:List Np}{ns:List Int}{tl:List (Str×Addr×Addr)}
 (KX:K.In s₁.heap) (hns:s₁.heap.Ns NL mg) (hb:s₁.heap.Ns Pf mb) (hbb:∀ x:Str,x≠"__name__"->mb x=QB x) (hlim:s₁.heap.NoLimit) (hg:s₁.gens=#[])
 (ha:s₁.heap.get? a=some { cls:=.type "list",data:=.seq vs.toArray }) (hi:Qw vs ns) (hl:ns.length<=sizeLine) (hr:bR k TH)
 (hT:Cr K tl) (hTs:∀ p∈tl,s₁.heap.get? p.2.2=some (Pq #[])) (hTk:∀ p∈tl,K.lookup p.2.2=none)
 (F:∀ base:Heap,fT P w K mg base CX0 k fa fd [x] sp) (hbind:∀ (s:Nr) (u:Np),K.In s.heap->BindsTo s fd ⟨[u],[]⟩ [(x,u)])
 (hsp:∀ H:Hp,TB K H->LL K H a (ns.map V.int)->sp [.ref a] H (fun v _=>v=.bl true) fun _ _ _=>False) :
 codeAny (NR P w) TH (.call (.ref fa) ⟨[.ref a],[]⟩) (fun r s'=>r=.ok (.ret (.bool true))/\OldK s₁.heap s'.heap/\s'.os=s₁.os/\Sj s'.gens) s₁:=by
 have rv:=gM hi
 have lenV:=hi.length
 have tne:∀ p∈tl,p.2.2≠a:=fun p hp z=>by
  have:=hTs p hp
  rw[z,ha] at this;cases this
 let so:HO:=.frz { cls:=.type "list",data:=.seq vs.toArray } (.lst (ns.map V.int))
 let H:Hp:=fun b=>if ∃ p∈tl,p.2.2=b then some (.tbl #[]) else if b=a/\K.lookup a=none then some so else none
 have Ht:∀ p∈tl,H p.2.2=some (.tbl #[]):=fun p hp=>if_pos ⟨p,hp,rfl⟩
 have Hcase:∀ b u,H b=some u->(∃ p∈tl,p.2.2=b/\u=.tbl #[])\/(b=a/\K.lookup a=none/\u=so):=fun b u e=>by
  by_cases c1:∃ p∈tl,p.2.2=b
  ·have e':some (HO.tbl #[])=some u:=(if_pos c1).symm.trans e
   obtain ⟨p,hp,h2⟩:=c1
   exact .inl ⟨p,hp,h2,(NH e').symm⟩
  ·have e':(if b=a/\K.lookup a=none then some so else none)=some u:=(if_neg c1).symm.trans e
   by_cases c2:b=a/\K.lookup a=none
   ·rw[if_pos c2] at e'
    exact .inr ⟨c2.1,c2.2,(NH e').symm⟩
   ·rw[if_neg c2] at e';cases e'
 have noA:∀ {b:Addr}{o:Obj}{es:Array RT}{ep:Nat},s₁.heap.get? b=some o->o.data=.dict es ep->H b=none:=fun {b o es ep} e d=>by
  cases q:H b with
  | none=>rfl
  | some u =>
   rcases Hcase b u q with ⟨p,hp,h2,_⟩ | ⟨h2,_⟩
   ·have z:=hTs p hp
    rw[h2,e] at z;cases z;cases d
   ·rw[h2,ha] at e;cases e
    have d':Data.seq vs.toArray _=Data.dict es ep:=d
    cases d'
 have nsK:∀ {b:Addr}{m:Str->Option Np},s₁.heap.Ns b m->(oM s₁.heap H).Ns b m:=fun {b m} ⟨o,es,ep,e,d,r⟩=>⟨o,es,ep,oN e (noA e d),d,r⟩
 have hKb:K.In (oM s₁.heap H):=fun b o e=>oN (KX b o e) (by
  cases q:H b with
  | none=>rfl
  | some u =>
   rcases Hcase b u q with ⟨p,hp,h2,_⟩ | ⟨h2,h3,_⟩
   ·rw[← h2,hTk p hp] at e;cases e
   ·rw[h2,h3] at e;cases e)
 have hM:Mod K mg (oM s₁.heap H):=⟨hKb,nsK hns,⟨mb,nsK hb,hbb⟩,let ⟨mc,h1,h2⟩:=hlim;⟨mc,nsK h1,h2⟩⟩
 have hok:HOk P w H s₁.heap:=fun b u e=>by
  rcases Hcase b u e with ⟨p,hp,h2,rfl⟩ | ⟨h2,_,rfl⟩
  ·subst h2;exact hTs p hp
  ·subst h2;exact ⟨ha,by rw[NP];exact hl,vs,_,rv,ha⟩
 have e0:lN P w K mg (oM s₁.heap H) TH [] s₁ H:=⟨rfl,hM,fun b o e=>zW e,Nat.le_of_eq (uy _ _),trivial,fun b hb=>absurd (show b∈([]:List Addr) from hb) (by simp),hok,.of_eq hg⟩
 have tb:TB K H:=fun z hz c Pt e=>by
  rcases hT.all z hz with ⟨c3,P3,m3,e3⟩ | e3
  ·rw[e] at e3;cases e3
   exact ⟨#[],Ht _ m3,trivial,fun pos v q=>by cases q⟩
  ·rw[e] at e3;cases e3
 have hS:LL K H a (ns.map V.int):=by
  cases hk:K.lookup a with
  | some o =>
   have e:=KX a o hk
   rw[ha] at e
   cases e
   exact .inr ⟨vs,_,hk,by rw[lenV];exact hl,rv⟩
  | none =>
   refine .inl (.inr ⟨{ cls:=.type "list",data:=.seq vs.toArray },?_⟩)
   have e1:H a=(if a=a/\K.lookup a=none then some so else none):=if_neg fun ⟨p,hp,z⟩=>tne p hp z
   rw[e1,if_pos ⟨rfl,hk⟩]
 refine codeAny_mono ((F _).run TH [] s₁ H ⟨[.ref a],[]⟩ [.ref a] [.ref a] _ _ hr e0 (hbind s₁ (.ref a) KX) (.cons rfl .nil) (hsp H tb hS)) fun r s' h=>?_
 cases r with
 | error e=>exact Of h
 | ok fl =>
  cases fl with
  | next=>exact Of h
  | brk=>exact Of h
  | cont=>exact Of h
  | ret u =>
   obtain ⟨v,H',os,bare,un,hok',r',q⟩:=h
   have q':v=.bl true:=q
   subst q'
   obtain rfl:u=TL true:=r'
   have kp:∀ b o,s₁.heap.get? b=some o->(s'.heap.get? b=some o)\/∃ p∈tl,p.2.2=b/\∃ more,s'.heap.get? b=some (Pq (#[]++more)):=fun b o e=>by
    cases q:H b with
    | none=>exact .inl (un.keep b o e q (by intro z;exact absurd (show b∈([]:List Addr) from z) (by simp)) (by simp))
    | some u =>
     rcases Hcase b u q with ⟨p,hp,h2,rfl⟩ | ⟨h2,h3,rfl⟩
     ·obtain ⟨more,z⟩:=un.tbls b _ q
      exact .inr ⟨p,hp,h2,more,hok' b _ z⟩
     ·have z2:=un.frzs b _ _ q
      obtain ⟨e1,_⟩:=hok b _ q
      obtain ⟨e2,_⟩:=hok' b _ z2
      rw[e] at e1;cases e1
      exact .inl e2
   refine ⟨rfl,⟨fun b o e=>?_,fun b o e=>?_⟩,os,bare⟩
   ·rcases kp b o e with z | ⟨p,hp,rfl,more,z⟩
    ·exact .inl z
    ·have e2:=hTs p hp
     rw[e] at e2
     cases e2
     have tA:=(SM KX (hT.hd p hp)).tab e
     exact .inr (.inl ⟨tA.isCodeTable,rfl,#[],more,rfl,z⟩)
   ·rcases kp b o e with z | ⟨p,hp,rfl,more,z⟩
    ·exact ⟨o,z⟩
    ·exact ⟨_,z⟩
theorem zP {l:PySem.W.OpenLaw}{n k:Nat}{q:NG}{loose:List Str}{XP:(Str->Option Np)->Heap->Prop}{d:DefRec}{as:List Addr}{qs:List Qy}{ts:List Addr}{tl:List (Str×Addr×Addr)}{T:BT.FK->Option BT.Fn}{G:Str->Option BT.W}{fn:BT.Fn}{x:Str}
 (hn:l.most=some n) (hn2:n<=sizeLine) (hdf:d.params.defaults=[]) (hr:bR (2*k) TH) (hps:fn.ps=[x]) (hT:T (.f d.name)=some fn) (hts:ts=tl.map (·.2.2)) (hto:tl.all (fun p=>!as.contains p.2.2)=true)
 (FT:∀ (w:N2) (K:Nl),(∀ q∈qs,bY K q=bZ w q)->Cr K tl)
 (F:∀ (P:NG) (w:N2) (mg:Str->Option Np) (K:Nl) (h:Heap),K.In h->h.Ns NL mg->(∀ q∈qs,bY K q=bZ w q)->Txt P w K mg T G)
 (hrun:∀ ns:List Int,ns.length<=n->∃ h',BT.runN T G k (.f d.name) [.p (.lst (BT.aa ns))] []=some (.p (.bl true),h')) :
 PySem.W.WalkO q loose XP (sees as qs ts).says l.row.toRowW d [] (fun f vs=>TM f vs):=by
 refine Att.oZ hn hdf fun w s₀ s₁ mg mb fa o pm cd doc a vs ns Gr Y ho hd hcd hmg hobj hints hlen hg=>?_
 obtain ⟨K,k0,k1,k2,k3⟩:=Y
 have KX:=Co k1
 have X:=F l.prog w mg K s₁.heap KX Gr.T.g k2
 obtain ⟨f,fd,st,h1,h2,h3,h4,h5,h6⟩:=(X.defs _ fn hT).ex
 rw[hmg] at h1
 cases h1
 refine vL (sp:=spF l.prog w K (BT.runN T G k (.f d.name))) (x:=x) (k:=2*k) (fd:=fd) (tl:=tl) KX Gr.T.g Gr.T.b Gr.T.builtins Gr.T.nolimit hg hobj hints (Oj hlen hn2) hr (FT w K k2) (fun p hp=>k3 _ (by rw[hts];exact Tq hp)) (fun p hp=>?_) (fun base=>?_) (fun s u hK=>?_) (fun H tb hS=>zG tb hS (hrun ns hlen))
 ·cases e:K.lookup p.2.2 with
  | none=>rfl
  | some o =>
   have m:=rO e
   rw[k0] at m
   have:=List.all_eq_true.mp hto p hp
   rw[List.contains_iff_mem.mpr m] at this;cases this
 ·have:=Fo (base:=base) X k (.f d.name) fn hT _ fd d.name d.name st h2 h3 h5 h6
  rw[hps] at this
  exact this
 ·have:=h4 s [u] hK (by rw[hps];rfl)
  rw[hps] at this
  exact this
end BG
end
section
namespace BL
open PySem PySem.Spec PyProof.Rows L2 BS BF BG
noncomputable abbrev CkT (s:Oq) (f:BT.Fn):Prop:=CSs (aq s) f.ns f.body (aI s)/\cI f.ns f.ps (aq s)
theorem Je:CkT (top 10) BT.dH:=⟨by repeat' (first | rfl | constructor | decide +kernel),by constructor<;>first | rfl | decide +kernel⟩
theorem Mm:BdT "is_whole" "is_whole" (top 10) BT.dH:=fun _ _ _ _ _ _ us hl=>by obtain ⟨a0,rfl⟩:=mq hl;rfl
theorem Jf:CkT (top 11) BT.eH:=⟨by repeat' (first | rfl | constructor | decide +kernel),by constructor<;>first | rfl | decide +kernel⟩
theorem Mn:BdT "is_name" "is_name" (top 11) BT.eH:=fun _ _ _ _ _ _ us hl=>by obtain ⟨a0,rfl⟩:=mq hl;rfl
theorem Jg:CkT (top 12) BT.iP:=⟨by repeat' (first | rfl | constructor | decide +kernel),by constructor<;>first | rfl | decide +kernel⟩
theorem Mp:BdT "is_cell" "is_cell" (top 12) BT.iP:=fun _ _ _ _ _ _ us hl=>by obtain ⟨a0,rfl⟩:=mq hl;rfl
theorem Jh:CkT (top 13) BT.bF:=⟨by repeat' (first | rfl | constructor | decide +kernel),by constructor<;>first | rfl | decide +kernel⟩
theorem Mq:BdT "inner_sums" "inner_sums" (top 13) BT.bF:=fun _ _ _ _ _ _ us hl=>by obtain ⟨a0,rfl⟩:=mq hl;rfl
theorem Ji:CkT (top 22) BT.gB:=⟨by repeat' (first | rfl | constructor | decide +kernel),by constructor<;>first | rfl | decide +kernel⟩
theorem Mr:BdT "begun" "begun" (top 22) BT.gB:=fun _ _ _ _ _ _ us hl=>by obtain rfl:=len0 hl;rfl
theorem Jj:CkT (top 23) BT.eX:=⟨by repeat' (first | rfl | constructor | decide +kernel),by constructor<;>first | rfl | decide +kernel⟩
theorem Ms:BdT "check_thing" "check_thing" (top 23) BT.eX:=fun _ _ _ _ _ _ us hl=>by obtain ⟨a0,rfl⟩:=mq hl;rfl
theorem Jk:CkT (top 24) BT.dF:=⟨by repeat' (first | rfl | constructor | decide +kernel),by constructor<;>first | rfl | decide +kernel⟩
theorem Mt:BdT "worth_in" "worth_in" (top 24) BT.dF:=fun _ _ _ _ _ _ us hl=>by obtain ⟨a0,a1,rfl⟩:=eZ hl;rfl
theorem Jl:CkT (top 25) BT.dD:=⟨by repeat' (first | rfl | constructor | decide +kernel),by constructor<;>first | rfl | decide +kernel⟩
theorem Mu:BdT "laid_out" "laid_out" (top 25) BT.dD:=fun _ _ _ _ _ _ us hl=>by obtain ⟨a0,rfl⟩:=mq hl;rfl
theorem Jm:CkT (top 26) BT.fL:=⟨by repeat' (first | rfl | constructor | decide +kernel),by constructor<;>first | rfl | decide +kernel⟩
theorem Mv:BdT "of_two" "of_two" (top 26) BT.fL:=fun _ _ _ _ _ _ us hl=>by obtain ⟨a0,a1,a2,rfl⟩:=f7 hl;rfl
theorem Jo:CkT (top 27) BT.bz:=⟨by repeat' (first | rfl | constructor | decide +kernel),by constructor<;>first | rfl | decide +kernel⟩
theorem Mw:BdT "worth_of" "worth_of" (top 27) BT.bz:=fun _ _ _ _ _ _ us hl=>by obtain ⟨a0,a1,a2,rfl⟩:=f7 hl;rfl
theorem Jp:CkT (top 28) BT.dG:=⟨by repeat' (first | rfl | constructor | decide +kernel),by constructor<;>first | rfl | decide +kernel⟩
theorem Mx:BdT "reckoned" "reckoned" (top 28) BT.dG:=fun _ _ _ _ _ _ us hl=>by obtain ⟨a0,a1,rfl⟩:=eZ hl;rfl
theorem Jq:CkT (top 29) BT.eN:=⟨by repeat' (first | rfl | constructor | decide +kernel),by constructor<;>first | rfl | decide +kernel⟩
theorem Mz:BdT "cell_by" "cell_by" (top 29) BT.eN:=fun _ _ _ _ _ _ us hl=>by obtain ⟨a0,a1,rfl⟩:=eZ hl;rfl
theorem Jr:CkT (top 30) BT.c7:=⟨by repeat' (first | rfl | constructor | decide +kernel),by constructor<;>first | rfl | decide +kernel⟩
theorem MA:BdT "is_over" "is_over" (top 30) BT.c7:=fun _ _ _ _ _ _ us hl=>by obtain ⟨a0,a1,rfl⟩:=eZ hl;rfl
theorem Js:CkT (top 31) BT.aK:=⟨by repeat' (first | rfl | constructor | decide +kernel),by constructor<;>first | rfl | decide +kernel⟩
theorem MB:BdT "place_behind" "place_behind" (top 31) BT.aK:=fun _ _ _ _ _ _ us hl=>by obtain ⟨a0,a1,rfl⟩:=eZ hl;rfl
theorem Jt:CkT (top 32) BT.bS:=⟨by repeat' (first | rfl | constructor | decide +kernel),by constructor<;>first | rfl | decide +kernel⟩
theorem MC:BdT "with_worth" "with_worth" (top 32) BT.bS:=fun _ _ _ _ _ _ us hl=>by obtain ⟨a0,a1,a2,rfl⟩:=f7 hl;rfl
theorem Ju:CkT (top 33) BT.cN:=⟨by repeat' (first | rfl | constructor | decide +kernel),by constructor<;>first | rfl | decide +kernel⟩
theorem MD:BdT "with_name" "with_name" (top 33) BT.cN:=fun _ _ _ _ _ _ us hl=>by obtain ⟨a0,a1,a2,rfl⟩:=f7 hl;rfl
theorem Jv:CkT (top 34) BT.c9:=⟨by repeat' (first | rfl | constructor | decide +kernel),by constructor<;>first | rfl | decide +kernel⟩
theorem ME:BdT "brought" "brought" (top 34) BT.c9:=fun _ _ _ _ _ _ us hl=>by obtain ⟨a0,a1,rfl⟩:=eZ hl;rfl
theorem Jw:CkT (top 35) BT.eS:=⟨by repeat' (first | rfl | constructor | decide +kernel),by constructor<;>first | rfl | decide +kernel⟩
theorem MF:BdT "stepped" "stepped" (top 35) BT.eS:=fun _ _ _ _ _ _ us hl=>by obtain ⟨a0,a1,a2,rfl⟩:=f7 hl;rfl
theorem Jx:CkT (top 37) BT.fN:=⟨by repeat' (first | rfl | constructor | decide +kernel),by constructor<;>first | rfl | decide +kernel⟩
theorem MG:BdT "sum_at" "sum_at" (top 37) BT.fN:=fun _ _ _ _ _ _ us hl=>by obtain ⟨a0,a1,a2,rfl⟩:=f7 hl;rfl
theorem Jy:CkT (top 38) BT.bG:=⟨by repeat' (first | rfl | constructor | decide +kernel),by constructor<;>first | rfl | decide +kernel⟩
theorem MH:BdT "moments_so" "moments_so" (top 38) BT.bG:=fun _ _ _ _ _ _ us hl=>by obtain ⟨a0,a1,rfl⟩:=eZ hl;rfl
theorem Jz:CkT (top 39) BT.cA:=⟨by repeat' (first | rfl | constructor | decide +kernel),by constructor<;>first | rfl | decide +kernel⟩
theorem MI:BdT "last_so" "last_so" (top 39) BT.cA:=fun _ _ _ _ _ _ us hl=>by obtain ⟨a0,a1,a2,rfl⟩:=f7 hl;rfl
theorem JA:CkT (top 40) BT.cB:=⟨by repeat' (first | rfl | constructor | decide +kernel),by constructor<;>first | rfl | decide +kernel⟩
theorem MJ:BdT "next_so" "next_so" (top 40) BT.cB:=fun _ _ _ _ _ _ us hl=>by obtain ⟨a0,a1,a2,rfl⟩:=f7 hl;rfl
theorem JB:CkT (top 41) BT.dU:=⟨by repeat' (first | rfl | constructor | decide +kernel),by constructor<;>first | rfl | decide +kernel⟩
theorem MK:BdT "visits" "visits" (top 41) BT.dU:=fun _ _ _ _ _ _ us hl=>by obtain ⟨a0,a1,rfl⟩:=eZ hl;rfl
theorem JC:CkT (top 42) BT.aY:=⟨by repeat' (first | rfl | constructor | decide +kernel),by constructor<;>first | rfl | decide +kernel⟩
theorem ML:BdT "last_visit" "last_visit" (top 42) BT.aY:=fun _ _ _ _ _ _ us hl=>by obtain ⟨a0,a1,a2,rfl⟩:=f7 hl;rfl
theorem JD:CkT (top 43) BT.eY:=⟨by repeat' (first | rfl | constructor | decide +kernel),by constructor<;>first | rfl | decide +kernel⟩
theorem MM:BdT "said_at" "said_at" (top 43) BT.eY:=fun _ _ _ _ _ _ us hl=>by obtain ⟨a0,a1,rfl⟩:=eZ hl;rfl
theorem JE:CkT (top 44) BT.bB:=⟨by repeat' (first | rfl | constructor | decide +kernel),by constructor<;>first | rfl | decide +kernel⟩
theorem MN:BdT "when_said" "when_said" (top 44) BT.bB:=fun _ _ _ _ _ _ us hl=>by obtain ⟨a0,a1,rfl⟩:=eZ hl;rfl
theorem JF:CkT (top 49) BT.cF:=⟨by repeat' (first | rfl | constructor | decide +kernel),by constructor<;>first | rfl | decide +kernel⟩
theorem MO:BdT "_law_cell" "_law_cell" (top 49) BT.cF:=fun _ _ _ _ _ _ us hl=>by obtain ⟨a0,a1,rfl⟩:=eZ hl;rfl
theorem JG:CkT (top 50) BT.cO:=⟨by repeat' (first | rfl | constructor | decide +kernel),by constructor<;>first | rfl | decide +kernel⟩
theorem MP:BdT "_law_drawn" "_law_drawn" (top 50) BT.cO:=fun _ _ _ _ _ _ us hl=>by obtain ⟨a0,a1,a2,rfl⟩:=f7 hl;rfl
theorem JH:CkT (top 51) BT.aX:=⟨by repeat' (first | rfl | constructor | decide +kernel),by constructor<;>first | rfl | decide +kernel⟩
theorem MQ:BdT "_law_sum" "_law_sum" (top 51) BT.aX:=fun _ _ _ _ _ _ us hl=>by obtain ⟨a0,a1,a2,rfl⟩:=f7 hl;rfl
theorem JI:CkT (top 52) BT.eU:=⟨by repeat' (first | rfl | constructor | decide +kernel),by constructor<;>first | rfl | decide +kernel⟩
theorem MR:BdT "_law_row" "_law_row" (top 52) BT.eU:=fun _ _ _ _ _ _ us hl=>by obtain ⟨a0,a1,a2,rfl⟩:=f7 hl;rfl
theorem JJ:CkT (top 53) BT.aN:=⟨by repeat' (first | rfl | constructor | decide +kernel),by constructor<;>first | rfl | decide +kernel⟩
theorem MS:BdT "_law_program" "_law_program" (top 53) BT.aN:=fun _ _ _ _ _ _ us hl=>by obtain ⟨a0,a1,rfl⟩:=eZ hl;rfl
theorem JK:CkT (top 54) BT.cQ:=⟨by repeat' (first | rfl | constructor | decide +kernel),by constructor<;>first | rfl | decide +kernel⟩
theorem MT:BdT "_law_asked" "_law_asked" (top 54) BT.cQ:=fun _ _ _ _ _ _ us hl=>by obtain ⟨a0,a1,rfl⟩:=eZ hl;rfl
theorem JL:CkT (top 55) BT.fQ:=⟨by repeat' (first | rfl | constructor | decide +kernel),by constructor<;>first | rfl | decide +kernel⟩
theorem MU:BdT "law" "law" (top 55) BT.fQ:=fun _ _ _ _ _ _ us hl=>by obtain ⟨a0,rfl⟩:=mq hl;rfl
theorem zQ:CkT (bA 47 0) BT.cR:=⟨by repeat' (first | rfl | constructor | decide +kernel),by constructor<;>first | rfl | decide +kernel⟩
theorem Ga:BdT "__init__" "Tape.__init__" (bA 47 0) BT.cR:=fun _ _ _ _ _ _ us hl=>by obtain ⟨a0,a1,a2,a3,a4,rfl⟩:=Ml hl;rfl
theorem zR:CkT (bA 47 1) BT.eV:=⟨by repeat' (first | rfl | constructor | decide +kernel),by constructor<;>first | rfl | decide +kernel⟩
theorem Gb:BdT "at" "Tape.at" (bA 47 1) BT.eV:=fun _ _ _ _ _ _ us hl=>by obtain ⟨a0,a1,rfl⟩:=eZ hl;rfl
theorem zS:CkT (bA 47 2) BT.dI:=⟨by repeat' (first | rfl | constructor | decide +kernel),by constructor<;>first | rfl | decide +kernel⟩
theorem Gc:BdT "end" "Tape.end" (bA 47 2) BT.dI:=fun _ _ _ _ _ _ us hl=>by obtain ⟨a0,rfl⟩:=mq hl;rfl
theorem ud:CkT (bA 47 10) BT.bL:=⟨by repeat' (first | rfl | constructor | decide +kernel),by constructor<;>first | rfl | decide +kernel⟩
theorem Cs:BdT "behind" "Tape.behind" (bA 47 10) BT.bL:=fun _ _ _ _ _ _ us hl=>by obtain ⟨a0,a1,rfl⟩:=eZ hl;rfl
theorem ue:CkT (bA 47 11) BT.aT:=⟨by repeat' (first | rfl | constructor | decide +kernel),by constructor<;>first | rfl | decide +kernel⟩
theorem Ct:BdT "is_last" "Tape.is_last" (bA 47 11) BT.aT:=fun _ _ _ _ _ _ us hl=>by obtain ⟨a0,a1,a2,rfl⟩:=f7 hl;rfl
theorem uf:CkT (bA 47 12) BT.bN:=⟨by repeat' (first | rfl | constructor | decide +kernel),by constructor<;>first | rfl | decide +kernel⟩
theorem Cu:BdT "keep" "Tape.keep" (bA 47 12) BT.bN:=fun _ _ _ _ _ _ us hl=>by obtain ⟨a0,a1,rfl⟩:=eZ hl;rfl
theorem ug:CkT (bA 47 13) BT.bT:=⟨by repeat' (first | rfl | constructor | decide +kernel),by constructor<;>first | rfl | decide +kernel⟩
theorem Cv:BdT "reach" "Tape.reach" (bA 47 13) BT.bT:=fun _ _ _ _ _ _ us hl=>by obtain ⟨a0,a1,rfl⟩:=eZ hl;rfl
theorem uh:CkT (bA 47 14) BT.dJ:=⟨by repeat' (first | rfl | constructor | decide +kernel),by constructor<;>first | rfl | decide +kernel⟩
theorem Cw:BdT "has" "Tape.has" (bA 47 14) BT.dJ:=fun _ _ _ _ _ _ us hl=>by obtain ⟨a0,a1,rfl⟩:=eZ hl;rfl
theorem um:CkT (bA 47 15) BT.bU:=⟨by repeat' (first | rfl | constructor | decide +kernel),by constructor<;>first | rfl | decide +kernel⟩
theorem Cy:BdT "check" "Tape.check" (bA 47 15) BT.bU:=fun _ _ _ _ _ _ us hl=>by obtain ⟨a0,a1,rfl⟩:=eZ hl;rfl
theorem uq:CkT (bA 47 16) BT.bq:=⟨by repeat' (first | rfl | constructor | decide +kernel),by constructor<;>first | rfl | decide +kernel⟩
theorem Cz:BdT "readings" "Tape.readings" (bA 47 16) BT.bq:=fun _ _ _ _ _ _ us hl=>by obtain ⟨a0,a1,rfl⟩:=eZ hl;rfl
theorem ur:CkT (bA 47 18) BT.aO:=⟨by repeat' (first | rfl | constructor | decide +kernel),by constructor<;>first | rfl | decide +kernel⟩
theorem CA:BdT "first_from" "Tape.first_from" (bA 47 18) BT.aO:=fun _ _ _ _ _ _ us hl=>by obtain ⟨a0,a1,a2,rfl⟩:=f7 hl;rfl
theorem uv:CkT (bA 47 19) BT.bD:=⟨by repeat' (first | rfl | constructor | decide +kernel),by constructor<;>first | rfl | decide +kernel⟩
theorem CB:BdT "last_to" "Tape.last_to" (bA 47 19) BT.bD:=fun _ _ _ _ _ _ us hl=>by obtain ⟨a0,a1,a2,rfl⟩:=f7 hl;rfl
theorem uw:CkT (bA 47 20) BT.aH:=⟨by repeat' (first | rfl | constructor | decide +kernel),by constructor<;>first | rfl | decide +kernel⟩
theorem CD:BdT "last_between" "Tape.last_between" (bA 47 20) BT.aH:=fun _ _ _ _ _ _ us hl=>by obtain ⟨a0,a1,a2,a3,rfl⟩:=F8 hl;rfl
noncomputable def tab:List (BT.FK×BT.Fn):=[(.f "is_whole",BT.dH),(.f "is_name",BT.eH),(.f "is_cell",BT.iP),(.f "inner_sums",BT.bF),(.f "begun",BT.gB),(.f "check_thing",BT.eX),(.f "worth_in",BT.dF),(.f "laid_out",BT.dD),(.f "of_two",BT.fL),(.f "worth_of",BT.bz),(.f "reckoned",BT.dG),(.f "cell_by",BT.eN),(.f "is_over",BT.c7),(.f "place_behind",BT.aK),(.f "with_worth",BT.bS),(.f "with_name",BT.cN),(.f "brought",BT.c9),(.f "stepped",BT.eS),(.f "sum_at",BT.fN),(.f "moments_so",BT.bG),(.f "last_so",BT.cA),(.f "next_so",BT.cB),(.f "visits",BT.dU),(.f "last_visit",BT.aY),(.f "said_at",BT.eY),(.f "when_said",BT.bB),(.f "_law_cell",BT.cF),(.f "_law_drawn",BT.cO),(.f "_law_sum",BT.aX),(.f "_law_row",BT.eU),(.f "_law_program",BT.aN),(.f "_law_asked",BT.cQ),(.f "law",BT.fQ),(.m "Tape" "__init__",BT.cR),(.m "Tape" "at",BT.eV),(.m "Tape" "end",BT.dI),(.m "Tape" "behind",BT.bL),(.m "Tape" "is_last",BT.aT),(.m "Tape" "keep",BT.bN),(.m "Tape" "reach",BT.bT),(.m "Tape" "has",BT.dJ),(.m "Tape" "check",BT.bU),(.m "Tape" "readings",BT.bq),(.m "Tape" "first_from",BT.aO),(.m "Tape" "last_to",BT.bD),(.m "Tape" "last_between",BT.aH),(.l 3,BT.AN),(.l 4,BT.AO),(.l 5,BT.AQ),(.l 6,BT.AR),(.l 7,BT.AS),(.l 8,BT.AU)]
noncomputable def glo:List (Str×BT.W):=[("CELL_COUNT",.p (.int 4)),("WORTH_COUNT",.p (.int 10007)),("ROW",.p (.int 0)),("NAMES",.p (.int 1)),("CELLS",.p (.int 2)),("CALLS",.p (.int 3)),("ASKED",.p (.int 4)),("SAID",.p (.int 5)),("MOST_CALLS",.p (.int 6)),("MOST_MARKS",.p (.int 8)),("LETTERS",.p (.tup ((["a","b","c","d","e","f"]:List Str).map BT.D.str))),("INNER_COUNTS",.k (([("num",0),("name",0),("cell",1),("add",2),("sub",2),("mul",2),("less",2)]:List (Str×Int)).map fun q=>(q.1,BT.D.int q.2)))]
noncomputable abbrev T:BT.FK->Option BT.Fn:=look tab
noncomputable abbrev G:Str->Option BT.W:=look glo
theorem prg:BT.Prg T G:=⟨rfl,rfl,rfl,rfl,rfl,rfl,rfl,rfl,rfl,rfl,rfl,rfl,rfl,rfl,rfl,rfl,rfl,rfl,rfl,rfl,rfl,rfl,rfl,rfl,rfl,rfl⟩
theorem tpp:BT.TpP T G:=⟨prg,rfl,rfl,rfl,rfl,rfl,rfl,rfl,rfl,rfl,rfl⟩
theorem run (ns:List Int) (h:ns.length<=1000):∃ h',BT.runN T G 40 "law" [.p (.lst (BT.aa ns))] []=some (.p (.bl true),h'):=BT.vJ ⟨tpp,⟨⟨rfl⟩,⟨rfl,rfl⟩⟩,⟨rfl⟩,⟨rfl⟩,⟨rfl,rfl,rfl,rfl,rfl,rfl⟩,⟨rfl,rfl,rfl,rfl⟩,⟨rfl,rfl,rfl⟩⟩ ⟨rfl⟩ ⟨⟨rfl,rfl,rfl,rfl,rfl⟩,rfl,rfl⟩ ns h 26
theorem JM (w:N2) (K:Nl) (hq:∀ q∈qys,bY K q=bZ w q):Cr K tl:=by
 refine ⟨fun z hz=>?_,fun p hp=>?_⟩
 ·simp only[BT.dg,ON,Oo,or_false] at hz
  rcases hz with rfl | rfl | rfl | rfl | rfl | rfl | rfl | rfl | rfl | rfl | rfl | rfl | rfl | rfl | rfl
  ·exact .inr (cT (w:=w) (hq _ (nth 64 rfl)))
  ·exact .inr (cT (w:=w) (hq _ (nth 65 rfl)))
  ·exact .inr (cT (w:=w) (hq _ (nth 66 rfl)))
  ·exact .inl ⟨197,195,nth 0 rfl,(bP (w:=w) (hq _ (nth 67 rfl))).1⟩
  ·exact .inl ⟨204,200,nth 1 rfl,(bP (w:=w) (hq _ (nth 68 rfl))).1⟩
  ·exact .inl ⟨211,207,nth 2 rfl,(bP (w:=w) (hq _ (nth 69 rfl))).1⟩
  ·exact .inl ⟨216,214,nth 3 rfl,(bP (w:=w) (hq _ (nth 70 rfl))).1⟩
  ·exact .inl ⟨223,219,nth 4 rfl,(bP (w:=w) (hq _ (nth 71 rfl))).1⟩
  ·exact .inl ⟨237,233,nth 5 rfl,(bP (w:=w) (hq _ (nth 72 rfl))).1⟩
  ·exact .inr (cT (w:=w) (hq _ (nth 73 rfl)))
  ·exact .inr (cT (w:=w) (hq _ (nth 74 rfl)))
  ·exact .inr (cT (w:=w) (hq _ (nth 75 rfl)))
  ·exact .inr (cT (w:=w) (hq _ (nth 76 rfl)))
  ·exact .inr (cT (w:=w) (hq _ (nth 77 rfl)))
  ·exact .inr (cT (w:=w) (hq _ (nth 78 rfl)))
 ·simp only[tl,ON,Oo,or_false] at hp
  rcases hp with rfl | rfl | rfl | rfl | rfl | rfl
  ·exact (bP (w:=w) (hq _ (nth 67 rfl))).2
  ·exact (bP (w:=w) (hq _ (nth 68 rfl))).2
  ·exact (bP (w:=w) (hq _ (nth 69 rfl))).2
  ·exact (bP (w:=w) (hq _ (nth 70 rfl))).2
  ·exact (bP (w:=w) (hq _ (nth 71 rfl))).2
  ·exact (bP (w:=w) (hq _ (nth 72 rfl))).2
theorem txt (P:NG) (w:N2) (mg:Str->Option Np) (K:Nl) (h:Heap) (X:K.In h) (Gh:h.Ns NL mg) (hq:∀ q∈qys,bY K q=bZ w q):Txt P w K mg T G:=by
 have tbf:=JM w K hq
 have all:∀ p∈tab,uc K mg p:=by
  intro p hp
  simp only[tab,ON,Oo,or_false] at hp
  rcases hp with rfl | rfl | rfl | rfl | rfl | rfl | rfl | rfl | rfl | rfl | rfl | rfl | rfl | rfl | rfl | rfl | rfl | rfl | rfl | rfl | rfl | rfl | rfl | rfl | rfl | rfl | rfl | rfl | rfl | rfl | rfl | rfl | rfl | rfl | rfl | rfl | rfl | rfl | rfl | rfl | rfl | rfl | rfl | rfl | rfl | rfl | rfl | rfl | rfl | rfl | rfl | rfl
  ·exact dd (aA X Gh (hq _ (nth 0 rfl)) Je.2 Mm Je.1 (fun _ _ _=>aG (by decide +kernel)))
  ·exact dd (aA X Gh (hq _ (nth 1 rfl)) Jf.2 Mn Jf.1 (fun _ _ _=>aG (by decide +kernel)))
  ·exact dd (aA X Gh (hq _ (nth 2 rfl)) Jg.2 Mp Jg.1 (fun _ _ _=>aG (by decide +kernel)))
  ·exact dd (aA X Gh (hq _ (nth 3 rfl)) Jh.2 Mq Jh.1 (fun _ _ _=>aG (by decide +kernel)))
  ·exact dd (aA X Gh (hq _ (nth 4 rfl)) Ji.2 Mr Ji.1 (fun _ _ _=>aG (by decide +kernel)))
  ·exact dd (aA X Gh (hq _ (nth 5 rfl)) Jj.2 Ms Jj.1 (fun _ _ _=>aG (by decide +kernel)))
  ·exact dd (aA X Gh (hq _ (nth 6 rfl)) Jk.2 Mt Jk.1 (fun _ _ _=>aG (by decide +kernel)))
  ·exact dd (aA X Gh (hq _ (nth 7 rfl)) Jl.2 Mu Jl.1 (fun _ _ _=>aG (by decide +kernel)))
  ·exact dd (aA X Gh (hq _ (nth 8 rfl)) Jm.2 Mv Jm.1 (fun _ _ _=>aG (by decide +kernel)))
  ·exact dd (aA X Gh (hq _ (nth 9 rfl)) Jo.2 Mw Jo.1 (fun _ _ _=>aG (by decide +kernel)))
  ·exact dd (aA X Gh (hq _ (nth 10 rfl)) Jp.2 Mx Jp.1 (fun _ _ _=>aG (by decide +kernel)))
  ·exact dd (aA X Gh (hq _ (nth 11 rfl)) Jq.2 Mz Jq.1 (fun _ _ _=>aG (by decide +kernel)))
  ·exact dd (aA X Gh (hq _ (nth 12 rfl)) Jr.2 MA Jr.1 (fun _ _ _=>aG (by decide +kernel)))
  ·exact dd (aA X Gh (hq _ (nth 13 rfl)) Js.2 MB Js.1 (fun _ _ _=>aG (by decide +kernel)))
  ·exact dd (aA X Gh (hq _ (nth 14 rfl)) Jt.2 MC Jt.1 (fun _ _ _=>aG (by decide +kernel)))
  ·exact dd (aA X Gh (hq _ (nth 15 rfl)) Ju.2 MD Ju.1 (fun _ _ _=>aG (by decide +kernel)))
  ·exact dd (aA X Gh (hq _ (nth 16 rfl)) Jv.2 ME Jv.1 (fun _ _ _=>aG (by decide +kernel)))
  ·exact dd (aA X Gh (hq _ (nth 17 rfl)) Jw.2 MF Jw.1 (fun _ _ _=>aG (by decide +kernel)))
  ·exact dd (aA X Gh (hq _ (nth 18 rfl)) Jx.2 MG Jx.1 (fun _ _ _=>aG (by decide +kernel)))
  ·exact dd (aA X Gh (hq _ (nth 19 rfl)) Jy.2 MH Jy.1 (gW (f:=198) (ns:=BT.bG.ns.dropLast) (by decide +kernel) (by decide +kernel) (by decide +kernel) tbf (by decide +kernel) (nth 0 rfl) (hq _ (nth 67 rfl)) (hq _ (nth 79 rfl))))
  ·exact dd (aA X Gh (hq _ (nth 20 rfl)) Jz.2 MI Jz.1 (gW (f:=205) (ns:=BT.cA.ns.dropLast) (by decide +kernel) (by decide +kernel) (by decide +kernel) tbf (by decide +kernel) (nth 1 rfl) (hq _ (nth 68 rfl)) (hq _ (nth 79 rfl))))
  ·exact dd (aA X Gh (hq _ (nth 21 rfl)) JA.2 MJ JA.1 (gW (f:=212) (ns:=BT.cB.ns.dropLast) (by decide +kernel) (by decide +kernel) (by decide +kernel) tbf (by decide +kernel) (nth 2 rfl) (hq _ (nth 69 rfl)) (hq _ (nth 79 rfl))))
  ·exact dd (aA X Gh (hq _ (nth 22 rfl)) JB.2 MK JB.1 (gW (f:=217) (ns:=BT.dU.ns.dropLast) (by decide +kernel) (by decide +kernel) (by decide +kernel) tbf (by decide +kernel) (nth 3 rfl) (hq _ (nth 70 rfl)) (hq _ (nth 79 rfl))))
  ·exact dd (aA X Gh (hq _ (nth 23 rfl)) JC.2 ML JC.1 (gW (f:=224) (ns:=BT.aY.ns.dropLast) (by decide +kernel) (by decide +kernel) (by decide +kernel) tbf (by decide +kernel) (nth 4 rfl) (hq _ (nth 71 rfl)) (hq _ (nth 79 rfl))))
  ·exact dd (aA X Gh (hq _ (nth 24 rfl)) JD.2 MM JD.1 (fun _ _ _=>aG (by decide +kernel)))
  ·exact dd (aA X Gh (hq _ (nth 25 rfl)) JE.2 MN JE.1 (gW (f:=238) (ns:=BT.bB.ns.dropLast) (by decide +kernel) (by decide +kernel) (by decide +kernel) tbf (by decide +kernel) (nth 5 rfl) (hq _ (nth 72 rfl)) (hq _ (nth 79 rfl))))
  ·exact dd (aA X Gh (hq _ (nth 26 rfl)) JF.2 MO JF.1 (fun _ _ _=>aG (by decide +kernel)))
  ·exact dd (aA X Gh (hq _ (nth 27 rfl)) JG.2 MP JG.1 (fun _ _ _=>aG (by decide +kernel)))
  ·exact dd (aA X Gh (hq _ (nth 28 rfl)) JH.2 MQ JH.1 (fun _ _ _=>aG (by decide +kernel)))
  ·exact dd (aA X Gh (hq _ (nth 29 rfl)) JI.2 MR JI.1 (fun _ _ _=>aG (by decide +kernel)))
  ·exact dd (aA X Gh (hq _ (nth 30 rfl)) JJ.2 MS JJ.1 (fun _ _ _=>aG (by decide +kernel)))
  ·exact dd (aA X Gh (hq _ (nth 31 rfl)) JK.2 MT JK.1 (fun _ _ _=>aG (by decide +kernel)))
  ·exact dd (aA X Gh (hq _ (nth 32 rfl)) JL.2 MU JL.1 (fun _ _ _=>aG (by decide +kernel)))
  ·exact dm (bO X Gh (hq _ (nth 80 rfl)) (hq _ (nth 81 rfl)) (hq _ (nth 82 rfl)) zQ.2 Ga zQ.1 (by decide +kernel))
  ·exact dm (bO X Gh (hq _ (nth 80 rfl)) (hq _ (nth 81 rfl)) (hq _ (nth 83 rfl)) zR.2 Gb zR.1 (by decide +kernel))
  ·exact dm (bO X Gh (hq _ (nth 80 rfl)) (hq _ (nth 81 rfl)) (hq _ (nth 84 rfl)) zS.2 Gc zS.1 (by decide +kernel))
  ·exact dm (bO X Gh (hq _ (nth 80 rfl)) (hq _ (nth 81 rfl)) (hq _ (nth 85 rfl)) ud.2 Cs ud.1 (by decide +kernel))
  ·exact dm (bO X Gh (hq _ (nth 80 rfl)) (hq _ (nth 81 rfl)) (hq _ (nth 86 rfl)) ue.2 Ct ue.1 (by decide +kernel))
  ·exact dm (bO X Gh (hq _ (nth 80 rfl)) (hq _ (nth 81 rfl)) (hq _ (nth 87 rfl)) uf.2 Cu uf.1 (by decide +kernel))
  ·exact dm (bO X Gh (hq _ (nth 80 rfl)) (hq _ (nth 81 rfl)) (hq _ (nth 88 rfl)) ug.2 Cv ug.1 (by decide +kernel))
  ·exact dm (bO X Gh (hq _ (nth 80 rfl)) (hq _ (nth 81 rfl)) (hq _ (nth 89 rfl)) uh.2 Cw uh.1 (by decide +kernel))
  ·exact dm (bO X Gh (hq _ (nth 80 rfl)) (hq _ (nth 81 rfl)) (hq _ (nth 90 rfl)) um.2 Cy um.1 (by decide +kernel))
  ·exact dm (bO X Gh (hq _ (nth 80 rfl)) (hq _ (nth 81 rfl)) (hq _ (nth 91 rfl)) uq.2 Cz uq.1 (by decide +kernel))
  ·exact dm (bO X Gh (hq _ (nth 80 rfl)) (hq _ (nth 81 rfl)) (hq _ (nth 92 rfl)) ur.2 CA ur.1 (by decide +kernel))
  ·exact dm (bO X Gh (hq _ (nth 80 rfl)) (hq _ (nth 81 rfl)) (hq _ (nth 93 rfl)) uv.2 CB uv.1 (by decide +kernel))
  ·exact dm (bO X Gh (hq _ (nth 80 rfl)) (hq _ (nth 81 rfl)) (hq _ (nth 94 rfl)) uw.2 CD uw.1 (by decide +kernel))
  ·exact dl rfl (by decide +kernel)
  ·exact dl rfl (by decide +kernel)
  ·exact dl rfl (by decide +kernel)
  ·exact dl rfl (by decide +kernel)
  ·exact dl rfl (by decide +kernel)
  ·exact dl rfl (by decide +kernel)
 refine ⟨fun x fn e=>?_,fun c m fn e=>?_,fun L fn e=>?_,fun x z e=>?_,fun x hx=>?_⟩
 ·exact gI (Q:=fun k fn=>∀ x,k=.f x->Def K mg x fn) (l:=tab) (fun p hp=>(all p hp).1) e x rfl
 ·exact gI (Q:=fun k fn=>∀ c m,k=.m c m->yI K mg c m fn) (l:=tab) (fun p hp=>(all p hp).2.1) e c m rfl
 ·exact gI (Q:=fun k fn=>∀ L,k=.l L->BT.nL L=some fn/\∃ ns bt,fn=⟨ns,ns,.ret bt⟩/\∀ y,ns.contains (BT.b8 y)=false) (l:=tab) (fun p hp=>(all p hp).2.2) e L rfl
 ·refine gI (Q:=fun x z=>rN P w K mg x z) (l:=glo) (fun p hp=>?_) e
  simp only[glo,ON,Oo,or_false] at hp
  rcases hp with rfl | rfl | rfl | rfl | rfl | rfl | rfl | rfl | rfl | rfl | rfl | rfl
  ·exact bV X Gh (hq _ (nth 33 rfl))
  ·exact bV X Gh (hq _ (nth 34 rfl))
  ·exact bV X Gh (hq _ (nth 35 rfl))
  ·exact bV X Gh (hq _ (nth 36 rfl))
  ·exact bV X Gh (hq _ (nth 37 rfl))
  ·exact bV X Gh (hq _ (nth 38 rfl))
  ·exact bV X Gh (hq _ (nth 39 rfl))
  ·exact bV X Gh (hq _ (nth 40 rfl))
  ·exact bV X Gh (hq _ (nth 41 rfl))
  ·exact bV X Gh (hq _ (nth 42 rfl))
  ·exact zL X Gh (hq _ (nth 43 rfl)) (by decide) (by decide +kernel)
  ·exact zM X Gh (hq _ (nth 44 rfl)) (by decide) (by decide +kernel)
 ·simp only[EI,ON,Oo,or_false] at hx
  rcases hx with rfl | rfl | rfl | rfl | rfl | rfl | rfl | rfl | rfl | rfl | rfl | rfl | rfl | rfl | rfl | rfl | rfl | rfl | rfl
  ·exact none_of X Gh (hq _ (nth 45 rfl))
  ·exact none_of X Gh (hq _ (nth 46 rfl))
  ·exact none_of X Gh (hq _ (nth 47 rfl))
  ·exact none_of X Gh (hq _ (nth 48 rfl))
  ·exact none_of X Gh (hq _ (nth 49 rfl))
  ·exact none_of X Gh (hq _ (nth 50 rfl))
  ·exact none_of X Gh (hq _ (nth 51 rfl))
  ·exact none_of X Gh (hq _ (nth 52 rfl))
  ·exact none_of X Gh (hq _ (nth 53 rfl))
  ·exact none_of X Gh (hq _ (nth 54 rfl))
  ·exact none_of X Gh (hq _ (nth 55 rfl))
  ·exact none_of X Gh (hq _ (nth 56 rfl))
  ·exact none_of X Gh (hq _ (nth 57 rfl))
  ·exact none_of X Gh (hq _ (nth 58 rfl))
  ·exact none_of X Gh (hq _ (nth 59 rfl))
  ·exact none_of X Gh (hq _ (nth 60 rfl))
  ·exact none_of X Gh (hq _ (nth 61 rfl))
  ·exact none_of X Gh (hq _ (nth 62 rfl))
  ·exact none_of X Gh (hq _ (nth 63 rfl))
noncomputable abbrev lw:DefRec:=⟨"law",cG (top 55),aI (top 55),aq (top 55),KM (top 55)⟩
theorem df:PySem.W.defOf qg "law"=some (lw,[]):=by kernel_rfl
theorem th:pg.theDef "law"=some (lw.params,lw.body,lw.scope):=by kernel_rfl
theorem walk:PySem.W.WalkO qg loo (PySem.W.XL qg []) (sees adr qys tas).says PySem.Challenge.rw_backtape_k23_whole_asked_so.row.toRowW lw [] (fun f vs=>TM f vs) :=
 zP (l:=PySem.Challenge.rw_backtape_k23_whole_asked_so) (n:=63) (k:=40) (x:="_law_script") (d:=lw) (T:=T) (G:=G) (ts:=tas) (fn:=BT.fQ) rfl (by decide) rfl ⟨rfl,by decide,by decide⟩ rfl rfl (tl:=tl) rfl (by decide +kernel) JM txt fun ns hl=>run ns (by omega)
end BL
open PySem PySem.W PyProof.Rows
set_option maxRecDepth 100000 in
set_option maxHeartbeats 0 in
theorem PySem.Challenge.cw_backtape_k23_whole_asked_so_holds : PySem.Challenge.rw_backtape_k23_whole_asked_so.Holds := by
 w_on;refine PySem.W.holds_law (by decide +kernel) fun said=>?_
 refine PySem.W.holds_open (q:=BL.qg) (loose:=BL.loo) (XP:=XL BL.qg []) (YP:=(BG.sees BL.adr BL.qys BL.tas).says) (d:=BL.lw) (kwd:=[]) BL.left (BG.sees BL.adr BL.qys BL.tas).of (BG.sees BL.adr BL.qys BL.tas).keeps (fun s e=>xl_of s (Bool.and_eq_true_iff.mp e).1) XL.keeps BL.df BL.th (by kernel_rfl) (fun s e=>recFacts_of (Bool.and_eq_true_iff.mp e).2) rfl (by first | assumption | decide +kernel) (by decide +kernel) ⟨rfl,rfl,rfl,rfl,rfl,by decide +kernel⟩ ?hw BL.walk
 (case hw=>w_witness2)
#print axioms PySem.Challenge.cw_backtape_k23_whole_asked_so_holds
end
end

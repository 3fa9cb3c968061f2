import PyProof.Rows.All
import Wide.All
import OpenK.AllK
import Wide.FinOn
import PyProof.EqAt
import PyProof.EqKinds
import PyProof.TupleCall
import Open.Tree
import Wide.Once
import KE.KLam
import KE.KNestM
import KE.KIsAll
import OpenK.KMore
import KE.KSortTup
import PyProof.Rows.SetFrom
import PyProof.IsiH_list
import PyProof.Rows.Exc
import KE.KDictOf
import PySem.Syntax
import PySem.Builtin.Str.Common
import PyProof.SliceList
import PyProof.StrCalls2
import KE.KIntText
import PyProof.NeData
import PyProof.ExcAttrAll.ValueError
import PyProof.ZipIter
import KE.KRevIter
import KE.KItemsList
import KE.KDictSum
import PyProof.DictWalks
import KE.KPairComp
import KE.KEqDict
import PyProof.StrBlock2
import PyProof.StrBlockL
import PyProof.ConsumeWalk
import PyProof.ListRange
import PyProof.EnumFor
import PyProof.EnumMake
import PyProof.EnumStmt
import PyProof.CompFree
import PyProof.PlainList
import PyProof.Draws
import PyProof.StrWalks
import PyProof.StrLawsTight
import PyProof.StrLawsChain
import PyProof.FitsReplace
import PyProof.Rows.StrIntSpec
import Lean
import PySem.Challenge.RW_backtape_k80_written
set_option autoImplicit true
set_option Elab.async false
set_option linter.all false
set_option maxRecDepth 100000
set_option maxHeartbeats 8000000
set_option genSizeOf false
set_option compiler.extract_closed false
set_option bootstrap.genMatcherCode false
noncomputable section
open PySem.W renaming Frag->MV,findIn->NB,nsIn->NH,emptyDict->N4,keepIn->N6,tabIn->Om,kitOne->On,instObj->Oq,fnOf->Ou,mg_of->OI,hasDictIn->OJ,kia_one->OZ,plainGet->Pe,envX->Pv,tabObj->Qh,lookIn->Qi,codeIn->Qj,plainGet_of->Qo,callWith_K0->Qp,mroIn->Qu,callWith_K->Qv,plainOver->QC,methodObj->QD,isFn->QF,codeHdIn->QH,takerIn->QU,makesIn->QV,byRow2->Re,absHeap->Ro,SharedT->Rp,recOk->Rq,cellsFrom_some->RB,xlAt->RM,methodCall_KW->RN,codeHd_of_K->Sb,specialIn->Sz,wideGood->SK,handedIn->SL,clsGoodW->SM,openSeen->SX,takesIn->Tc
open PySem renaming wpAny_bind->MW,Value->MZ,Shared->M0,Expr->M7,Addr->M9,mainGlobals->Nj,Program->Nk,strIterType->Nq,model->Nv,World->Nz,starEach->NG,sliceBounds->NS,Around->NT,wpAny_newObj_type->NU,compareOp->NV,wpAny_field->NW,Stmt->NX,Scope->NY,wpAny_callSpecial?_slot->N3,wpAny_truthy_bool->Oa,mem_of_lookup->Og,binaryOp->Oj,call_meets->Os,FuncData->Oz,wpAny_call_entry->OH,wpAny_seqItems->OL,wpAny_setField_rec->OO,wpAny_Call_Name_kw->OP,wpAny_passesOwn->OR,wpAny_mono->OT,sysModules->OU,assignEach->OV,IsPair->O1,builtinsNs->O7,wpAny_loadPart'->Pb,wpAny_holding->Pc,NameKind->Pf,DictEntry->Ph,backTo->Po,Expr->Pr,Keyword->PJ,swapsWith->PU,letOwnedTupleGo->PV,keywordEach->PX,bootBuiltins->P7,Operator->P8,holding->Ql,getItem->Qm,attributeBase->Qn,intText?->Qq,wpAny_execs_nil->Qz,importedModules->QA,wpAny_updateSeq_pair->QG,sizeLine_eq->QS,Builtin->QY,wpAny_standAt->Q3,wpAny_onRaise->Q4,evalPart_none->Q6,behindInMarks->Q7,backToKw->Q8,Stmt->Rc,IsZip->Rh,Arguments->Ri,wpAny_sequenceKey->Rm,wpAny_pyIter_list->Rn,wpAny_typeOf->Rx,codeAny_mono->Ry,assign->Rz,IsPart->RK,noFill_tuple_add->RL,standAt->RZ,getMethod->R0,Within->Sa,IsRangeIter->Se,wpAny_binaryOp_repeat_ref->Sx,bltViewBooted->Sy,wpAny_rule->SG,wpAny_getItem_list_slice->SH,sliceRange->SI,PlainAttrs->SN,seq_tuple_add->SW,evalPart_some->SY,compEnvC->SZ,callerA->S6,bindArgs->S7,call->S9
open PySem.Heap renaming get?_push_of_some->MY,lt_size->Na,get?_push_size->Nh,SameBut->NL,size_push->OS,get?_update_other->Sg,get?_update_self->Su
open List renaming mem_cons_of_mem->M1,size_toArray->M3,mem_cons_self->M5,length_map->Nd,getElem?_append_left->Nf,getElem?_eq_getElem->Ng,length_cons->Ni,length_append->Nl,replicate->Nn,mem_of_getElem?->Np,getElem?_eq_none->Nr,getElem?_append_right->NC,mem_append_right->ND,map_cons->NF,getElem?_map->NK,all_eq_true->NQ,append_assoc->NR,filterMap_cons->N8,flatten_cons->Oe,replicate_succ->Oh,append_nil->Oi,getElem?_set_self->Ol,not_mem_nil->Oo,getElem?_of_mem->Ot,lookup_cons->OB,eq_nil_of_length_eq_zero->OD,range->OG,map_nil->OM,getElem?_set_ne->OQ,lookup->OX,nil_append->O2,mem_cons->O3,map_append->O4,getElem?_replicate->O5,find?_cons->O6,length_replicate->Pj,mem_append_left->Pq,of_mem_zip->Pw,length_nil->Px,map_map->PM,reverse_cons->P1,sum_cons->P9,length_take->Qc,find?_cons_of_neg->Qf,length_singleton->Qk,getElem?_range->Qw,flatMap_cons->QO,sum_nil->QW,isEmpty_nil->Q2,forIn_cons->Rj,getD_eq_getElem?_getD->Rt,nodup_nil->RG,getElem?_eq_none_iff->RI,drop_eq_getElem_cons->RJ,getElem?_take_of_lt->RP,foldl->RQ,head_eq_of_cons_eq->RV,all_cons->RX,reverse_singleton->Sd,getElem?_toArray->So,getElem?_reverse->Sq,all_map->Ss,range'->SO,length_reverse->SQ,length->SR,flatMap_append->SS
open PySem.Str renaming ofString->M4,join->M8,length_append->Pd,ofString_eq_toList->Qg
open Bool renaming and_eq_true->M6,false_ne_true->NN,or_eq_true->ON,not_eq_true'->Pa
open Nat renaming le_refl->Nb,ne_of_lt->Nt,lt_of_lt_of_le->Nu,le_trans->Nx,lt_or_ge->N1,le_add_right->N2,lt_irrefl->OA,lt_succ_self->OW,zero_le->Py,le_succ->Pz,ne_of_gt->PP,le_of_lt->PR,lt_trans->Q0,mul_comm->SA,le_of_ble_eq_true->SD
open Option.some renaming inj->Nc,injEq->OF
open PySem.Builtin.SmallTypes renaming nextOf->Ny,ownedTupleIsFree->N9,ownedTupleHandOut->PK
open PySem.Builtin.Slice renaming slicePlaces->NI,sliceAdjust->NZ,sliceApplied->OE,sliceFields->QE
open PySem.Builtin.Tuple renaming tupleExact->NJ,tupleItemsOf->Pi,tupleTooMany->Qx
open PyProof.Rows renaming slot_tuple_getitem->NO,callWith_type1->Oc,slicePart_none->QK,plainGoodE->QL,plainGoodD->QM,expectedOf->QN,entry_tuple_getitem->QT,subscriptTail->Q5,args_tuple_getitem->Q9,drecsOf->Rg,tail_any->RU,envOfC->R6,AllBare->Sk,Subscript_->SJ,tupleItemsOf_->SV
open Option renaming bind_some->NP,map_some->O0,getD_some->Td,getD_none->Te
open PySem.NameKind renaming free->N5,cell->Qt
open PySem.Builtin.List renaming listTooLong->N7
open PySem.Builtin.Str renaming occurrences->Ob,strKind->Ru
open False renaming elim->Od
open PySem.Value renaming ref->Of,none->O8,isStrOf->Pp,bool->PY,int->QB,str->R8
open PySem.F renaming plainAttrs_list->Ow,slot_dict_get->O9,args_tuple_add_2->PL,entry_tuple_add->P0,slot_tuple_add->P4,plainAttrs_str->P5,plainAttrs_dict->Rr,entry_dict_get->RC,type_dict_get->RO
open Array renaming eq_empty_of_size_eq_zero->Ox,length_toList->Pu,all_append->QZ,getElem?_eq_getElem->Rv,mem_of_getElem?->Sh,getElem?_toList->Si
open True renaming intro->OY
open Prod.mk renaming injEq->Pk
open List.cons renaming injEq->Pn,inj->PN
open ForInStep renaming yield->P6
open PySem.Heap.IsSliceOf renaming new->Qa
open PySem.Calls renaming callWith_builtin->Qd,Name_function_global->Rl,evalArgs_plain->Sw
open Ne renaming symm->Qe
open PySem.Obj renaming mapSeq->Qs
open PySem.PassesOwn renaming never->QI
open PySem.Builtin.Range renaming rangeSize->QJ
open Int renaming toNat_natCast->QX,eq_ofNat_of_zero_le->Sf
open PySem.W.KIN renaming signs_num->Rf
open PySem.Heap.SameBut renaming update->Rk
open PyProof renaming noPylong_small->RE
open Char renaming toNat->RT
open PySem.Around renaming under->RY,frames_deeper->Sj
open PySem.StrLaws renaming join_split->Sn
open PySem.Code renaming isFrame->Sv
open PySem.AutoSeq1 renaming idx_int->SE
section
namespace L2
open PySem PySem.Spec PyProof.Rows
def fk (s:Rc):Ri:=match s with
 | .FunctionDef _ a _ _ _ _ _ _ _ _=>a
 | _=>{ posonlyargs:=[],args:=[],vararg:=none,kwonlyargs:=[],kw_defaults:=[],kwarg:=none,defaults:=[] }
def dM (s:Rc):List Rc:=match s with
 | .FunctionDef _ _ b _ _ _ _ _ _ _=>b
 | _=>[]
def cZ (s:Rc):NY:=match s with
 | .FunctionDef _ _ _ _ _ _ sc _ _ _=>sc
 | _=>{ kind:=.function,names:=[],isGenerator:=false,isCoroutine:=false }
end L2
end
section
namespace BR
open PySem PySem.W PyProof.Rows
noncomputable def qt:List Obj->BT->Nat->Option (BT×Nat)
 | [],T,n=>some (T,n)
 | o :: r,T,n=>match ((T.ins n o).get n).isSome with
  | true=>qt r (T.ins n o) (n+1)
  | false=>none
theorem nO (life:Life):∀ {l:List Obj}{T T':BT}{n n':Nat},qt l T n=some (T',n')->(Ro T' n' life).objs.toList=(Ro T n life).objs.toList++l
 | [],T,T',n,n',h=>by cases h;simp
 | o :: r,T,T',n,n',h=>by
  unfold qt at h
  cases g:((T.ins n o).get n).isSome with
  | false=>rw[g] at h;cases h
  | true =>
   rw[g] at h
   rw[nO life h,absHeap_ins g]
   show ((Ro T n life).objs.push o).toList++r=_
   simp
noncomputable def toT (s:M0):Option Rp:=match qt s.heap.objs.toList .nil 0 with
 | some (T,n)=>some ⟨T,n,s.heap.life,s.gens,s.drawn,s.toks,s.os⟩
 | none=>none
theorem Ai (h:toT s=some t):t.abs=s:=by
 unfold toT at h
 cases e:qt s.heap.objs.toList .nil 0 with
 | none=>rw[e] at h;cases h
 | some r =>
  obtain ⟨T,n⟩:=r
  rw[e] at h
  cases h
  have:=nO s.heap.life e
  obtain ⟨⟨objs,life⟩,g,d,k,o⟩:=s
  show Shared.mk (Ro T n life) g d k o=Shared.mk ⟨objs,life⟩ g d k o
  have e2:(Ro T n life).objs.toList=objs.toList:=by
   rw[this];simp[Ro,BT.list]
  have e3:(Ro T n life).objs=objs:=Array.toList_inj.mp e2
  have e4:Ro T n life=⟨objs,life⟩:=by
   show Heap.mk _ _=Heap.mk _ _
   exact congrArg (Heap.mk · life) e3
  rw[e4]
noncomputable def kW (tb:String->Option QY) (p:Nk) (w:Nz) (n₀:Nat) (ann:Option MZ):Nat->Rp->Thread->Option Rp
 | 0,_,_=>none
 | n+1,s,t=>match through t with
  | true=>some s
  | false=>match stepOk n₀ ann t with
   | false=>none
   | true=>match stepT (denote tb) p w s t with
    | some (s',t')=>kW tb p w n₀ ann n s' t'
    | none=>none
section
variable {tb:String->Option QY}{p:Nk}{w:Nz}{n₀:Nat}{ann:Option MZ}
theorem nP:∀ {n:Nat}{s s':Rp}{t:Thread},kW tb p w n₀ ann n s t=some s'->topRun tb p w n₀ ann n s.abs t=some s'.abs
 | 0,_,_,_,h=>by cases h
 | n+1,s,s',t,h=>by
  unfold kW at h
  unfold topRun
  cases he:through t with
  | true=>rw[he] at h;cases h;rfl
  | false =>
   rw[he] at h
   cases hk:stepOk n₀ ann t with
   | false=>rw[hk] at h;cases h
   | true =>
    rw[hk] at h
    cases hs:stepT (denote tb) p w s t with
    | none=>rw[hs] at h;cases h
    | some r=>obtain ⟨s₂,t₂⟩:=r;rw[hs] at h;dsimp only;rw[stepT_spec hs];exact nP h
end
noncomputable def lH (tb:String->Option QY) (p:Nk) (w:Nz) (N:Nat) (s₀:M0):Option Rp :=
 match s₀.heap.isNs Nj&&s₀.gens.size==0 with
 | true=>(toT s₀).bind fun t₀=>(kW tb p w s₀.heap.objs.size (s₀.heap.nsMap Nj "__annotations__") N t₀ (topStub p)).bind fun t₁ =>
  match staticsOk (QA p.main.body) s₀.heap t₁.abs.heap&&namesBound p t₁.abs.heap&&gensDone t₁.abs&&laidKept s₀.heap t₁.abs.heap with
   | true=>some t₁
   | false=>none
 | false=>none
theorem rM (h:lH tb p w N s₀=some t):topFrom tb p w N s₀=some t.abs:=by
 unfold lH at h
 unfold topFrom
 cases e:(s₀.heap.isNs Nj&&s₀.gens.size==0) with
 | false=>rw[e] at h;cases h
 | true =>
  rw[e] at h
  obtain ⟨t₀,h0,h⟩:=Option.bind_eq_some_iff.mp h
  obtain ⟨t₁,h1,h⟩:=Option.bind_eq_some_iff.mp h
  have h2:=nP h1
  rw[Ai h0] at h2
  dsimp only
  rw[h2]
  show (match _ with | true=>some t₁.abs | false=>none)=_
  cases e2:(staticsOk (QA p.main.body) s₀.heap t₁.abs.heap&&namesBound p t₁.abs.heap&&gensDone t₁.abs&&laidKept s₀.heap t₁.abs.heap) with
  | false=>rw[e2] at h;cases h
  | true=>rw[e2] at h;cases h;rfl
noncomputable def iM (tb:String->Option QY) (p:Nk) (w:Nz) (N:Nat):Option Rp:=(fencedOpening tb p w N).bind (lH tb p w N)
theorem Aj {tb:String->Option QY}{p:Nk}{w:Nz}{N:Nat}{α:Type}{f:M0->α}{x:α} (h:(iM tb p w N).map (fun t=>f t.abs)=some x):(openEnds tb p w N).map f=some x:=by
 obtain ⟨t,ht,e⟩:=Option.map_eq_some_iff.mp h
 obtain ⟨s₀,h0,h1⟩:=Option.bind_eq_some_iff.mp ht
 unfold openEnds
 rw[h0]
 show (topFrom tb p w N s₀).map f=some x
 rw[rM h1]
 exact congrArg some e
theorem wU {α β γ δ:Type}{o:Option α}{f:α->β×γ}{g:α->δ}{x:β}{y:γ}{z:δ} (h1:o.map (fun t=>(f t).1)=some x) (h2:o.map (fun t=>(f t).2)=some y) (h3:o.map g=some z):o.map (fun t=>(f t,g t))=some ((x,y),z):=by
 cases o with
 | none=>cases h2
 | some t =>
  have e1:(f t).1=x:=Nc h1
  have e2:(f t).2=y:=Nc h2
  have e3:g t=z:=Nc h3
  show some (f t,g t)=_
  rw[← e1,← e2,← e3]
theorem good (q:Nk) (loose:List Str):openGood q loose=(QN q,Sy,true,true,PySem.pinGoodD (Rg q),QL q (PySem.W.looseW q loose),QM q loose,SK q,SM q loose):=rfl
noncomputable def LA (tb:String->Option QY) (p q:Nk) (loose mods:List Str) (Xt:M0->Bool) (g0:Bool) (N:Nat) (w:Nz):Prop :=
 (iM tb p w N).map (fun t=>(SX q loose mods Xt g0 t.abs).1)=some (QN q)
noncomputable def LB (tb:String->Option QY) (p q:Nk) (loose mods:List Str) (Xt:M0->Bool) (g0:Bool) (N:Nat) (w:Nz):Prop :=
 (iM tb p w N).map (fun t=>(SX q loose mods Xt g0 t.abs).2)=some (Sy,true,true,PySem.pinGoodD (Rg q),QL q (PySem.W.looseW q loose),QM q loose,SK q,SM q loose)
noncomputable def LO (tb:String->Option QY) (p:Nk) (N:Nat) {α:Type} (Yf:M0->α) (Ya:Nz->α) (w:Nz):Prop:=(iM tb p w N).map (fun t=>Yf t.abs)=some (Ya w)
theorem Ak {tb:String->Option QY}{p q:Nk}{loose mods:List Str}{Xt:M0->Bool}{g0:Bool}{N:Nat}{α:Type}{Yf:M0->α}{Ya:Nz->α}{w:Nz} (h1:LA tb p q loose mods Xt g0 N w) (h2:LB tb p q loose mods Xt g0 N w) (h3:LO tb p N Yf Ya w) :
 (openEnds tb p w N).map (fun s=>(SX q loose mods Xt g0 s,Yf s))=some (openGood q loose,Ya w):=by
 rw[good]
 have h:=wU (f:=fun t:Rp=>SX q loose mods Xt g0 t.abs) (g:=fun t:Rp=>Yf t.abs) h1 h2 h3
 exact Aj (f:=fun s=>(SX q loose mods Xt g0 s,Yf s)) h
end BR
end
section
namespace BG
open PySem PySem.Spec PySem.Calls PyProof.Rows L2
structure FS where
 name:Str
 qual:Str
 params:Ri
 body:FuncBody
 scope:NY
 globals:M9
 closure:List (Str×M9)
 defaults:MZ
 builtins:M9
 code:Bool
noncomputable def Al (K:MV) (f:M9):Option FS:=match K.lookup f with
 | some ⟨_,_,.func fd,_⟩=>some ⟨fd.name,fd.qualname,fd.params,fd.body,fd.scope,fd.globals,fd.closure,fd.defaults,fd.builtins,Qj K fd.code fd.qualname⟩
 | _=>none
noncomputable def tP (x qual:Str) (st:Rc):FS:=⟨x,qual,fk st,.stmts (dM st),cZ st,Nj,[],.none,O7,true⟩
noncomputable def strOf:MZ->Option Str
 | .str x _=>some x
 | _=>none
noncomputable def intOf:MZ->Option Int
 | .int i _=>some i
 | _=>none
noncomputable def refOf:Option (Option MZ)->Option M9
 | some (some (.ref a))=>some a
 | _=>none
inductive Qy where
 | fn (x:Str) (f:M9) (st:Rc) | int (x:Str) (n:Int) | tup (x:Str) (f:M9) (xs:List Str) | dct (x:Str) (f:M9) (kvs:List (Str×Int)) | no (x:Str) | cls (c:Str) (C:M9) | me (C:M9) (m x qual:Str) (f:M9) (st:Rc) | mk (C:M9)
 | tab (x:Str) (c P:M9) | bm (b:M9) | fv (x:Str) (f:M9) | exc (D:M9) (xs:List (Str×M9))
 | str (x s:Str) | stp (f:M9) (xs:List Str) | dtp (x:Str) (f:M9) (kvs:List (Str×M9))
inductive Ov where
 | fn (a:Option M9) (o:Option FS) | int (n:Option Int) | seq (a:Option M9) (c:Option (MZ×Option M9×Nat)) (xs:Option (List (Option Str))) | dct (a:Option M9) (c:Option (MZ×Option M9×Nat)) (xs:Option (List (Int×Option Str×Option Int))) | b (x:Bool)
noncomputable def shp (o:Obj):MZ×Option M9×Nat:=(o.cls,o.dict,o.slots.size)
noncomputable def tQ (o:Obj):Option (List (Option Str)):=match o.data with
 | .seq its _=>some (its.toList.map strOf)
 | _=>none
noncomputable def CM (o:Obj):Option (List (Int×Option Str×Option Int)):=match o.data with
 | .dict es _=>some (es.toList.map fun e=>(e.hash,strOf e.key,intOf e.val))
 | _=>none
noncomputable def tR:MZ->Option Int
 | .ref a=>some (a:Int)
 | _=>none
noncomputable def CO (o:Obj):Option (List (Int×Option Str×Option Int)):=match o.data with
 | .dict es _=>some (es.toList.map fun e=>(e.hash,strOf e.key,tR e.val))
 | _=>none
noncomputable def attrs:List Str:=["program","asked","gap","most","kept","farthest","front","now","origins","branches","tape","named"]
noncomputable def Ke (K:MV) (c:Str) (C:M9):Bool:=decide (NH K Nj c=some (some (.ref C)))&&Pe K C Str.empty&&OJ K C&&QC K C&&decide (NB K (.ref C) "__setattr__"=some (some (.builtin "object.__setattr__"))) &&
 attrs.all fun f=>decide (NB K (.ref C) f=some none)
noncomputable def meB (K:MV) (C:M9) (m:Str) (f:M9):Bool:=decide (NB K (.ref C) m=some (some (.ref f)))&&QF K (.ref f)
noncomputable def mkB (K:MV) (C:M9):Bool:=QV K C&&N6 K (.ref C)
noncomputable def bmB (K:MV) (b:M9):Bool:=decide (NH K Nj "__builtins__"=some (some (.ref b)))&&decide (b≠O7)&&(match K.lookup b with
 | some ⟨.type "module",some d,.plain,_⟩=>d==O7
 | _=>false)
noncomputable def Kf (K:MV) (C D:M9):Bool:=match K.lookup C with
 | some ⟨_,_,.cls cd,_⟩=>cd.mro.contains (.ref D)
 | _=>false
noncomputable def GF (K:MV) (c:Str) (C:M9):Bool:=decide (NH K Nj c=some (some (.ref C)))&&PySem.W.excIn K C [.type "ValueError",.type "Exception",.type "BaseException",.type "object"] "ValueError.__new__"
noncomputable def Kg (K:MV) (D:M9) (xs:List (Str×M9)) (c:Str) (C:M9):Bool:=GF K c C&&Kf K C D&&decide (NB K (.ref C) "__getattribute__"=some (some (.builtin "BaseException.__getattribute__")))&&decide (NB K (.ref C) "__getattr__"=some none) &&
 decide (Qu K C (.type "BaseException")=some true)&&OJ K C&&decide (NB K (.ref C) "__class__"=some (some (.builtin "object.__class__")))&&decide (Sz K (.builtin "object.__class__") "__get__"=some (some (.builtin "getset_descriptor.__get__"))) &&
 decide (Tc K (.builtin "object.__class__")=some true)&&decide (Qu K C (.type "object")=some true)&&decide (On K (.ref C) (.type "ValueError")=some true)&&xs.all fun q=>decide (On K (.ref C) (.ref q.2)=some (q.1==c))
noncomputable def Kl (K:MV) (D:M9) (xs:List (Str×M9)):Bool:=GF K "TapeError" D&&xs.all fun q=>Kg K D xs q.1 q.2
noncomputable def eZ (K:MV):Qy->Ov
 | .fn x f _=>.fn (refOf (NH K Nj x)) (Al K f)
 | .int x _=>.int (match NH K Nj x with | some (some v)=>intOf v | _=>none)
 | .tup x f _=>.seq (refOf (NH K Nj x)) ((K.lookup f).map shp) ((K.lookup f).bind tQ)
 | .dct x f _=>.dct (refOf (NH K Nj x)) ((K.lookup f).map shp) ((K.lookup f).bind CM)
 | .no x=>.b (decide (NH K Nj x=some none))
 | .cls c C=>.b (Ke K c C)
 | .me C m _ _ f _=>.fn (if meB K C m f then some f else none) (Al K f)
 | .mk C=>.b (mkB K C)
 | .tab x c P=>.b (decide (Om K x=some (c,P))&&QH K c P)
 | .bm b=>.b (bmB K b)
 | .fv x f=>.b (decide (NH K Nj x=some (some (.ref f)))&&N6 K (.ref f))
 | .exc D xs=>.b (Kl K D xs)
 | .str x _=>.seq none none (match NH K Nj x with | some (some v)=>some [strOf v] | _=>none)
 | .stp f _=>.seq none ((K.lookup f).map shp) ((K.lookup f).bind tQ)
 | .dtp x f _=>.dct (refOf (NH K Nj x)) ((K.lookup f).map shp) ((K.lookup f).bind CO)
noncomputable def e9 (w:Nz):Qy->Ov
 | .fn x f st=>.fn (some f) (some (tP x x st))
 | .int _ n=>.int (some n)
 | .tup _ f xs=>.seq (some f) (some (.type "tuple",none,0)) (some (xs.map some))
 | .dct _ f kvs=>.dct (some f) (some (.type "dict",none,0)) (some (kvs.map fun q=>(PyData.keyHash w.params q.1,some q.1,some q.2)))
 | .no _=>.b true
 | .cls _ _=>.b true
 | .me _ _ x qual f st=>.fn (some f) (some (tP x qual st))
 | .mk _=>.b true
 | .tab _ _ _=>.b true
 | .bm _=>.b true
 | .fv _ _=>.b true
 | .exc _ _=>.b true
 | .str _ s=>.seq none none (some [some s])
 | .stp f xs=>.seq none (some (.type "tuple",none,0)) (some (xs.map some))
 | .dtp _ f kvs=>.dct (some f) (some (.type "dict",none,0)) (some (kvs.map fun q=>(PyData.keyHash w.params q.1,some q.1,some (q.2:Int))))
noncomputable def KOf (as:List M9) (h:Heap):MV:=as.map fun a=>(a,(h.get? a).getD default)
noncomputable def sees (as:List M9) (qs:List Qy) (ts:List M9):PySem.W.Hook where
 α:=Bool×List Ov×List (Option Obj)
 obs:=fun s=>(as.all fun a=>(s.heap.get? a).isSome,qs.map (eZ (KOf as s.heap)),ts.map s.heap.get?)
 val:=fun w=>(true,qs.map (e9 w),ts.map fun _=>some (Qh #[]))
 says:=fun w h=>∃ K:MV,K.map (·.1)=as/\(∀ p∈K,h.get? p.1=some p.2)/\(∀ q∈qs,eZ K q=e9 w q)/\∀ P∈ts,h.get? P=some (Qh #[])
 of:=fun w s e=>by
  have e1:=congrArg Prod.fst e
  have e2:=congrArg (fun p=>p.2.1) e
  have e3:=congrArg (fun p=>p.2.2) e
  refine ⟨KOf as s.heap,by simp[KOf,Function.comp_def],fun p hp=>?_,fun q hq=>List.map_inj_left.mp e2 q hq,fun P hP=>List.map_inj_left.mp e3 P hP⟩
  obtain ⟨a,ha,rfl⟩:=List.mem_map.mp hp
  have h1:=List.all_eq_true.mp e1 a ha
  obtain ⟨o,ho⟩:=Option.isSome_iff_exists.mp h1
  show s.heap.get? a=some ((s.heap.get? a).getD default)
  rw[ho];rfl
 keeps:=fun w h h' ⟨K,m,n,k,t⟩ hk=>⟨K,m,fun p hp=>hk _ _ (n p hp),k,fun P hP=>hk _ _ (t P hP)⟩
end BG
end
section
namespace BL
open PySem PySem.Spec PyProof.Rows L2 BG
noncomputable abbrev pg:Nk:=PySem.Challenge.pw_backtape_k80_written
noncomputable def qg:Nk:=PySem.W.view pg [1,2,4,5,6,7,8,9,10,11,12,13,14,15,16,17,18,19,20,22,23,24,25,26,27,28,29,30,31,32,33,34,35,37,38,39,40,41,42,43,44]
noncomputable abbrev loo:List Str:=["INNER_COUNTS","ROW_FORMS"]
noncomputable def top (i:Nat):Rc:=pg.main.body.getD i (.Pass ⟨0,0,0,0⟩)
noncomputable def GG:Rc->List Rc
 | .ClassDef _ _ _ b _ _ _ _ _ _ _=>b
 | _=>[]
noncomputable def MN (i j:Nat):Rc:=(GG (top i)).getD j (.Pass ⟨0,0,0,0⟩)
noncomputable def Km:Rc->Pos
 | .FunctionDef _ _ _ _ _ _ _ _ _ p=>p
 | _=>⟨0,0,0,0⟩
noncomputable abbrev adr:List M9:=[3,40,41,42,43,44,45,46,47,48,49,50,51,57,58,64,65,71,72,78,79,85,86,92,93,99,100,106,107,113,114,118,119,123,124,130,131,137,138,144,145,149,150,154,155,161,162,168,169,173,174,180,181,187,188,194,195,199,200,206,207,213,214,220,221,227,228,232,233,237,238,242,243,247,248]
noncomputable def qys:List Qy:=[.fn "is_whole" 58 (top 10),
 .fn "is_worth" 65 (top 11),
 .fn "is_name" 72 (top 12),
 .fn "is_place" 79 (top 13),
 .fn "first_word" 86 (top 14),
 .fn "inner_sums" 93 (top 15),
 .fn "has_sum_form" 100 (top 16),
 .fn "is_sum" 107 (top 17),
 .fn "fits" 114 (top 18),
 .fn "is_row" 119 (top 19),
 .fn "is_program" 124 (top 20),
 .fn "written_word" 131 (top 24),
 .fn "written_sum" 138 (top 25),
 .fn "written_row" 145 (top 26),
 .fn "written" 150 (top 27),
 .fn "is_figures" 155 (top 28),
 .fn "number_or_word" 162 (top 29),
 .fn "leaf_of" 169 (top 30),
 .fn "sum_of" 174 (top 31),
 .fn "sum_end" 181 (top 32),
 .fn "row_of" 188 (top 33),
 .fn "read_sum" 195 (top 34),
 .fn "read" 200 (top 35),
 .fn "_law_cell" 207 (top 37),
 .fn "_law_drawn" 214 (top 38),
 .fn "_law_sum" 221 (top 39),
 .fn "_law_row" 228 (top 40),
 .fn "_law_program" 233 (top 41),
 .fn "_law_asked" 238 (top 42),
 .fn "_law_text" 243 (top 43),
 .fn "law" 248 (top 44),
 .int "WORTH_COUNT" 10007,
 .int "MOST_PARTS" 15,
 .int "MOST_ROWS" 20,
 .int "MOST_FIGURES" 5,
 .tup "LETTERS" 40 ["a","b","c","d","e","f"],
 .dct "INNER_COUNTS" 41 [("num",0),("name",0),("cell",1),("add",2),("sub",2),("mul",2),("less",2)],
 .str "FIGURES" "0123456789",
 .dtp "ROW_FORMS" 42 [("set",43),("put",44),("ask",45),("say",46),("jump",47),("unless",48),("call",49),("back",50),("stop",51)],
 .stp 43 ["name","sum"],
 .stp 44 ["sum","sum"],
 .stp 45 ["name"],
 .stp 46 ["sum"],
 .stp 47 ["place"],
 .stp 48 ["sum","place"],
 .stp 49 ["place"],
 .stp 50 [],
 .stp 51 [],
 .no "len",
 .no "abs",
 .no "int",
 .no "list",
 .no "tuple",
 .no "isinstance",
 .no "str",
 .no "bool",
 .no "range",
 .no "reversed",
 .no "enumerate",
 .no "zip",
 .no "min",
 .no "max",
 .no "sorted",
 .no "sum",
 .no "all",
 .no "any",
 .no "set",
 .no "ValueError",
 .no "dict",
 .no "worths_of",
 .no "last_change",
 .no "next_change",
 .no "moments_so",
 .no "last_so",
 .no "next_so",
 .no "visits",
 .no "last_visit",
 .no "when_said",
 .no "next_within",
 .no "last_within",
 .no "first_other",
 .no "writer_of",
 .no "judged",
 .no "remade"]
noncomputable abbrev tl:List (Str×M9×M9):=[]
noncomputable abbrev tas:List M9:=[]
noncomputable abbrev LA:Nz->Prop:=BR.LA treeTable pg qg loo (QA pg.main.body) (fun s=>RM qg [] s&&Rq [] s) true 3486
theorem la0 (w:Nz):LA (w.withFollow "special-get-raises" false):=by unfold LA BR.LA;kernel_rfl
theorem la1 (w:Nz):LA (w.withFollow "special-get-raises" true):=by unfold LA BR.LA;kernel_rfl
noncomputable abbrev LB:Nz->Prop:=BR.LB treeTable pg qg loo (QA pg.main.body) (fun s=>RM qg [] s&&Rq [] s) true 3486
theorem lb0 (w:Nz):LB (w.withFollow "special-get-raises" false):=by unfold LB BR.LB;kernel_rfl
theorem lb1 (w:Nz):LB (w.withFollow "special-get-raises" true):=by unfold LB BR.LB;kernel_rfl
noncomputable abbrev LO:Nz->Prop:=BR.LO treeTable pg 3486 (sees adr qys tas).obs (sees adr qys tas).val
theorem lo0 (w:Nz):LO (w.withFollow "special-get-raises" false):=by unfold LO BR.LO;kernel_rfl
theorem lo1 (w:Nz):LO (w.withFollow "special-get-raises" true):=by unfold LO BR.LO;kernel_rfl
theorem left:PySem.W.LeftO pg qg loo (fun s=>RM qg [] s&&Rq [] s) (sees adr qys tas).obs (sees adr qys tas).val 3486:=fun w=>BR.Ak (Re (P:=LA) "special-get-raises" la0 la1 w) (Re (P:=LB) "special-get-raises" lb0 lb1 w) (Re (P:=LO) "special-get-raises" lo0 lo1 w)
end BL
end
section
namespace L2
open PySem PySem.Spec PyProof.Rows
noncomputable abbrev Key:=Sum Int Str
noncomputable def nQ:Key->MZ->Bool
 | .inl k,v=>Value.isInt k v
 | .inr x,v=>Pp x v
noncomputable def Kn (w:Nz):Key->Int
 | .inl k=>hashInt k
 | .inr x=>hashStr w x
theorem dO:∀ {k:Key}{v:MZ},nQ k v=true->(∃ i t,k=Sum.inl i/\v=QB i t)\/(∃ x t,k=Sum.inr x/\v=R8 x t)
 | .inl i,v,h=>by
  obtain ⟨t,e⟩:=Value.isInt_shape (k:=i) (v:=v) h
  exact .inl ⟨i,t,rfl,e⟩
 | .inr x,v,h=>by
  obtain ⟨t,e⟩:=Value.isStrOf_shape (x:=x) (v:=v) h
  exact .inr ⟨x,t,rfl,e⟩
theorem vq (i:Int) (t:Tok):nQ (.inl i) (.int i t)=true:=by simp[nQ,Value.isInt]
theorem vv (x:Str) (t:Tok):nQ (.inr x) (.str x t)=true:=by simp[nQ,Pp]
theorem Du (a b:Int):decide ((Sum.inl a:Key)=Sum.inl b)=(a==b):=by
 by_cases e:a=b
 ·subst e;simp
 ·have h:¬ (Sum.inl a:Key)=Sum.inl b:=fun q=>e (Sum.inl.inj q)
  rw[decide_eq_false h]
  exact (beq_eq_false_iff_ne.mpr e).symm
theorem Dv (a b:Str):decide ((Sum.inr a:Key)=Sum.inr b)=decide (a=b):=by
 by_cases e:a=b
 ·subst e;simp
 ·have h:¬ (Sum.inr a:Key)=Sum.inr b:=fun q=>e (Sum.inr.inj q)
  rw[decide_eq_false h,decide_eq_false e]
theorem Dw (a:Int) (b:Str):decide ((Sum.inl a:Key)=Sum.inr b)=false:=decide_eq_false (fun q=>nomatch q)
theorem Dy (a:Str) (b:Int):decide ((Sum.inr a:Key)=Sum.inl b)=false:=decide_eq_false (fun q=>nomatch q)
noncomputable def c9 (prog:Nk) (w:Nz):PySem.KeyKind prog w Key where
 is:=nQ
 hash:=Kn w
 inj:=fun v a b ha hb=>by
  rcases dO ha with ⟨i,t,rfl,rfl⟩ | ⟨x,t,rfl,rfl⟩
  ·rcases dO hb with ⟨j,u,rfl,e⟩ | ⟨y,u,rfl,e⟩
   ·injection e with e1 _;rw[e1]
   ·exact nomatch e
  ·rcases dO hb with ⟨j,u,rfl,e⟩ | ⟨y,u,rfl,e⟩
   ·exact nomatch e
   ·injection e with e1 _;rw[e1]
 byValue:=fun k v h=>by
  rcases dO h with ⟨i,t,rfl,rfl⟩ | ⟨x,t,rfl,rfl⟩<;>rfl
 pyHash:=fun hv h=>by
  rcases dO hv with ⟨i,t,rfl,rfl⟩ | ⟨x,t,rfl,rfl⟩
  ·exact wpAny_pyHash_int h
  ·exact wpAny_pyHash_str h
 eqBool:=fun hu hv h=>by
  rcases dO hu with ⟨i,t,rfl,rfl⟩ | ⟨x,t,rfl,rfl⟩
  ·rcases dO hv with ⟨j,u,rfl,rfl⟩ | ⟨y,u,rfl,rfl⟩
   ·rw[Du] at h;exact wpAny_eqBool_int h
   ·rw[Dw] at h;exact SeqAt.EqAt.int_str i t y u _ _ _ _ h
  ·rcases dO hv with ⟨j,u,rfl,rfl⟩ | ⟨y,u,rfl,rfl⟩
   ·rw[Dy] at h;exact SeqAt.EqAt.str_int x t j u _ _ _ _ h
   ·rw[Dv] at h;exact wpAny_eqBool_str h
 «strs»:=fun k x t v h=>by
  rcases dO h with ⟨i,u,rfl,e⟩ | ⟨y,u,rfl,e⟩
  ·exact nomatch e
  ·injection e with e1 _
   subst e1
   cases v<;>rfl
theorem qu (prog:Nk) (w:Nz) (i:Int) (t:Tok):(c9 prog w).is (.inl i) (.int i t)=true:=vq i t
theorem eV (prog:Nk) (w:Nz) (x:Str) (t:Tok):(c9 prog w).is (.inr x) (.str x t)=true:=vv x t
end L2
namespace L2
open PySem PySem.Spec PyProof.Rows
inductive V where
 | non | bl (b:Bool) | int (i:Int) | str (x:Str) | byt (b:Array UInt8) | flt (b:UInt64) | ref (a:M9) | ty (n:String)
 deriving DecidableEq
noncomputable def RelV:V->MZ->Prop
 | .non,u=>u=O8
 | .bl b,u=>u=PY b
 | .int i,u=>∃ t,u=QB i t
 | .str x,u=>∃ t,u=R8 x t
 | .byt b,u=>∃ t,u=Value.bytes b t
 | .flt b,u=>∃ t,u=Value.float b t
 | .ref a,u=>u=Of a
 | .ty n,u=>u=Value.type n
noncomputable abbrev cX:List V->List MZ->Prop:=Paired RelV
theorem cX.length {xs:List V}{us:List MZ} (r:cX xs us):xs.length=us.length:=Paired.length r
theorem cX.get:∀ {xs:List V}{us:List MZ}{i:Nat}{x:V},cX xs us->xs[i]?=some x->∃ u,us[i]?=some u/\RelV x u
 | _,_,_,_,.nil,e=>by simp at e
 | _,_,0,_,.cons r _,e=>by simp at e;subst e;exact ⟨_,rfl,r⟩
 | _,_,i+1,x,.cons _ t,e=>by
  obtain ⟨u,h1,h2⟩:=cX.get (i:=i) (x:=x) t (by simpa using e)
  exact ⟨u,by simpa using h1,h2⟩
theorem cX.set {x:V}{u:MZ} (r:RelV x u):∀ {xs:List V}{us:List MZ} (i:Nat),cX xs us->cX (xs.set i x) (us.set i u)
 | _,_,_,.nil=>.nil
 | _,_,0,.cons _ t=>.cons r t
 | _,_,i+1,.cons q t=>.cons q (cX.set r i t)
theorem cX.append:∀ {xs ys:List V}{us ws:List MZ},cX xs us->cX ys ws->cX (xs++ys) (us++ws)
 | _,_,_,_,.nil,s=>s
 | _,_,_,_,.cons r t,s=>.cons r (cX.append t s)
theorem cX.take:∀ {xs:List V}{us:List MZ} (n:Nat),cX xs us->cX (xs.take n) (us.take n)
 | _,_,0,_=>.nil
 | _,_,_+1,.nil=>.nil
 | _,_,n+1,.cons r t=>.cons r (cX.take n t)
theorem cX.drop:∀ {xs:List V}{us:List MZ} (n:Nat),cX xs us->cX (xs.drop n) (us.drop n)
 | _,_,0,r=>r
 | _,_,_+1,.nil=>.nil
 | _,_,n+1,.cons _ t=>cX.drop n t
noncomputable def lI:Option V->Option MZ->Prop
 | some v,some u=>RelV v u
 | none,none=>True
 | _,_=>False
noncomputable def KV {κ:Type}:List (κ×V)->List (κ×MZ)->Prop:=Paired fun (p:κ×V) (q:κ×MZ)=>p.1=q.1/\RelV p.2 q.2
noncomputable def kV:Key->V
 | .inl i=>.int i
 | .inr x=>.str x
inductive HO where
 | lst (xs:List V)
 | tup (xs:List V)
 | dK (kvs:List (Key×V)) | dT (kvs:List (List Key×V))
 | set (S:Int->Bool) (n:Nat)
 | ins (C dx:M9) (fs:List (Str×V))
 | own (x:M9)
 | xd (fs:List (Str×V))
 | met (f x:M9)
 | rng (lo hi:Int)
 | frz (o:Obj) (u:HO)
 | tbl (ps:Array MZ)
 | ext (φ:Heap->Prop)
noncomputable abbrev Hp:=M9->Option HO
noncomputable def upd (H:Hp) (a:M9) (o:HO):Hp:=fun b=>if b=a then some o else H b
theorem dR {H:Hp}{a:M9}{o:HO}:upd H a o a=some o:=by unfold upd;rw[if_pos rfl]
theorem c5 {H:Hp}{a b:M9}{o:HO} (h:b≠a):upd H a o b=H b:=by unfold upd;rw[if_neg h]
theorem dz {H:Hp}{a b:M9}{o:HO} (h:H a=some o) (h':H b=none):a≠b:=by
 intro e;subst e;rw[h] at h';cases h'
section
variable (P:Nk) (w:Nz)
noncomputable def fy (H:Hp) (h:Heap) (a:M9):HO->Prop
 | .lst xs=>xs.length<=sizeLine/\∃ (its:List MZ) (n:Nat),cX xs its/\h.get? a=some { cls:=.type "list",data:=.seq its.toArray n }
 | .tup xs=>xs.length<=sizeLine/\∃ its:List MZ,cX xs its/\IsTup h a its.toArray
 | .dK kvs=>kvs.length<=sizeLine/\(a==OU)=false/\∃ vs,KV kvs vs/\h.DictOf (c9 P w) a vs
 | .dT kvs=>kvs.length<=sizeLine/\(a==OU)=false/\∃ xs:List (List Key×M9×MZ),
  Paired (fun (p:List Key×V) (q:List Key×M9×MZ)=>p.1=q.1/\H q.2.1=some (.tup (p.1.map kV))/\RelV p.2 q.2.2) kvs xs ∧
  ∃ o es ep,h.get? a=some o/\o.ExactDict/\o.data=.dict es ep/\es.toList=xs.map (entryOfKey (tupleKind (c9 P w)))/\(xs.map (·.1)).Nodup
 | .set S n=>h.SetOf (intKind P w) a S n
 | .ins C dx fs=>H dx=some (.own a)/\fs.length<=1000/\dx≠a/\h.get? a=some (Oq C dx) ∧
  ∃ mA,h.Ns1 dx mA/\(∀ f,lI (fs.lookup f) (mA f))/\Sa mA (fs.map (·.1))
 | .own _=>∃ o,h.get? a=some o
 | .xd fs=>∃ mA,h.Ns1 a mA/\∀ f,lI (fs.lookup f) (mA f)
 | .rng lo hi=>∃ t u v,h.get? a=some { cls:=.type "range",data:=.fields #[.int lo t,.int hi u,.int 1 v] }
 | .frz o u=>h.get? a=some o/\fy H h a u
 | .tbl ps=>h.get? a=some { cls:=.none,data:=.fields ps }
 | .met f x=>h.get? a=some (QD (.ref f) (.ref x))
 | .ext φ=>φ h/\(∃ o,h.get? a=some o)/\∀ h1 h2:Heap,φ h1->(∀ o,h1.get? a=some o->h2.get? a=some o)->φ h2
noncomputable def HOk (H:Hp) (h:Heap):Prop:=∀ a o,H a=some o->fy P w H h a o
end
section
variable {P:Nk}{w:Nz}{H H':Hp}{h h':Heap}{a:M9}{o:HO}
theorem fy.lt (x:fy P w H h a o):a < h.objs.size:=by
 cases o with
 | lst xs=>obtain ⟨_,_,_,_,e⟩:=x;exact Na e
 | tup xs=>obtain ⟨_,_,_,p⟩:=x;exact p.lt
 | dK kvs=>obtain ⟨_,_,_,_,o,_,_,e,_⟩:=x;exact Na e
 | dT kvs=>obtain ⟨_,_,_,_,o,_,_,e,_⟩:=x;exact Na e
 | set S n=>obtain ⟨o,_,_,_,e,_⟩:=x;exact Na e
 | ins C dx fs=>obtain ⟨_,_,_,e,_⟩:=x;exact Na e
 | own y=>obtain ⟨_,e⟩:=x;exact Na e
 | xd fs=>obtain ⟨_,⟨_,_,_,e,_⟩,_⟩:=x;exact Na e
 | rng lo hi=>obtain ⟨_,_,_,e⟩:=x;exact Na e
 | frz ob u=>obtain ⟨e,_⟩:=x;exact Na e
 | tbl ps=>exact Na (show h.get? a=some _ from x)
 | met f y=>exact Na (show h.get? a=some _ from x)
 | ext φ=>obtain ⟨_,⟨_,e⟩,_⟩:=x;exact Na e
theorem Paired.GH {α β:Type}{F G:α->β->Prop}:∀ {l₁:List α}{l₂:List β},Paired F l₁ l₂->(∀ a b,F a b->G a b)->Paired G l₁ l₂
 | _,_,.nil,_=>.nil
 | _,_,.cons r t,f=>.cons (f _ _ r) (Paired.GH t f)
theorem fy.stay (x:fy P w H h a o) (k:∀ b u,(b=a\/H b=some (.own a))->h.get? b=some u->h'.get? b=some u)
 (ho:∀ b,H b=some (.own a)->H' b=some (.own a)) (ht:∀ b xs,H b=some (.tup xs)->H' b=some (.tup xs)):fy P w H' h' a o:=by
 induction o with
 | lst xs=>obtain ⟨z,its,n,r,e⟩:=x;exact ⟨z,its,n,r,k _ _ (.inl rfl) e⟩
 | tup xs=>obtain ⟨z,its,r,ob,e,c⟩:=x;exact ⟨z,its,r,ob,k _ _ (.inl rfl) e,c⟩
 | dK kvs=>obtain ⟨z,y,vs,r,ob,es,ep,e,c⟩:=x;exact ⟨z,y,vs,r,ob,es,ep,k _ _ (.inl rfl) e,c⟩
 | dT kvs =>
  obtain ⟨z,y,xs,r,ob,es,ep,e,c⟩:=x
  exact ⟨z,y,xs,Paired.GH r fun p q z=>⟨z.1,ht _ _ z.2.1,z.2.2⟩,ob,es,ep,k _ _ (.inl rfl) e,c⟩
 | set S n=>obtain ⟨ob,es,ep,t,e,c⟩:=x;exact ⟨ob,es,ep,t,k _ _ (.inl rfl) e,c⟩
 | ins C dx fs =>
  obtain ⟨d,z,ne,e,mA,⟨od,es,ep,e2,c⟩,r⟩:=x
  exact ⟨ho _ d,z,ne,k _ _ (.inl rfl) e,mA,⟨od,es,ep,k _ _ (.inr d) e2,c⟩,r⟩
 | own y=>obtain ⟨ob,e⟩:=x;exact ⟨ob,k _ _ (.inl rfl) e⟩
 | xd fs=>obtain ⟨mA,⟨od,es,ep,e,c⟩,r⟩:=x;exact ⟨mA,⟨od,es,ep,k _ _ (.inl rfl) e,c⟩,r⟩
 | rng lo hi=>obtain ⟨t,u,v,e⟩:=x;exact ⟨t,u,v,k _ _ (.inl rfl) e⟩
 | frz ob u ih=>obtain ⟨e,q⟩:=x;exact ⟨k _ _ (.inl rfl) e,ih q⟩
 | tbl ps =>
  have e:h.get? a=some { cls:=.none,data:=.fields ps }:=x
  show h'.get? a=some { cls:=.none,data:=.fields ps }
  exact k a _ (.inl rfl) e
 | met f y =>
  have e:h.get? a=some (QD (.ref f) (.ref y)):=x
  show h'.get? a=some (QD (.ref f) (.ref y))
  exact k a _ (.inl rfl) e
 | ext φ=>obtain ⟨p,⟨o,e⟩,st⟩:=x;exact ⟨st _ _ p fun o q=>k _ _ (.inl rfl) q,⟨o,k _ _ (.inl rfl) e⟩,st⟩
theorem HOk.lt (x:HOk P w H h) (e:H a=some o):a < h.objs.size:=(x a o e).lt
theorem HOk.fresh (x:HOk P w H h) (e:h.objs.size<=a):H a=none:=by
 cases q:H a with
 | none=>rfl
 | some u=>exact absurd (Nu (x.lt q) e) (OA _)
theorem HOk.kept (x:HOk P w H h) (k:∀ b u,h.get? b=some u->h'.get? b=some u):HOk P w H h':=fun a o e =>
 (x a o e).stay (fun b u _ q=>k b u q) (fun _ q=>q) fun _ _ q=>q
theorem HOk.laid (x:HOk P w H h) (k:∀ b u,h.get? b=some u->h'.get? b=some u) (hp:h.objs.size<=a) (new:fy P w (upd H a o) h' a o):HOk P w (upd H a o) h':=fun b u e=>by
 have hn:=x.fresh hp
 by_cases hb:b=a
 ·subst hb;rw[dR] at e;cases e;exact new
 ·rw[c5 hb] at e
  exact (x b u e).stay (fun c v _ q=>k c v q) (fun c q=>by rw[c5 (dz q hn)];exact q) fun c xs q=>by rw[c5 (dz q hn)];exact q
end
noncomputable def Rd (H:Hp) (a:M9) (u:HO):Prop:=H a=some u\/∃ o,H a=some (.frz o u)
theorem Rd.ok {P:Nk}{w:Nz}{H:Hp}{h:Heap}{a:M9}{u:HO} (r:Rd H a u) (x:HOk P w H h):fy P w H h a u:=by
 rcases r with r | ⟨o,r⟩
 ·exact x a u r
 ·obtain ⟨_,q⟩:=x a _ r
  exact q
noncomputable def Mut:Option HO->Prop
 | some (.lst _)=>True
 | some (.dK _)=>True
 | some (.dT _)=>True
 | some (.set _ _)=>True
 | some (.ins _ _ _)=>True
 | some (.ext _)=>True
 | _=>False
section
variable {P:Nk}{w:Nz}{H:Hp}{h h':Heap}{x e:M9}{o':HO}
theorem HOk.write (ok:HOk P w H h) (mu:Mut (H x)) (he:e=x\/H e=some (.own x)) (k:∀ b u,b≠e->h.get? b=some u->h'.get? b=some u) (heo:∃ u,h'.get? e=some u)
 (new:fy P w (upd H x o') h' x o'):HOk P w (upd H x o') h':=fun b u q=>by
 have nown:∀ c y,H c=some (.own y)->c≠x:=fun c y r z=>by subst z;rw[r] at mu;exact mu
 have ntup:∀ c xs,H c=some (.tup xs)->c≠x:=fun c xs r z=>by subst z;rw[r] at mu;exact mu
 by_cases hb:b=x
 ·subst hb;rw[dR] at q;cases q;exact new
 ·rw[c5 hb] at q
  by_cases hbe:b=e
  ·have q':H b=some (.own x):=by
    rcases he with z | z
    ·exact absurd (hbe.trans z) hb
    ·rw[hbe];exact z
   rw[q] at q';cases q'
   obtain ⟨v,hv⟩:=heo
   exact ⟨v,by rw[hbe];exact hv⟩
  ·refine (ok b u q).stay (fun c v hc r=>k c v ?_ r) (fun c r=>by rw[c5 (nown c b r)];exact r) fun c xs r=>by rw[c5 (ntup c xs r)];exact r
   rcases hc with rfl | hc
   ·exact hbe
   ·rintro rfl
    rcases he with z | z
    ·exact nown c b hc z
    ·rw[hc] at z;cases z;exact hb rfl
end
structure Un (fs ex:List M9) (H H':Hp) (h h':Heap):Prop where
 keep:∀ b o,h.get? b=some o->H b=none->b∉fs->b∉ex->h'.get? b=some o
 slot:∀ b o,h.get? b=some o->H b=none->b∈fs->b∉ex->∃ sl,h'.get? b=some { o with slots:=sl }
 free:∀ b o,h.get? b=some o->H b=none->b∉ex->H' b=none
 there:∀ b o,h.get? b=some o->b∉ex->∃ o',h'.get? b=some o'
 tups:∀ b xs,H b=some (.tup xs)->H' b=some (.tup xs)
 frzs:∀ b o u,H b=some (.frz o u)->H' b=some (.frz o u)
 tbls:∀ b ps,H b=some (.tbl ps)->∃ more,H' b=some (.tbl (ps++more))
section
variable {fs fs' ex ex':List M9}{H H1 H2:Hp}{h h1 h2 h':Heap}{a x e:M9}{o:HO}
theorem Un.any (u:Un fs ex H H1 h h1) {b:M9}{ob:Obj} (q:h.get? b=some ob) (n:H b=none) (hx:b∉ex):∃ sl,h1.get? b=some { ob with slots:=sl }:=by
 by_cases hb:b∈fs
 ·exact u.slot b ob q n hb hx
 ·exact ⟨ob.slots,u.keep b ob q n hb hx⟩
theorem Un.kept (k:∀ b u,h.get? b=some u->h'.get? b=some u):Un fs ex H H h h' :=
 ⟨fun b ob q _ _ _=>k b ob q,fun b ob q _ _ _=>⟨ob.slots,k b ob q⟩,fun _ _ _ n _=>n,fun b ob q _=>⟨ob,k b ob q⟩,fun _ _ q=>q,fun _ _ _ q=>q,fun _ ps q=>⟨#[],by rw[q];simp⟩⟩
theorem Un.refl:Un fs ex H H h h:=Un.kept fun _ _ q=>q
theorem Un.laid (k:∀ b u,h.get? b=some u->h'.get? b=some u) (hp:h.objs.size<=a) (hn:H a=none):Un fs ex H (upd H a o) h h' where
 keep:=fun b u q _ _ _=>k b u q
 slot:=fun b u q _ _ _=>⟨u.slots,k b u q⟩
 free:=fun b u q n _=>by rw[c5 (Nt (Nu (Na q) hp))];exact n
 there:=fun b u q _=>⟨u,k b u q⟩
 tups:=fun b xs q=>by rw[c5 (dz q hn)];exact q
 frzs:=fun b u xs q=>by rw[c5 (dz q hn)];exact q
 tbls:=fun b ps q=>⟨#[],by rw[c5 (dz q hn),q];simp⟩
theorem Un.write (mu:Mut (H x)) (he:e=x\/H e=some (.own x)) (k:∀ b u,b≠e->h.get? b=some u->h'.get? b=some u) (heo:∃ u,h'.get? e=some u):Un fs ex H (upd H x o) h h':=by
 have hx:∀ b,H b=none->b≠x:=fun b n z=>by subst z;rw[n] at mu;exact mu
 have hb:∀ b,H b=none->b≠e:=fun b n z=>by
  subst z
  rcases he with r | r
  ·exact hx b n r
  ·rw[n] at r;cases r
 have hm:∀ b u,H b=some u->¬ Mut (some u)->b≠x:=fun b u q nm z=>by subst z;rw[q] at mu;exact nm mu
 refine ⟨fun b u q n _ _=>k b u (hb b n) q,fun b u q n _ _=>⟨u.slots,k b u (hb b n) q⟩,fun b u q n _=>by rw[c5 (hx b n)];exact n,fun b u q _=>?_,
  fun b xs q=>by rw[c5 (hm b _ q fun z=>z)];exact q,fun b u xs q=>by rw[c5 (hm b _ q fun z=>z)];exact q,fun b ps q=>⟨#[],by rw[c5 (hm b _ q fun z=>z),q];simp⟩⟩
 by_cases hbe:b=e
 ·subst hbe;exact heo
 ·exact ⟨u,k b u hbe q⟩
end
noncomputable def trk (h:Heap) (H:Hp):List M9:=(OG h.objs.size).filter fun a=>(H a).isSome
noncomputable def qv (h:Heap) (H:Hp):Heap:=PySem.W.hideAll h (trk h H)
theorem vz (h:Heap) (H:Hp):(qv h H).objs.size=h.objs.size:=PySem.W.hideAll_size _ _
theorem qw {h:Heap}{H:Hp}{b:M9}{o:Obj} (e:h.get? b=some o) (n:H b=none):(qv h H).get? b=some o :=
 PySem.W.hideAll_get _ e fun hm=>by
  have q:(H b).isSome=true:=(List.mem_filter.mp hm).2
  rw[n] at q;simp at q
theorem Am {h:Heap}{H:Hp}{b:M9}{o:Obj} (e:(qv h H).get? b=some o):h.get? b=some o/\H b=none:=by
 have e':h.get? b=some o:=PySem.W.of_hideAll (trk h H) e
 refine ⟨e',?_⟩
 cases q:H b with
 | none=>rfl
 | some x =>
  have hm:b∈trk h H:=List.mem_filter.mpr ⟨List.mem_range.mpr (Na e'),by simp[q]⟩
  have z:(qv h H).get? b=none:=PySem.W.hideAll_none (trk h H) hm
  rw[z] at e;cases e
noncomputable def An (g h:Heap) (L:M9):List (M9×Obj):=(OG h.objs.size).filterMap fun a=>if a=L\/(g.get? a).isSome=true then none else (h.get? a).map fun o=>(a,o)
noncomputable def rest (g h:Heap) (L d:M9):List (M9×Obj):=(An g h L).filter fun p=>decide (p.1≠d)
end L2
namespace L2
open PySem PySem.Spec PyProof.Rows
structure Mod (K:MV) (mg:Str->Option MZ) (base:Heap):Prop where
 kin:K.In base
 glob:base.Ns Nj mg
 blt:∃ mb,base.Ns O7 mb/\∀ x:Str,x≠"__name__"->mb x=P7 x
 nolimit:base.NoLimit
structure Cx where
 prog:Nk
 w:Nz
 K:MV
 mg:Str->Option MZ
 base:Heap
 A:NT
 N:List Str
 s₀:M0
 H₀:Hp
 env:Env
 outer:List Env
 stack:List Env
 ex:List M9
 fn:Str->Bool
 calm:Bool
 pn:List (M9×Obj)
 xe:MZ->M0->Prop
noncomputable def frs (l:List Env):List M9:=l.filterMap (·.frame)
noncomputable abbrev Cx.fs (X:Cx):List M9:=frs X.outer
noncomputable def Vis (sc:NY) (x:Str):Prop:=sc.names.lookup x=some .local\/sc.names.lookup x=some .cell\/sc.names.lookup x=some .free
noncomputable def Loc (sc:NY) (x:Str):Prop:=sc.names.lookup x=some .local\/sc.names.lookup x=some .cell
noncomputable def Look (env:Env) (h:Heap) (m:Str->Option MZ) (x:Str) (u:MZ):Prop :=
 (env.kindOf x=some .local/\m x=some u)\/((env.kindOf x=some .cell\/env.kindOf x=some .free)/\∃ c,env.cells.lookup x=some c/\h.IsCell c (some u))
structure Cx.Ok (X:Cx):Prop where
 mod:Mod X.K X.mg X.base
 kind:X.env.scope.kind=.function
 glob:X.env.globals=Nj
 blt:X.env.builtins=O7
 above:X.s₀.heap.objs.size<=X.env.locals
 inj:∀ x y c,X.env.cells.lookup x=some c->X.env.cells.lookup y=some c->x=y
 has:∀ x,(X.env.kindOf x=some .cell\/X.env.kindOf x=some .free)->∃ c,X.env.cells.lookup x=some c
 cab:∀ x c,X.fn x=true->X.env.cells.lookup x=some c->X.s₀.heap.objs.size<=c
 hd:X.calm=true->X.A.handled=none
 frames:X.A.frames=some X.stack
 stk:X.stack=X.outer\/(X.stack=X.env :: X.outer/\X.env.frame=some X.env.locals)
 exf:∀ b∈X.ex,b≠X.env.locals/\∀ x c,X.env.cells.lookup x=some c->c≠b
 bs:∀ b o,X.base.get? b=some o->X.s₀.heap.get? b=some o/\X.H₀ b=none
 bsz:X.base.objs.size<=X.s₀.heap.objs.size
 noex:∀ b o,X.base.get? b=some o->b∉X.ex
 exfs:∀ b∈X.ex,b∉X.fs
 ju:X.s₀.heap.FunFrames X.base X.outer
 frf:∀ b∈X.fs,X.H₀ b=none
structure Inv (X:Cx) (pins:List (M9×Obj)) (σ:List (Option V)) (H:Hp) (s:M0):Prop where
 ok:X.Ok
 os:s.os=X.s₀.os
 bare:Sk s.gens
 base:Un X.fs X.ex X.H₀ H X.s₀.heap s.heap
 loc:∃ m,s.heap.Ns X.env.locals m/\∀ (i:Nat) (x:Str) (v:V),X.N[i]?=some x->σ[i]?=some (some v)->Vis X.env.scope x->∃ u,RelV v u/\Look X.env s.heap m x u
 cell:∀ x c,X.env.cells.lookup x=some c->∃ v,s.heap.IsCell c v
 free:H X.env.locals=none
 freeC:∀ x c,X.env.cells.lookup x=some c->H c=none
 pin:∀ p∈X.pn++pins,s.heap.get? p.1=some p.2/\H p.1=none/\p.1≠X.env.locals/\p.1∉X.fs/\∀ v,p.2.data≠.cell v
 hok:HOk X.prog X.w H s.heap
 len:σ.length=X.N.length
section
variable {X:Cx}{pins:List (M9×Obj)}{σ:List (Option V)}{H H':Hp}{s:M0}{h':Heap}
theorem Cx.Ok.Ko (ok:X.Ok) {b:M9}{o:Obj} (e:X.base.get? b=some o):b∉X.fs:=fun hb=>by
 have:=(ok.ju.mem hb).1
 rw[e] at this;cases this
theorem Inv.bs (I:Inv X pins σ H s):∀ b o,X.base.get? b=some o->s.heap.get? b=some o/\H b=none:=fun b o e =>
 ⟨I.base.keep b o (I.ok.bs b o e).1 (I.ok.bs b o e).2 (I.ok.Ko e) (I.ok.noex b o e),I.base.free b o (I.ok.bs b o e).1 (I.ok.bs b o e).2 (I.ok.noex b o e)⟩
theorem Inv.bk (I:Inv X pins σ H s):∀ b o,X.base.get? b=some o->s.heap.get? b=some o:=fun b o e=>(I.bs b o e).1
theorem Inv.mod (I:Inv X pins σ H s):Mod X.K X.mg X.base:=I.ok.mod
theorem Inv.kIn (I:Inv X pins σ H s):X.K.In s.heap:=I.ok.mod.kin.keeps I.bk
theorem Inv.lt (I:Inv X pins σ H s):X.env.locals < s.heap.objs.size:=let ⟨_,hn,_⟩:=I.loc;hn.lt
theorem Inv.sz (I:Inv X pins σ H s):X.s₀.heap.objs.size<=s.heap.objs.size:=Nx I.ok.above (PR I.lt)
theorem Inv.Kp (I:Inv X pins σ H s) {a:M9} (h:s.heap.objs.size<=a):a∉X.fs:=fun hb=>by
 obtain ⟨_,o,ho,_⟩:=I.ok.ju.mem hb
 exact absurd (Nu (Na ho) (Nx I.sz h)) (OA _)
theorem Inv.cne (I:Inv X pins σ H s):∀ x c,X.env.cells.lookup x=some c->c≠X.env.locals:=fun x c e z=>by
 obtain ⟨v,o,ho,hd⟩:=I.cell x c e
 obtain ⟨m,⟨o',es,ep,ho',hd',_⟩,_⟩:=I.loc
 rw[z,ho'] at ho;cases ho;rw[hd'] at hd;cases hd
theorem Inv.ju (I:Inv X pins σ H s):s.heap.FunFrames X.base X.outer:=by
 have all:∀ (l:List Env),(∀ b∈frs l,b∈X.fs)->X.s₀.heap.FunFrames X.base l->s.heap.FunFrames X.base l:=by
  intro l
  induction l with
  | nil=>intro _ _;trivial
  | cons env r ih =>
   intro hs hl
   obtain ⟨hk,⟨L,o,hf,hn,ho,hd⟩,hr⟩:=hl
   have hL:L∈X.fs:=hs L (by unfold frs;rw[N8,hf];exact M5)
   obtain ⟨sl,e⟩:=I.base.slot L o ho (I.ok.frf L hL) hL fun z=>I.ok.exfs L z hL
   exact ⟨hk,⟨L,_,hf,hn,e,hd⟩,ih (fun b hb=>hs b (by unfold frs;rw[N8,hf];exact M1 _ hb)) hr⟩
 exact all X.outer (fun _ hb=>hb) I.ok.ju
theorem Inv.stack (I:Inv X pins σ H s):s.heap.FunFrames X.base X.stack:=by
 rcases I.ok.stk with e | ⟨e,hf⟩
 ·rw[e];exact I.ju
 ·rw[e]
  obtain ⟨m,hn,_⟩:=I.loc
  refine .cons (by rw[I.ok.kind];decide) hf hn ?_ I.ju
  exact Heap.get?_none_of_le (Nx I.ok.bsz I.ok.above)
theorem Inv.oO (I:Inv X pins σ H s):∀ b∈frs X.stack,b∈X.env.locals :: X.fs:=fun b hb=>by
 rcases I.ok.stk with e | ⟨e,hf⟩
 ·rw[e] at hb;exact M1 _ hb
 ·rw[e] at hb
  unfold frs at hb
  rw[N8,hf] at hb
  exact hb
theorem Inv.tS (I:Inv X pins σ H s):∀ b∈frs X.stack,H b=none:=fun b hb=>by
 rcases List.mem_cons.mp (I.oO b hb) with e | hb
 ·rw[e];exact I.free
 ·obtain ⟨_,o,ho,_⟩:=I.ok.ju.mem hb
  exact I.base.free b o ho (I.ok.frf b hb) fun z=>I.ok.exfs b z hb
theorem Inv.step {g':Array GenState}{t':Nat}{d':Drawn}{ch:List M9} (I:Inv X pins σ H s)
 (hch:∀ b∈ch,(b∈X.ex\/X.s₀.heap.objs.size<=b)/\b≠X.env.locals/\(∀ x c,X.env.cells.lookup x=some c->c≠b)/\∀ p∈X.pn++pins,p.1≠b)
 (keep:∀ b o,b≠X.env.locals->b∉X.fs->b∉ch->s.heap.get? b=some o->H b=none->h'.get? b=some o)
 (slot:∀ b o,b≠X.env.locals->b∈X.fs->b∉ch->s.heap.get? b=some o->H b=none->∃ sl,h'.get? b=some { o with slots:=sl }) (free:∀ b o,b∉ch->s.heap.get? b=some o->H b=none->H' b=none)
 (there:∀ b o,b∉ch->s.heap.get? b=some o->∃ o',h'.get? b=some o')
 (tups:∀ b xs,H b=some (.tup xs)->H' b=some (.tup xs)) (frzs:∀ b o u,H b=some (.frz o u)->H' b=some (.frz o u)) (tbls:∀ b ps,H b=some (.tbl ps)->∃ more,H' b=some (.tbl (ps++more)))
 (ns:∀ m,s.heap.Ns X.env.locals m->h'.Ns X.env.locals m) (hok:HOk X.prog X.w H' h') (hg:Sk g') :
 Inv X pins σ H' { s with heap:=h',gens:=g',drawn:=d',toks:=t' }:=by
 have neL:∀ b o,X.s₀.heap.get? b=some o->b≠X.env.locals:=fun b o e=>Nt (Nu (Na e) I.ok.above)
 have neC:∀ b o,X.s₀.heap.get? b=some o->b∉X.ex->b∉ch:=fun b o e hx hb=>by
  rcases (hch b hb).1 with z | z
  ·exact hx z
  ·exact absurd (Nu (Na e) z) (OA _)
 have cellK:∀ x c,X.env.cells.lookup x=some c->∀ v,s.heap.IsCell c v->h'.IsCell c v:=fun x c e v ⟨o,ho,hd⟩=>by
  have nch:c∉ch:=fun z=>(hch c z).2.2.1 x c e rfl
  by_cases hc:c∈X.fs
  ·obtain ⟨sl,q⟩:=slot c o (I.cne x c e) hc nch ho (I.freeC x c e)
   exact ⟨_,q,hd⟩
  ·exact ⟨o,keep c o (I.cne x c e) hc nch ho (I.freeC x c e),hd⟩
 refine ⟨I.ok,I.os,hg,⟨fun b o e n hb hx=>?_,fun b o e n hb hx=>?_,fun b o e n hx=>?_,fun b o e hx=>?_,fun b xs e=>tups b xs (I.base.tups b xs e),fun b o xs e=>frzs b o xs (I.base.frzs b o xs e),fun b ps e=>?_⟩,?_,fun x c e=>?_,?_,fun x c e=>?_,fun p hp=>?_,hok,I.len⟩
 ·exact keep b o (neL b o e) hb (neC b o e hx) (I.base.keep b o e n hb hx) (I.base.free b o e n hx)
 ·obtain ⟨sl,e1⟩:=I.base.slot b o e n hb hx
  obtain ⟨sl',e2⟩:=slot b _ (neL b o e) hb (neC b o e hx) e1 (I.base.free b o e n hx)
  exact ⟨sl',e2⟩
 ·obtain ⟨o',e1⟩:=I.base.there b o e hx
  exact free b o' (neC b o e hx) e1 (I.base.free b o e n hx)
 ·obtain ⟨o',e1⟩:=I.base.there b o e hx
  exact there b o' (neC b o e hx) e1
 ·obtain ⟨m1,e1⟩:=I.base.tbls b ps e
  obtain ⟨m2,e2⟩:=tbls b _ e1
  exact ⟨m1++m2,by rw[e2,Array.append_assoc]⟩
 ·obtain ⟨m,hn,hl⟩:=I.loc
  refine ⟨m,ns m hn,fun i x v e1 e2 e3=>?_⟩
  obtain ⟨u,r,l⟩:=hl i x v e1 e2 e3
  refine ⟨u,r,?_⟩
  rcases l with l | ⟨k,c,e,z⟩
  ·exact .inl l
  ·exact .inr ⟨k,c,e,cellK x c e _ z⟩
 ·obtain ⟨v,z⟩:=I.cell x c e
  exact ⟨v,cellK x c e v z⟩
 ·obtain ⟨m,⟨o,_,_,ho,_⟩,_⟩:=I.loc
  exact free _ o (fun z=>(hch _ z).2.1 rfl) ho I.free
 ·obtain ⟨v,o,ho,hd⟩:=I.cell x c e
  exact free c o (fun z=>(hch c z).2.2.1 x c e rfl) ho (I.freeC x c e)
 ·obtain ⟨e,n,ne,nf,d⟩:=I.pin p hp
  have nch:p.1∉ch:=fun z=>(hch p.1 z).2.2.2 p hp rfl
  exact ⟨keep p.1 p.2 ne nf nch e n,free p.1 p.2 nch e n,ne,nf,d⟩
theorem Inv.un {t':Nat} (I:Inv X pins σ H s) (u:Un X.fs [] H H' s.heap h') (hok:HOk X.prog X.w H' h'):Inv X pins σ H' { s with heap:=h',toks:=t' }:=by
 obtain ⟨m,⟨o,es,ep,ho,r⟩,_⟩:=id I.loc
 obtain ⟨sl,hL⟩:=u.any ho I.free (by simp)
 exact I.step (g':=s.gens) (d':=s.drawn) (ch:=[]) (fun _ z=>nomatch z) (fun b o _ hb _ e n=>u.keep b o e n hb (by simp)) (fun b o _ hb _ e n=>u.slot b o e n hb (by simp)) (fun b o _ e n=>u.free b o e n (by simp)) (fun b o _ e=>u.there b o e (by simp)) u.tups u.frzs u.tbls (fun m' hm=>by
  obtain ⟨o',es',ep',ho',r'⟩:=hm
  rw[ho] at ho';cases ho'
  exact ⟨_,es',ep',hL,r'⟩) hok I.bare
theorem Inv.call {g':Array GenState}{t':Nat}{d':Drawn}{ch:List M9} (I:Inv X pins σ H s) (u:Un (frs X.stack) ch H H' s.heap h') (hok:HOk X.prog X.w H' h') (hg:Sk g')
 (hch:∀ b∈ch,(b∈X.ex\/X.s₀.heap.objs.size<=b)/\b≠X.env.locals/\(∀ x c,X.env.cells.lookup x=some c->c≠b)/\∀ p∈X.pn++pins,p.1≠b) :
 Inv X pins σ H' { s with heap:=h',gens:=g',drawn:=d',toks:=t' }:=by
 obtain ⟨m,⟨o,es,ep,ho,r⟩,_⟩:=id I.loc
 obtain ⟨sl,hL⟩:=u.any ho I.free fun z=>(hch _ z).2.1 rfl
 exact I.step (ch:=ch) hch (fun b o hL hb hc e n=>u.keep b o e n (fun z=>(List.mem_cons.mp (I.oO b z)).elim hL hb) hc) (fun b o _ _ hc e n=>u.any e n hc) (fun b o hc e n=>u.free b o e n hc) (fun b o hc e=>u.there b o e hc) u.tups u.frzs u.tbls (fun m' hm=>by
  obtain ⟨o',es',ep',ho',r'⟩:=hm
  rw[ho] at ho';cases ho'
  exact ⟨_,es',ep',hL,r'⟩) hok hg
theorem Inv.turned {t':Nat}{it:M9} (I:Inv X pins σ H s) (k:∀ b o,b≠it->s.heap.get? b=some o->h'.get? b=some o) (hn:H it=none) (hL:it≠X.env.locals)
 (h1:it∈X.ex\/X.s₀.heap.objs.size<=it) (h2:∀ x c,X.env.cells.lookup x=some c->c≠it) (h3:∀ p∈X.pn++pins,p.1≠it):Inv X pins σ H { s with heap:=h',toks:=t' }:=by
 have nit:∀ b u,H b=some u->b≠it:=fun b u e z=>by rw[z,hn] at e;cases e
 refine I.step (g':=s.gens) (d':=s.drawn) (ch:=[it]) (fun b hb=>?_) (fun b o _ _ hc e _=>k b o (fun z=>hc (by simp[z])) e) (fun b o _ _ hc e _=>⟨o.slots,k b o (fun z=>hc (by simp[z])) e⟩) (fun _ _ _ _ n=>n)
  (fun b o hc e=>⟨o,k b o (fun z=>hc (by simp[z])) e⟩) (fun _ _ e=>e) (fun _ _ _ e=>e) (fun b ps e=>⟨#[],by rw[e];simp⟩) (fun m hm=>?_) (fun b u e=>?_) I.bare
 ·have e:b=it:=by simpa using hb
  subst e
  exact ⟨h1,hL,h2,h3⟩
 ·obtain ⟨o,es,ep,ho,r⟩:=hm
  exact ⟨o,es,ep,k _ o (Qe hL) ho,r⟩
 ·refine (I.hok b u e).stay (fun c v hc q=>k c v ?_ q) (fun _ q=>q) fun _ _ q=>q
  rcases hc with z | z
  ·rw[z];exact nit b u e
  ·exact nit c _ z
theorem Inv.tok (I:Inv X pins σ H s) (t:Nat):Inv X pins σ H { s with toks:=t }:=I.un (h':=s.heap) (t':=t) Un.refl I.hok
theorem Inv.kept {t':Nat} (I:Inv X pins σ H s) (k:∀ b u,s.heap.get? b=some u->h'.get? b=some u):Inv X pins σ H { s with heap:=h',toks:=t' }:=I.un (Un.kept k) (I.hok.kept k)
theorem Inv.laid {a:M9}{o:HO}{t':Nat} (I:Inv X pins σ H s) (k:∀ b u,s.heap.get? b=some u->h'.get? b=some u) (hp:s.heap.objs.size<=a) (new:fy X.prog X.w (upd H a o) h' a o) :
 Inv X pins σ (upd H a o) { s with heap:=h',toks:=t' }:=I.un (Un.laid k hp (I.hok.fresh hp)) (I.hok.laid k hp new)
theorem Inv.write {x e:M9}{o:HO}{t':Nat} (I:Inv X pins σ H s) (mu:Mut (H x)) (he:e=x\/H e=some (.own x)) (k:∀ b u,b≠e->s.heap.get? b=some u->h'.get? b=some u) (heo:∃ u,h'.get? e=some u)
 (new:fy X.prog X.w (upd H x o) h' x o):Inv X pins σ (upd H x o) { s with heap:=h',toks:=t' }:=I.un (Un.write mu he k heo) (I.hok.write mu he k heo new)
theorem Inv.kX {pins':List (M9×Obj)} (I:Inv X pins σ H s) (h:∀ p∈pins',s.heap.get? p.1=some p.2/\H p.1=none/\p.1≠X.env.locals/\p.1∉X.fs/\∀ v,p.2.data≠.cell v):Inv X pins' σ H s :=
 ⟨I.ok,I.os,I.bare,I.base,I.loc,I.cell,I.free,I.freeC,fun p hp=>(List.mem_append.mp hp).elim (fun z=>I.pin p (Pq _ z)) (h p),I.hok,I.len⟩
theorem qx {N:List Str} (hN:N.Nodup) {i j:Nat}{x:Str} (a:N[i]?=some x) (b:N[j]?=some x):i=j:=by
 obtain ⟨h1,e1⟩:=List.getElem?_eq_some_iff.mp a
 obtain ⟨h2,e2⟩:=List.getElem?_eq_some_iff.mp b
 exact (List.getElem_inj hN).mp (e1.trans e2.symm)
theorem nR {M:Model}{A:NT}{E:MZ->M0->Prop}{i:Nat}{x:Str}{v:V}{u:MZ}{Q:Unit->M0->Prop} (I:Inv X pins σ H s) (hN:X.N.Nodup) (hi:X.N[i]?=some x) (hx:Loc X.env.scope x) (r:RelV v u)
 (h:∀ s',Inv X pins (σ.set i (some v)) H s'->(∃ a,NL a s.heap s'.heap/\(a=X.env.locals\/X.env.cells.lookup x=some a))->Q () s') (hf:X.fn x=true\/X.env.scope.names.lookup x=some .local:=by first | exact .inl rfl | exact .inr rfl | assumption):wpAny M A (storeName X.env x u) Q E s:=by
 obtain ⟨m,hn,hl⟩:=id I.loc
 have hcls:(X.env.scope.kind==.class||(X.env.scope.kind==.module&&X.env.locals != X.env.globals))=false:=by rw[I.ok.kind];rfl
 have hiσ:i < σ.length:=by rw[I.len];exact (List.getElem?_eq_some_iff.mp hi).1
 have cne:=I.cne
 have tracked:∀ {a:M9}{h':Heap},(∃ o,s.heap.get? a=some o/\H a=none)->NL a s.heap h'->HOk X.prog X.w H h':=fun {a h'} ha hs b ob e=>by
  obtain ⟨_,_,hfree⟩:=ha
  refine (I.hok b ob e).stay (fun c w' hc q=>(hs.2 c ?_).trans q) (fun _ q=>q) fun _ _ q=>q
  rintro rfl
  rcases hc with rfl | hc
  ·rw[hfree] at e;cases e
  ·rw[hfree] at hc;cases hc
 rcases hx with hk | hk
 ·refine wpAny_storeName_local hk hn (fun h' hn' hs=>?_) hcls
  obtain ⟨oL,_,_,hoL,_⟩:=id hn
  refine h _ ⟨I.ok,I.os,I.bare,⟨fun b o e n hb hx=>?_,fun b o e n hb hx=>?_,I.base.free,fun b o e hx=>?_,I.base.tups,I.base.frzs,I.base.tbls⟩,⟨_,hn',fun j y v' e1 e2 e3=>?_⟩,fun y c e=>?_,I.free,I.freeC,fun p hp=>?_,tracked ⟨oL,hoL,I.free⟩ hs,by simpa using I.len⟩ ⟨_,hs,.inl rfl⟩
  ·exact (hs.2 b (Nt (Nu (Na e) I.ok.above))).trans (I.base.keep b o e n hb hx)
  ·obtain ⟨sl,e1⟩:=I.base.slot b o e n hb hx
   exact ⟨sl,(hs.2 b (Nt (Nu (Na e) I.ok.above))).trans e1⟩
  ·obtain ⟨o',e1⟩:=I.base.there b o e hx
   exact ⟨o',(hs.2 b (Nt (Nu (Na e) I.ok.above))).trans e1⟩
  ·by_cases hj:j=i
   ·subst hj
    rw[hi] at e1;cases e1
    rw[Ol hiσ] at e2
    cases e2
    exact ⟨u,r,.inl ⟨hk,by simp⟩⟩
   ·rw[OQ (Qe hj)] at e2
    obtain ⟨u',r',q⟩:=hl j y v' e1 e2 e3
    refine ⟨u',r',?_⟩
    rcases q with ⟨k,e⟩ | ⟨k,c,e,z⟩
    ·refine .inl ⟨k,?_⟩
     have:y≠x:=fun e=>hj (qx hN e1 (e ▸ hi))
     simp[this,e]
    ·exact .inr ⟨k,c,e,z.sameBut hs (cne y c e)⟩
  ·obtain ⟨w',z⟩:=I.cell y c e
   exact ⟨w',z.sameBut hs (cne y c e)⟩
  ·obtain ⟨e,n,ne,nf,d⟩:=I.pin p hp
   exact ⟨(hs.2 p.1 ne).trans e,n,ne,nf,d⟩
 ·have hfn:X.fn x=true:=by
   rcases hf with z | z
   ·exact z
   ·rw[z] at hk;cases hk
  obtain ⟨c,hc⟩:=I.ok.has x (.inl hk)
  obtain ⟨w',z⟩:=I.cell x c hc
  refine wpAny_storeName_cell I.ok.kind hk hc z (fun h' hc' hs=>?_)
  obtain ⟨oc,hoc,hocd⟩:=id z
  refine h { s with heap:=h' } ⟨I.ok,I.os,I.bare,⟨fun b o e n hb hx=>?_,fun b o e n hb hx=>?_,I.base.free,fun b o e hx=>?_,I.base.tups,I.base.frzs,I.base.tbls⟩,⟨m,hn.sameBut hs (Qe (cne x c hc)),fun j y v' e1 e2 e3=>?_⟩,fun y c' e=>?_,I.free,I.freeC,fun p hp=>?_,tracked ⟨oc,hoc,I.freeC x c hc⟩ hs,by simpa using I.len⟩ ⟨c,hs,.inr hc⟩
  ·exact (hs.2 b (Nt (Nu (Na e) (I.ok.cab x c hfn hc)))).trans (I.base.keep b o e n hb hx)
  ·obtain ⟨sl,e1⟩:=I.base.slot b o e n hb hx
   exact ⟨sl,(hs.2 b (Nt (Nu (Na e) (I.ok.cab x c hfn hc)))).trans e1⟩
  ·obtain ⟨o',e1⟩:=I.base.there b o e hx
   exact ⟨o',(hs.2 b (Nt (Nu (Na e) (I.ok.cab x c hfn hc)))).trans e1⟩
  ·by_cases hj:j=i
   ·subst hj
    rw[hi] at e1;cases e1
    rw[Ol hiσ] at e2
    cases e2
    exact ⟨u,r,.inr ⟨.inl hk,c,hc,hc'⟩⟩
   ·rw[OQ (Qe hj)] at e2
    obtain ⟨u',r',q⟩:=hl j y v' e1 e2 e3
    refine ⟨u',r',?_⟩
    rcases q with q | ⟨k,c',e,z'⟩
    ·exact .inl q
    ·refine .inr ⟨k,c',e,z'.sameBut hs ?_⟩
     rintro rfl
     exact hj (qx hN e1 (I.ok.inj _ _ _ e hc ▸ hi))
  ·by_cases hcc:c'=c
   ·subst hcc;exact ⟨_,hc'⟩
   ·obtain ⟨w2,z2⟩:=I.cell y c' e
    exact ⟨w2,z2.sameBut hs hcc⟩
  ·obtain ⟨e,n,ne,nf,d⟩:=I.pin p hp
   refine ⟨(hs.2 p.1 ?_).trans e,n,ne,nf,d⟩
   intro q
   rw[q,hoc] at e
   have q':oc=p.2:=Nc e
   exact d w' (by rw[← q'];exact hocd)
theorem lJ {M:Model}{A:NT}{E:MZ->M0->Prop}{i:Nat}{x:Str}{v:V}{u:MZ}{Q:Unit->M0->Prop} (I:Inv X pins σ H s) (hN:X.N.Nodup) (hi:X.N[i]?=some x) (hx:Loc X.env.scope x) (r:RelV v u)
 (h:∀ s',Inv X pins (σ.set i (some v)) H s'->Q () s') (hf:X.fn x=true\/X.env.scope.names.lookup x=some .local:=by first | exact .inl rfl | exact .inr rfl | assumption):wpAny M A (storeName X.env x u) Q E s :=
 nR I hN hi hx r (fun s' I' _=>h s' I') hf
end
noncomputable abbrev XK:=MZ->Option M9->Hp->Prop
noncomputable abbrev St:=List (Option V)
noncomputable abbrev VK:=V->Hp->Prop
noncomputable abbrev TE:=St->Hp->VK->Prop
noncomputable abbrev TT:=St->Hp->(Bool->Hp->Prop)->Prop
noncomputable abbrev TA:=St->Hp->(List V->Hp->Prop)->Prop
structure Ends where
 nx:St->Hp->Prop
 rt:VK
 bk:St->Hp->Prop:=fun _ _=>False
 ct:St->Hp->Prop:=fun _ _=>False
noncomputable abbrev TS:=Ends->St->Hp->Prop
inductive EP (X:Cx) (pins:List (M9×Obj)) (σ:St) (Q:VK) (u:MZ) (s':M0):Prop where
 | mk (v:V) (H':Hp) (I:Inv X pins σ H' s') (r:RelV v u) (q:Q v H'):EP X pins σ Q u s'
inductive TP (X:Cx) (pins:List (M9×Obj)) (σ:St) (Q:Bool->Hp->Prop) (b:Bool) (s':M0):Prop where
 | mk (H':Hp) (I:Inv X pins σ H' s') (q:Q b H'):TP X pins σ Q b s'
inductive AP (X:Cx) (pins:List (M9×Obj)) (σ:St) (Q:List V->Hp->Prop) (us:List MZ) (s':M0):Prop where
 | mk (vs:List V) (H':Hp) (I:Inv X pins σ H' s') (r:cX vs us) (q:Q vs H'):AP X pins σ Q us s'
noncomputable def SP (X:Cx) (pins:List (M9×Obj)) (D:Ends) (f:Flow) (s':M0):Prop :=
 match f with
 | .next=>∃ σ' H',Inv X pins σ' H' s'/\D.nx σ' H'
 | .brk=>∃ σ' H',Inv X pins σ' H' s'/\D.bk σ' H'
 | .cont=>∃ σ' H',Inv X pins σ' H' s'/\D.ct σ' H'
 | .ret u=>∃ v σ' H',Inv X pins σ' H' s'/\RelV v u/\D.rt v H'
noncomputable def PE (X:Cx) (e:Pr) (t:TE):Prop :=
 ∀ (pins:List (M9×Obj)) (s:M0) (σ:St) (H:Hp) (Q:VK),Inv X pins σ H s->t σ H Q->wpAny (Nv X.prog X.w) X.A (eval e X.env) (EP X pins σ Q) X.xe s
noncomputable def PT (X:Cx) (e:Pr) (t:TT):Prop :=
 ∀ (pins:List (M9×Obj)) (s:M0) (σ:St) (H:Hp) (Q:Bool->Hp->Prop),Inv X pins σ H s->t σ H Q->wpAny (Nv X.prog X.w) X.A (isTrue e X.env (eval e X.env)) (TP X pins σ Q) X.xe s
noncomputable def PW (X:Cx) (e:Pr) (t:TT):Prop :=
 ∀ (whole:Sem MZ) (pins:List (M9×Obj)) (s:M0) (σ:St) (H:Hp) (Q:Bool->Hp->Prop),Inv X pins σ H s->t σ H Q->wpAny (Nv X.prog X.w) X.A (isTrue e X.env whole) (TP X pins σ Q) X.xe s
theorem PW.pt {X:Cx}{e:Pr}{t:TT} (h:PW X e t):PT X e t:=h _
noncomputable def PA (X:Cx) (es:List Pr) (t:TA):Prop :=
 ∀ (pos:Pos) (pins:List (M9×Obj)) (s:M0) (σ:St) (H:Hp) (Q:List V->Hp->Prop),Inv X pins σ H s->t σ H Q->wpAny (Nv X.prog X.w) X.A (spliced (Po pos (NG es X.env))) (AP X pins σ Q) X.xe s
noncomputable def PS (X:Cx) (st:Rc) (t:TS):Prop :=
 ∀ (pins:List (M9×Obj)) (s:M0) (σ:St) (H:Hp) (D:Ends),Inv X pins σ H s->t D σ H->wpAny (Nv X.prog X.w) X.A (exec st X.env) (SP X pins D) X.xe s
noncomputable def PSs (X:Cx) (st:List Rc) (t:TS):Prop :=
 ∀ (pins:List (M9×Obj)) (s:M0) (σ:St) (H:Hp) (D:Ends),Inv X pins σ H s->t D σ H->wpAny (Nv X.prog X.w) X.A (execs st X.env) (SP X pins D) X.xe s
theorem thn {α:Type}{t:Sem α}{Q Q':α->M0->Prop}{M:Model}{A:NT}{E:MZ->M0->Prop}{s:M0} (h:wpAny M A t Q E s) (hQ:∀ a s,Q a s->Q' a s):wpAny M A t Q' E s:=OT h hQ fun _ _ x=>x
end L2
namespace L2
open PySem PySem.Spec PyProof.Rows
section
variable {X:Cx}
theorem bin {a b:Pr}{ta tb:TE} (ha:PE X a ta) (hb:PE X b tb) {pins:List (M9×Obj)}{s:M0}{σ:St}{H:Hp}{R:V->V->Hp->Prop} (I:Inv X pins σ H s) (h:ta σ H fun x H1=>tb σ H1 fun y H2=>R x y H2)
 {α:Type}{Q:α->M0->Prop}{f:MZ->MZ->Sem α}
 (hf:∀ v u s2 x y H2,Inv X pins σ H2 s2->RelV x v->RelV y u->R x y H2->wpAny (Nv X.prog X.w) X.A (f v u) Q X.xe s2) :
 wpAny (Nv X.prog X.w) X.A (eval a X.env) (fun v s₁=>wpAny (Nv X.prog X.w) X.A (eval b X.env) (fun u s₂=>wpAny (Nv X.prog X.w) X.A (f v u) Q X.xe s₂) X.xe s₁) X.xe s:=by
 refine thn (ha pins s σ H _ I h) fun v s1 zq=>?_
 obtain ⟨x,H1,I1,r1,q1⟩:=zq
 refine thn (hb pins s1 σ H1 _ I1 q1) fun u s2 zq=>?_
 obtain ⟨y,H2,I2,r2,q2⟩:=zq
 exact hf v u s2 x y H2 I2 r1 r2 q2
noncomputable def Kq (i:Nat):TE:=fun σ H Q=>∃ v,σ[i]?=some (some v)/\Q v H
noncomputable def tC (v:V):TE:=fun _ H Q=>Q v H
theorem Dz {i:Nat}{x:Str}{pos:Pos} (hN:X.N[i]?=some x) (hv:Vis X.env.scope x) (hd:(x==("__debug__":Str))=false:=by decide) (hcd:(x==("__classdict__":Str))=false:=by decide):PE X (.Name x pos) (Kq i):=by
 intro pins s σ H Q I h
 obtain ⟨v,e,h⟩:=h
 obtain ⟨m,hn,hl⟩:=I.loc
 obtain ⟨u,r,l⟩:=hl i x v hN e hv
 have fin:EP X pins σ Q u s:=⟨v,H,I,r,h⟩
 rcases l with ⟨hk,hm⟩ | ⟨hk,c,hc,hcell⟩
 ·exact wpAny_Name (wpAny_loadName_local I.ok.kind hk hn hm fin) hd
 ·rcases hk with hk | hk
  ·exact wpAny_Name (wpAny_loadName_cell I.ok.kind hk hc hcell fin) hd
  ·exact wpAny_Name (wpAny_loadName_free I.ok.kind hk hc hcell fin hcd) hd
theorem oQ {i j pos}:PE X (.Constant (.int i) j pos) (tC (.int i)):=fun _ _ _ H _ I h=>wpAny_Constant_int ⟨.int i,H,I.tok _,⟨_,rfl⟩,h⟩
theorem GI {b j pos}:PE X (.Constant (.bool b) j pos) (tC (.bl b)):=fun _ _ _ H _ I h=>Constant_bool ⟨.bl b,H,I,rfl,h⟩
theorem DA {j pos}:PE X (.Constant .none j pos) (tC .non):=fun _ _ _ H _ I h=>Constant_none ⟨.non,H,I,rfl,h⟩
theorem DB {x j pos}:PE X (.Constant (.str x) j pos) (tC (.str x)):=fun _ _ _ H _ I h=>Calls.Constant_str ⟨.str x,H,I.tok _,⟨_,rfl⟩,h⟩
noncomputable def Gl (X:Cx) (x:Str):Prop:=X.env.kindOf x=some .globalImplicit
theorem jv {E:MZ->M0->Prop}{pins:List (M9×Obj)}{s:M0}{σ:St}{H:Hp}{x:Str}{u:MZ}{pos:Pos}{Q:MZ->M0->Prop} (I:Inv X pins σ H s) (hg:Gl X x) (hm:X.mg x=some u) (h:Q u s)
 (hd:(x==("__debug__":Str))=false:=by decide):wpAny (Nv X.prog X.w) X.A (eval (.Name x pos) X.env) Q E s :=
 Rl I.ok.kind hg (Calls.loadGlobal_global (by rw[I.ok.glob];exact I.mod.glob.keeps I.bk) hm h) hd
theorem jc {E:MZ->M0->Prop}{pins:List (M9×Obj)}{s:M0}{σ:St}{H:Hp}{x:Str}{u:MZ}{pos:Pos}{Q:MZ->M0->Prop} (I:Inv X pins σ H s) (hg:Gl X x) (hm:X.mg x=none) (hv:P7 x=some u) (h:Q u s)
 (hn:x≠"__name__":=by decide) (hd:(x==("__debug__":Str))=false:=by decide):wpAny (Nv X.prog X.w) X.A (eval (.Name x pos) X.env) Q E s:=by
 obtain ⟨mb,h1,h2⟩:=I.mod.blt
 exact Rl I.ok.kind hg (Calls.loadGlobal_builtin (by rw[I.ok.glob];exact I.mod.glob.keeps I.bk) hm (by rw[I.ok.blt];exact h1.keeps I.bk) ((h2 x hn).trans hv) h) hd
theorem tT {x:Str}{v:V}{u:MZ}{pos:Pos} (hg:Gl X x) (hm:X.mg x=some u) (r:RelV v u) (hd:(x==("__debug__":Str))=false:=by decide):PE X (.Name x pos) (tC v) :=
 fun _ _ _ H _ I h=>jv I hg hm ⟨v,H,I,r,h⟩ hd
theorem jw {x:Str}{v:V}{u:MZ}{pos:Pos} (hg:Gl X x) (hm:X.mg x=none) (hv:P7 x=some u) (r:RelV v u) (hn:x≠"__name__":=by decide) (hd:(x==("__debug__":Str))=false:=by decide):PE X (.Name x pos) (tC v) :=
 fun _ _ _ H _ I h=>jc I hg hm hv ⟨v,H,I,r,h⟩ hn hd
variable {a b:Pr}{ta tb:TE}{pos:Pos}
noncomputable def tB (t:TE):TT:=fun σ H Q=>t σ H fun x H1=>∃ c,x=.bl c/\Q c H1
theorem DC {e:Pr}{t:TE} (h:PE X e t) (he:∀ whole,isTrue e X.env whole=(do let v ← whole;RZ e.pos;Ql [v] (truthy v)):=by intro _;rfl):PT X e (tB t):=by
 intro pins s σ H Q I hw
 refine isTrue_plain (thn (h pins s σ H _ I hw) fun v s1 ⟨x,H1,I1,r1,q1⟩=>?_) (he _)
 obtain ⟨d,rfl,q⟩:=q1
 cases r1
 exact Oa ⟨H1,I1,q⟩
variable {tA tB':TT}{rest:List Pr}
noncomputable def GJ (t u:TT):TT:=fun σ H Q=>t σ H fun c H1=>if c=true then u σ H1 Q else Q false H1
noncomputable def tOr (t u:TT):TT:=fun σ H Q=>t σ H fun c H1=>if c=true then Q true H1 else u σ H1 Q
noncomputable def GK (t:TT):TT:=fun σ H Q=>t σ H fun c H1=>Q (!c) H1
theorem Ao (ha:PT X a tA):PW X (.BoolOp .And [a] pos) tA:=by
 intro wh pins s σ H Q I h
 refine isTrue_and (thn (ha pins s σ H Q I h) fun c s1 e=>?_)
 cases c with
 | true=>exact isTrue_and_nil e
 | false=>exact e
theorem DE (ha:PT X a tA):PW X (.BoolOp .Or [a] pos) tA:=by
 intro wh pins s σ H Q I h
 refine isTrue_or (thn (ha pins s σ H Q I h) fun c s1 e=>?_)
 cases c with
 | false=>exact isTrue_or_nil e
 | true=>exact e
theorem wV (ha:PT X a tA) (hb:PW X (.BoolOp .And (b :: rest) pos) tB'):PW X (.BoolOp .And (a :: b :: rest) pos) (GJ tA tB'):=by
 intro wh pins s σ H Q I h
 refine isTrue_and (thn (ha pins s σ H _ I h) fun c s1 zq=>?_)
 obtain ⟨H1,I1,q1⟩:=zq
 cases c with
 | true=>exact hb wh pins s1 σ H1 Q I1 q1
 | false=>exact ⟨H1,I1,q1⟩
theorem CP (ha:PT X a tA) (hb:PW X (.BoolOp .Or (b :: rest) pos) tB'):PW X (.BoolOp .Or (a :: b :: rest) pos) (tOr tA tB'):=by
 intro wh pins s σ H Q I h
 refine isTrue_or (thn (ha pins s σ H _ I h) fun c s1 zq=>?_)
 obtain ⟨H1,I1,q1⟩:=zq
 cases c with
 | true=>exact ⟨H1,I1,q1⟩
 | false=>exact hb wh pins s1 σ H1 Q I1 q1
theorem DF (ha:PT X a tA):PT X (.UnaryOp .Not a pos) (GK tA):=by
 intro pins s σ H Q I h
 exact isTrue_not (thn (ha pins s σ H (fun c H1=>Q (!c) H1) I h) fun c s' z=>by obtain ⟨H1,I1,q⟩:=z;exact ⟨H1,I1,q⟩)
noncomputable def CU (ta tb:TE):TE:=fun σ H Q=>ta σ H fun x H1=>∃ c,x=.bl c/\if c=true then tb σ H1 Q else Q (.bl false) H1
noncomputable def GL (ta tb:TE):TE:=fun σ H Q=>ta σ H fun x H1=>∃ c,x=.bl c/\if c=true then Q (.bl true) H1 else tb σ H1 Q
noncomputable def CV (ta:TE):TE:=fun σ H Q=>ta σ H fun x H1=>∃ c,x=.bl c/\Q (.bl (!c)) H1
theorem wW {op}{t:TE} (h:PE X a t):PE X (.BoolOp op [a] pos) t:=fun pins s σ H Q I hw=>BoolOp_one (h pins s σ H Q I hw)
theorem wX (ha:PE X a ta) (hb:PE X (.BoolOp .And (b :: rest) pos) tb):PE X (.BoolOp .And (a :: b :: rest) pos) (CU ta tb):=by
 intro pins s σ H Q I h
 refine BoolOp_and (thn (ha pins s σ H _ I h) fun v s1 zq=>?_)
 obtain ⟨x,H1,I1,r1,q1⟩:=zq
 obtain ⟨c,rfl,q1⟩:=q1
 cases r1
 refine Oa ?_
 cases c with
 | true=>exact hb pins s1 σ H1 Q I1 q1
 | false=>exact ⟨.bl false,H1,I1,rfl,q1⟩
theorem CW (ha:PE X a ta) (hb:PE X (.BoolOp .Or (b :: rest) pos) tb):PE X (.BoolOp .Or (a :: b :: rest) pos) (GL ta tb):=by
 intro pins s σ H Q I h
 refine BoolOp_or (thn (ha pins s σ H _ I h) fun v s1 zq=>?_)
 obtain ⟨x,H1,I1,r1,q1⟩:=zq
 obtain ⟨c,rfl,q1⟩:=q1
 cases r1
 refine Oa ?_
 cases c with
 | false=>exact hb pins s1 σ H1 Q I1 q1
 | true=>exact ⟨.bl true,H1,I1,rfl,q1⟩
theorem DG (ha:PE X a ta):PE X (.UnaryOp .Not a pos) (CV ta):=by
 intro pins s σ H Q I h
 refine UnaryOp_ (thn (ha pins s σ H _ I h) fun v s1 zq=>?_)
 obtain ⟨x,H1,I1,r1,q1⟩:=zq
 obtain ⟨c,rfl,q1⟩:=q1
 cases r1
 exact not_of (Oa ⟨.bl (!c),H1,I1,rfl,q1⟩)
noncomputable def tIf (t:TT) (ta tb:TE):TE:=fun σ H Q=>t σ H fun c H1=>if c=true then ta σ H1 Q else tb σ H1 Q
theorem wY {c:Pr} (hc:PT X c tA) (ha:PE X a ta) (hb:PE X b tb):PE X (.IfExp c a b pos) (tIf tA ta tb):=by
 intro pins s σ H Q I h
 refine wpAny_IfExp (thn (hc pins s σ H _ I h) fun d s1 zq=>?_)
 obtain ⟨H1,I1,q1⟩:=zq
 cases d with
 | true=>exact ha pins s1 σ H1 Q I1 q1
 | false=>exact hb pins s1 σ H1 Q I1 q1
end
end L2
namespace L2
open PySem PySem.Spec PyProof.Rows
noncomputable def SqL (K:MV) (H:Hp) (a:M9) (xs:List V):Prop :=
 Rd H a (.lst xs) ∨
  ∃ (o:Obj) (its:Array MZ) (n:Nat),K.lookup a=some o/\o.cls=.type "list"/\o.dict=none/\o.data=.seq its n/\its.size<=sizeLine/\cX xs its.toList
noncomputable def SqT (K:MV) (H:Hp) (a:M9) (xs:List V):Prop :=
 Rd H a (.tup xs) ∨
  ∃ (o:Obj) (its:Array MZ) (n:Nat),K.lookup a=some o/\o.cls=.type "tuple"/\o.data=.seq its n/\its.size<=sizeLine/\cX xs its.toList
noncomputable def Kr:MZ->Option V
 | .none=>some .non
 | .bool b=>some (.bl b)
 | .int i _=>some (.int i)
 | .str x _=>some (.str x)
 | .bytes b _=>some (.byt b)
 | .float b _=>some (.flt b)
 | .ref a=>some (.ref a)
 | .type n=>some (.ty n)
 | _=>none
theorem RelV.abs {x:V}{u:MZ} (r:RelV x u):Kr u=some x:=by
 cases x with
 | non=>cases r;rfl
 | bl _=>cases r;rfl
 | int _=>obtain ⟨t,rfl⟩:=r;rfl
 | str _=>obtain ⟨t,rfl⟩:=r;rfl
 | byt _=>obtain ⟨t,rfl⟩:=r;rfl
 | flt _=>obtain ⟨t,rfl⟩:=r;rfl
 | ref _=>cases r;rfl
 | ty _=>cases r;rfl
theorem RelV.inj {x y:V}{u:MZ} (r:RelV x u) (q:RelV y u):x=y:=Nc (r.abs.symm.trans q.abs)
theorem cX.inj:∀ {xs ys:List V}{us:List MZ},cX xs us->cX ys us->xs=ys
 | _,_,_,.nil,.nil=>rfl
 | _,_,_,.cons r t,.cons r' t'=>by rw[r.inj r',cX.inj t t']
section
variable {X:Cx}{pins:List (M9×Obj)}{σ:St}{H:Hp}{s:M0}{a:M9}{xs ys:List V}
theorem Inv.list (I:Inv X pins σ H s) (h:SqL X.K H a xs):∃ its:List MZ,cX xs its/\PlainL s.heap a its.toArray/\xs.length<=sizeLine:=by
 rcases h with h | ⟨o,its,n,hk,hc,hd,hs,hz,r⟩
 ·obtain ⟨z,its,n,r,e⟩:=h.ok I.hok
  exact ⟨its,r,⟨_,n,e,rfl,rfl,rfl⟩,z⟩
 ·refine ⟨its.toList,r,⟨o,n,I.kIn a o hk,hc,hd,by simpa using hs⟩,?_⟩
  have e:=r.length
  simp only[Pu] at e
  lia
theorem Inv.tuple (I:Inv X pins σ H s) (h:SqT X.K H a xs):∃ its:List MZ,cX xs its/\IsTup s.heap a its.toArray/\xs.length<=sizeLine:=by
 rcases h with h | ⟨o,its,n,hk,hc,hs,hz,r⟩
 ·obtain ⟨z,its,r,p⟩:=h.ok I.hok
  exact ⟨its,r,p,z⟩
 ·refine ⟨its.toList,r,⟨o,I.kIn a o hk,hc,n,by simpa using hs⟩,?_⟩
  have e:=r.length
  simp only[Pu] at e
  lia
theorem Inv.lK (I:Inv X pins σ H s) (h:SqL X.K H a xs) (h':SqL X.K H a ys):xs=ys:=by
 obtain ⟨its,r,⟨o,n,e,_,_,d⟩,_⟩:=I.list h
 obtain ⟨its',r',⟨o',n',e',_,_,d'⟩,_⟩:=I.list h'
 rw[e] at e';cases e'
 rw[d] at d'
 injection d' with d1 _
 have:its=its':=by simpa using congrArg Array.toList d1
 subst this
 exact r.inj r'
theorem Inv.nS (I:Inv X pins σ H s) (h:SqT X.K H a xs) (h':SqT X.K H a ys):xs=ys:=by
 obtain ⟨its,r,⟨o,e,_,n,d⟩,_⟩:=I.tuple h
 obtain ⟨its',r',⟨o',e',_,n',d'⟩,_⟩:=I.tuple h'
 rw[e] at e';cases e'
 rw[d] at d'
 injection d' with d1 _
 have:its=its':=by simpa using congrArg Array.toList d1
 subst this
 exact r.inj r'
end
noncomputable abbrev Cx.nu (X:Cx) (E:MZ->M0->Prop):Cx:={ X with xe:=E }
noncomputable abbrev Cx.nox (X:Cx):Cx:=X.nu fun _ _=>False
theorem Cx.Ok.nu {X:Cx} (ok:X.Ok) (E:MZ->M0->Prop):(X.nu E).Ok :=
 ⟨ok.mod,ok.kind,ok.glob,ok.blt,ok.above,ok.inj,ok.has,ok.cab,ok.hd,ok.frames,ok.stk,ok.exf,ok.bs,ok.bsz,ok.noex,ok.exfs,ok.ju,ok.frf⟩
theorem Cx.Ok.g9 {X:Cx}{E:MZ->M0->Prop} (ok:(X.nu E).Ok):X.Ok :=
 ⟨ok.mod,ok.kind,ok.glob,ok.blt,ok.above,ok.inj,ok.has,ok.cab,ok.hd,ok.frames,ok.stk,ok.exf,ok.bs,ok.bsz,ok.noex,ok.exfs,ok.ju,ok.frf⟩
section
variable {X:Cx}{pins:List (M9×Obj)}{σ:St}{H:Hp}{s:M0}{E:MZ->M0->Prop}
theorem Inv.nu (I:Inv X pins σ H s) (E:MZ->M0->Prop):Inv (X.nu E) pins σ H s:=⟨I.ok.nu E,I.os,I.bare,I.base,I.loc,I.cell,I.free,I.freeC,I.pin,I.hok,I.len⟩
theorem Inv.g9 (I:Inv (X.nu E) pins σ H s):Inv X pins σ H s:=⟨I.ok.g9,I.os,I.bare,I.base,I.loc,I.cell,I.free,I.freeC,I.pin,I.hok,I.len⟩
theorem SP.g9 {D:Ends}{f:Flow}{s':M0} (h:SP (X.nu E) pins D f s'):SP X pins D f s':=by
 cases f with
 | next=>obtain ⟨σ',H',I,q⟩:=h;exact ⟨σ',H',I.g9,q⟩
 | brk=>obtain ⟨σ',H',I,q⟩:=h;exact ⟨σ',H',I.g9,q⟩
 | cont=>obtain ⟨σ',H',I,q⟩:=h;exact ⟨σ',H',I.g9,q⟩
 | ret u=>obtain ⟨v,σ',H',I,r,q⟩:=h;exact ⟨v,σ',H',I.g9,r,q⟩
theorem PSs.nox {st:List Rc}{t:TS} (h:PSs X.nox st t):PSs X st t:=fun pins s σ H D I hw =>
 OT (h pins s σ H D (I.nu _) hw) (fun _ _ q=>q.g9) fun _ _ z=>Od z
end
section
variable {X:Cx}{st:Rc}{rest:List Rc}{t u:TS}{e:Pr}{te:TE}{pos:Pos}
noncomputable def GM:TS:=fun D σ H=>D.nx σ H
noncomputable def GN (t u:TS):TS:=fun D σ H=>t { D with nx:=u D } σ H
theorem Aq:PSs X [] GM:=fun _ _ σ H _ I h=>Qz ⟨σ,H,I,h⟩
theorem qy (h1:PS X st t) (h2:PSs X rest u):PSs X (st :: rest) (GN t u):=by
 intro pins s σ H D I h
 refine wpAny_execs_cons (thn (h1 pins s σ H { D with nx:=u D } I h) fun f s1 q=>?_)
 cases f with
 | next =>
  obtain ⟨σ',H',I',q⟩:=q
  exact h2 pins s1 σ' H' D I' q
 | ret v=>exact q
 | brk=>exact q
 | cont=>exact q
theorem tU (h1:PS X st t):PSs X [st] t:=by
 intro pins s σ H D I h
 refine wpAny_execs_cons (thn (h1 pins s σ H D I h) fun f s1 q=>?_)
 cases f with
 | next=>exact Qz q
 | ret v=>exact q
 | brk=>exact q
 | cont=>exact q
noncomputable def DH:TS:=fun D σ H=>D.bk σ H
noncomputable def GO:TS:=fun D σ H=>D.ct σ H
theorem wZ:PS X (.Break pos) DH:=fun _ _ σ H _ I h=>wpAny_Break ⟨σ,H,I,h⟩
theorem qz:PS X (.Continue pos) GO:=fun _ _ σ H _ I h=>wpAny_Continue ⟨σ,H,I,h⟩
theorem Inv.quiet {pins:List (M9×Obj)}{σ:St}{H:Hp}{s:M0} (I:Inv X pins σ H s):interactive X.env=false:=by simp[interactive,I.ok.kind]
noncomputable def GP (te:TE):TS:=fun D σ H=>te σ H fun _ H1=>D.nx σ H1
theorem Ar (he:PE X e te) (hs:PU e none pos.line X.env=pure false:=by rfl):PS X (.Expr e pos) (GP te):=by
 intro pins s σ H D I h
 exact wpAny_Expr_any (thn (he pins s σ H _ I h) fun v s1 ⟨x,H1,I1,r1,q1⟩=>⟨σ,H1,I1,q1⟩) I.quiet hs
noncomputable def Ks (te:TE):TS:=fun D σ H=>te σ H D.rt
theorem DI (he:PE X e te):PS X (.Return (some e) pos) (Ks te):=by
 intro pins s σ H D I h
 exact wpAny_Return_some (thn (he pins s σ H _ I h) fun v s1 ⟨x,H1,I1,r1,q1⟩=>⟨x,σ,H1,I1,r1,q1⟩)
noncomputable def Ku (c:TT) (t u:TS):TS:=fun D σ H=>c σ H fun b H1=>if b=true then t D σ H1 else u D σ H1
theorem GQ {c:Pr}{a b:List Rc}{tc:TT} (hc:PT X c tc) (ha:PSs X a t) (hb:PSs X b u):PS X (.If c a b pos) (Ku tc t u):=by
 intro pins s σ H D I h
 refine wpAny_If (thn (hc pins s σ H _ I h) fun d s1 zq=>?_)
 obtain ⟨H1,I1,q1⟩:=zq
 cases d with
 | true=>exact ha pins s1 σ H1 D I1 q1
 | false=>exact hb pins s1 σ H1 D I1 q1
end
noncomputable abbrev TG:=V->St->Hp->(St->Hp->Prop)->Prop
noncomputable abbrev TGs:=List V->St->Hp->(St->Hp->Prop)->Prop
noncomputable def PG (X:Cx) (target:Pr) (t:TG):Prop :=
 ∀ (pins:List (M9×Obj)) (s:M0) (σ:St) (H:Hp) (v:V) (u:MZ) (Q:St->Hp->Prop),Inv X pins σ H s->RelV v u->t v σ H Q →
  wpAny (Nv X.prog X.w) X.A (Rz target X.env u) (fun _ s'=>∃ σ' H',Inv X pins σ' H' s'/\Q σ' H') X.xe s
noncomputable def PGs (X:Cx) (ts:List Pr) (t:TGs):Prop :=
 ∀ (pins:List (M9×Obj)) (s:M0) (σ:St) (H:Hp) (vs:List V) (us:List MZ) (Q:St->Hp->Prop),Inv X pins σ H s->cX vs us->t vs σ H Q →
  wpAny (Nv X.prog X.w) X.A (assignInOrder ((OV ts X.env).map (·.2)) us) (fun _ s'=>∃ σ' H',Inv X pins σ' H' s'/\Q σ' H') X.xe s
noncomputable abbrev DJ:=V->V->V->Hp->(Hp->Prop)->Prop
noncomputable def GR (X:Cx) (t:DJ):Prop :=
 ∀ (pins:List (M9×Obj)) (s:M0) (σ:St) (H:Hp) (o i v:V) (ov iv u:MZ) (Q:Hp->Prop),Inv X pins σ H s->RelV o ov->RelV i iv->RelV v u->t o i v H Q →
  wpAny (Nv X.prog X.w) X.A (setItem ov iv u) (fun _ s'=>∃ H',Inv X pins σ H' s'/\Q H') X.xe s
noncomputable abbrev TIp:=V->V->Hp->VK->Prop
noncomputable def PIp (X:Cx) (op:P8) (t:TIp):Prop :=
 ∀ (pins:List (M9×Obj)) (s:M0) (σ:St) (H:Hp) (x y:V) (v u:MZ) (Q:VK),Inv X pins σ H s->RelV x v->RelV y u->t x y H Q →
  wpAny (Nv X.prog X.w) X.A (inplaceOp op v u) (EP X pins σ Q) X.xe s
section
variable {X:Cx}{pos:Pos}
noncomputable def tV (i:Nat):TG:=fun v σ H Q=>Q (σ.set i (some v)) H
theorem tW {i:Nat}{x:Str} (hN:X.N.Nodup) (hi:X.N[i]?=some x) (hx:Loc X.env.scope x) (hf:X.fn x=true\/X.env.scope.names.lookup x=some .local:=by first | exact .inl rfl | exact .inr rfl | assumption):PG X (.Name x pos) (tV i):=by
 intro pins s σ H v u Q I r h
 exact wpAny_assign_Name (lJ I hN hi hx r (fun s' I'=>⟨_,H,I',h⟩) hf)
noncomputable def GS:TGs:=fun vs σ H Q=>vs=[]/\Q σ H
noncomputable def GT (t:TG) (u:TGs):TGs:=fun vs σ H Q=>∃ v r,vs=v :: r/\t v σ H fun σ' H'=>u r σ' H' Q
theorem As:PGs X [] GS:=by
 intro pins s σ H vs us Q I r h
 obtain ⟨e,h⟩:=h
 subst e
 cases r
 exact assignInOrder_nil ⟨σ,H,I,h⟩
theorem w5 {e:Pr}{es:List Pr}{t:TG}{u:TGs} (h1:PG X e t) (h2:PGs X es u)
 (hs:(OV (e :: es) X.env).map (·.2)=Rz e X.env :: (OV es X.env).map (·.2):=by rfl):PGs X (e :: es) (GT t u):=by
 intro pins s σ H vs us Q I r h
 obtain ⟨v,vr,e1,h⟩:=h
 subst e1
 cases r with
 | cons r rr =>
  rw[hs]
  refine assignInOrder_cons (thn (h1 pins s σ H _ _ _ I r h) fun _ s1 zq=>?_)
  obtain ⟨σ1,H1,I1,q1⟩:=zq
  exact h2 pins s1 σ1 H1 _ _ Q I1 rr q1
noncomputable def Kv (K:MV) (n:Nat) (t:TGs):TG:=fun v σ H Q=>∃ a xs,v=.ref a/\SqT K H a xs/\xs.length=n/\t xs σ H Q
theorem DK {es:List Pr}{k:Nat}{t:TGs}{n:Nat} (hc:X.calm=true) (h:PGs X es t)
 (hn:(OV es X.env).length=n:=by rfl) (hst:(OV es X.env).findIdx? (·.1)=none:=by rfl):PG X (.Tuple es k pos) (Kv X.K n t):=by
 intro pins s σ H v u Q I r hw
 obtain ⟨a,xs,e1,hq,hl,hw⟩:=hw
 subst e1
 cases r
 obtain ⟨its,rv,ht,hz⟩:=I.tuple hq
 refine assign_Tuple_tuple (I.ok.hd hc) ht (by simp[hn,← hl,rv.length]) hst fun h' hx=>?_
 have I1:Inv X pins σ H { s with heap:=h' }:=I.kept (t':=s.toks) fun b o e=>hx b o (Nt (Na e)) e
 exact h pins _ σ H xs _ Q I1 (by simpa using rv) hw
noncomputable def GU (to ti:TE) (t:DJ):TG:=fun v σ H Q=>to σ H fun o H1=>ti σ H1 fun i H2=>t o i v H2 fun H3=>Q σ H3
theorem DL {o i:Pr}{to ti:TE}{t:DJ} (ho:PE X o to) (hi:PE X i ti) (hs:GR X t)
 (ha:∀ v,Rz (.Subscript o i pos) X.env v=(do
  let ov ← Ql [v] (eval o X.env)
  let iv ← Ql [v,ov] (eval i X.env)
  RZ pos
  Ql [v,ov,iv] (setItem ov iv v)
  release [v,ov,iv] []):=by intro _;rfl):PG X (.Subscript o i pos) (GU to ti t):=by
 intro pins s σ H v u Q I r h
 rw[ha]
 refine MW (Pc (thn (ho pins s σ H _ I h) fun ov s1 zq=>?_))
 obtain ⟨x,H1,I1,r1,q1⟩:=zq
 refine MW (Pc (thn (hi pins s1 σ H1 _ I1 q1) fun iv s2 zq=>?_))
 obtain ⟨y,H2,I2,r2,q2⟩:=zq
 refine MW (Q3 (MW (Pc (thn (hs pins s2 σ H2 x y v ov iv u _ I2 r1 r2 r q2) fun _ s3 zq=>?_))))
 obtain ⟨H3,I3,q3⟩:=zq
 exact wpAny_release ⟨σ,H3,I3,q3⟩
noncomputable def w6 (te:TE) (g:TG):TS:=fun D σ H=>te σ H fun x H1=>g x σ H1 D.nx
theorem w9 {tg e:Pr}{te:TE}{g:TG} (he:PE X e te) (hg:PG X tg g) (hs:swapsWithSole [tg] e pos.line X.env=pure false:=by rfl) (hw:swappedStores [tg] e X.env=pure none:=by rfl)
 (h1:(OV [tg] X.env).map (·.2)=[Rz tg X.env]:=by rfl):PS X (.Assign [tg] e pos) (w6 te g):=by
 intro pins s σ H D I h
 refine wpAny_Assign_stores (thn (he pins s σ H _ I h) fun v s1 ⟨x,H1,I1,r1,q1⟩=>?_) hs hw
 rw[h1]
 exact thn (hg pins s1 σ H1 x v _ I1 r1 q1) fun _ s2 q=>q
theorem xg {i:Nat}{x:Str}{e:Pr}{te:TE}{pos':Pos} (hN:X.N.Nodup) (hi:X.N[i]?=some x) (hx:Loc X.env.scope x) (he:PE X e te) (hs:PU e (some (.Name x pos')) pos.line X.env=pure false:=by rfl) (hf:X.fn x=true\/X.env.scope.names.lookup x=some .local:=by first | exact .inl rfl | exact .inr rfl | assumption) :
 PS X (.Assign [.Name x pos'] e pos) (w6 te (tV i)):=by
 intro pins s σ H D I h
 refine wpAny_Assign_Name (thn (he pins s σ H _ I h) fun v s1 ⟨y,H1,I1,r1,q1⟩=>?_) hs
 exact lJ I1 hN hi hx r1 (fun s2 I2=>⟨_,H1,I2,q1⟩) hf
noncomputable def GV (i:Nat) (te:TE) (ti:TIp):TS:=fun D σ H=>∃ x,σ[i]?=some (some x)/\te σ H fun y H1=>ti x y H1 fun z H2=>D.nx (σ.set i (some z)) H2
theorem DM {i:Nat}{x:Str}{e:Pr}{te:TE}{op:P8}{ti:TIp}{pos':Pos} (hN:X.N.Nodup) (hi:X.N[i]?=some x) (hx:Loc X.env.scope x) (he:PE X e te) (ho:PIp X op ti) (hf:X.fn x=true\/X.env.scope.names.lookup x=some .local:=by first | exact .inl rfl | exact .inr rfl | assumption) :
 PS X (.AugAssign (.Name x pos') op e pos) (GV i te ti):=by
 intro pins s σ H D I h
 obtain ⟨v,e1,h⟩:=h
 obtain ⟨m,hn,hl⟩:=I.loc
 have vis:Vis X.env.scope x:=by rcases hx with k | k;exact .inl k;exact .inr (.inl k)
 obtain ⟨u,r,l⟩:=hl i x v hi e1 vis
 refine wpAny_AugAssign_Name ?_
 have go:wpAny (Nv X.prog X.w) X.A (eval e X.env) (fun w s₂=>wpAny (Nv X.prog X.w) X.A (inplaceOp op u w) (fun r s₃=>wpAny (Nv X.prog X.w) X.A (storeName X.env x r) (fun _=>SP X pins D .next) X.xe s₃) X.xe s₂) X.xe s:=by
  refine thn (he pins s σ H _ I h) fun w s1 zq=>?_
  obtain ⟨y,H1,I1,r1,q1⟩:=zq
  refine thn (ho pins s1 σ H1 v y u w _ I1 r r1 q1) fun z s2 zq=>?_
  obtain ⟨zv,H2,I2,r2,q2⟩:=zq
  exact lJ I2 hN hi hx r2 (fun s3 I3=>⟨_,H2,I3,q2⟩) hf
 rcases l with ⟨hk,hm⟩ | ⟨hk,c,hc,hcell⟩
 ·exact wpAny_loadName_local I.ok.kind hk hn hm go
 ·rcases hk with hk | hk
  ·exact wpAny_loadName_cell I.ok.kind hk hc hcell go
  ·rcases hx with k | k
   ·have:X.env.scope.names.lookup x=some .free:=hk
    rw[k] at this;cases this
   ·have:X.env.scope.names.lookup x=some .free:=hk
    rw[k] at this;cases this
end
section
variable {X:Cx}{pos:Pos}
noncomputable def xh (c:TT) (tb:TS):TS:=fun D σ H=>∃ W:Nat->St->Hp->Prop,(∃ m,W m σ H)/\∀ m σ H,W m σ H →
 c σ H fun b H1=>if b=true then ∃ N:St->Hp->Prop,(∀ σ' H',N σ' H'->∃ m',m' < m/\W m' σ' H')/\tb { D with nx:=N,ct:=N,bk:=D.nx } σ H1 else D.nx σ H1
theorem xj {c:Pr}{body:List Rc}{tc:TT}{tb:TS} (hp:PassesOwn (Nv X.prog X.w) X.A X.env X.xe) (hc:PT X c tc) (hb:PSs X body tb):PS X (.While c body [] pos) (xh tc tb):=by
 intro pins s σ H D I h
 obtain ⟨W,⟨m0,w0⟩,turn⟩:=h
 refine wpAny_While (codeAny_whileLoop (fun n s'=>∃ σ' H',Inv X pins σ' H' s'/\W n σ' H') ?_ m0 ⟨σ,H,I,w0⟩)
 rintro n s1 ⟨σ1,H1,I1,w1⟩
 refine OR hp (thn (hc pins s1 σ1 H1 _ I1 (turn n σ1 H1 w1)) fun b s2 zq=>?_)
 obtain ⟨H2,I2,q2⟩:=zq
 cases b with
 | true =>
  obtain ⟨N,hN,q2⟩:=q2
  rw[if_pos rfl]
  refine OR hp (thn (hb pins s2 σ1 H2 _ I2 q2) fun f s3 q3=>?_)
  cases f with
  | next =>
   obtain ⟨σ3,H3,I3,n3⟩:=q3
   obtain ⟨m',hm,w3⟩:=hN σ3 H3 n3
   exact ⟨m',hm,σ3,H3,I3,w3⟩
  | cont =>
   obtain ⟨σ3,H3,I3,n3⟩:=q3
   obtain ⟨m',hm,w3⟩:=hN σ3 H3 n3
   exact ⟨m',hm,σ3,H3,I3,w3⟩
  | brk=>exact q3
  | ret v=>exact q3
 | false =>
  rw[if_neg NN]
  exact Qz ⟨σ1,H2,I2,q2⟩
end
structure It where
 go:Nat->Hp->Prop
 yld:Nat->Hp->V->Hp->Prop
 stop:Nat->Hp->Prop
noncomputable def nv (X:Cx) (pins:List (M9×Obj)) (H:Hp) (b:M9):Prop :=
 H b=none/\b≠X.env.locals/\b∉X.fs/\(b∈X.ex\/X.s₀.heap.objs.size<=b)/\(∀ x c,X.env.cells.lookup x=some c->c≠b)/\∀ p∈X.pn++pins,p.1≠b
theorem Inv.rN {X:Cx}{pins:List (M9×Obj)}{σ:St}{H H':Hp}{s:M0}{b:M9} (I:Inv X pins σ H s) (hb:s.heap.objs.size<=b) (hn:H' b=none):nv X pins H' b:=by
 refine ⟨hn,PP (Nu I.lt hb),I.Kp hb,.inr (Nx I.sz hb),fun x c e z=>?_,fun p hp z=>?_⟩
 ·obtain ⟨v,q⟩:=I.cell x c e
  exact absurd (Nu q.lt (by rw[z];exact hb)) (OA _)
 ·exact absurd (Nu (Na (I.pin p hp).1) (by rw[z];exact hb)) (OA _)
structure Turn (P:Nk) (w:Nz) (K:MV) (tg:Pr) (J:It) (fp:List M9) (it:M9) (tn:Nat->Heap->Prop):Prop where
 mem:it∈fp
 obj:∀ i h,tn i h->∀ b∈fp,∃ o,h.get? b=some o/\∀ v,o.data≠.cell v
 keep:∀ i h h',tn i h->(∀ b∈fp,∀ o,h.get? b=some o->h'.get? b=some o)->tn i h'
 item:∀ (X:Cx),X.prog=P->X.w=w->X.K=K->X.calm=true->∀ (i:Nat) (pins:List (M9×Obj)) (s:M0) (σ:St) (H:Hp) (E:MZ->M0->Prop),Inv X pins σ H s->(∀ b∈fp,nv X pins H b)->tn i s.heap->J.go i H →
  wpAny (Nv P w) X.A (pyNext (.ref it)) (fun r s1=>∃ u,r=some u ∧
   wpAny (Nv P w) X.A (PV tg (.ref it) u) (fun _ s2=>∃ x H',Inv X pins σ H' s2/\RelV x u/\J.yld i H x H'/\tn (i+1) s2.heap/\∀ b∈fp,H' b=none) E s1) E s
 done:∀ (X:Cx),X.prog=P->X.w=w->X.K=K->X.calm=true->∀ (i:Nat) (pins:List (M9×Obj)) (s:M0) (σ:St) (H:Hp) (E:MZ->M0->Prop),Inv X pins σ H s->(∀ b∈fp,nv X pins H b)->tn i s.heap->J.stop i H →
  wpAny (Nv P w) X.A (pyNext (.ref it)) (fun r s1=>r=none/\Inv X pins σ H s1) E s
 self:∀ (A:NT) (i:Nat) (s:M0) (Q:MZ->M0->Prop) (E:MZ->M0->Prop),tn i s.heap->Q (.ref it) s->wpAny (Nv P w) A (pyIter (.ref it)) Q E s
noncomputable abbrev TI:=St->Hp->(It->Hp->Prop)->Prop
noncomputable def PIE (X:Cx) (pins:List (M9×Obj)) (σ:St) (tg:Pr) (R:It->Hp->Prop) (itv:MZ) (s2:M0):Prop :=
 ∃ (it:M9) (fp:List M9) (tn:Nat->Heap->Prop) (J:It) (H':Hp),itv=.ref it/\Inv X pins σ H' s2/\Turn X.prog X.w X.K tg J fp it tn/\tn 0 s2.heap/\(∀ b∈fp,nv X pins H' b)/\R J H'
noncomputable def PI (X:Cx) (tg iter:Pr) (wi:TI):Prop :=
 ∀ (pins:List (M9×Obj)) (s:M0) (σ:St) (H:Hp) (R:It->Hp->Prop),Inv X pins σ H s->wi σ H R →
  wpAny (Nv X.prog X.w) X.A (eval iter X.env) (fun v s1=>wpAny (Nv X.prog X.w) X.A (pyIter v) (PIE X pins σ tg R) X.xe s1) X.xe s
theorem nT {M:Model}{A:NT}{E:MZ->M0->Prop}{s:M0}{tg:Pr}{it:M9}{u:MZ}{o:Obj}{n:String}{vs:Array MZ}{Q:Unit->M0->Prop} (ho:s.heap.get? it=some o) (hc:o.cls=.type n) (hd:o.data=.fields vs)
 (hn:["enumerate","zip","dict_itemiterator","dict_reverseitemiterator","odict_iterator","itertools.zip_longest","itertools.pairwise"].contains n=false) (hQ:Q () s):wpAny M A (PV tg (.ref it) u) Q E s:=by
 unfold PV
 cases tg<;>first
  | exact wpAny_pure hQ
  | (cases u<;>first
   | exact wpAny_pure hQ
   | (refine MW (wpAny_load ho ?_)
      rw[hc,hd]
      show wpAny M A (if (["enumerate","zip","dict_itemiterator","dict_reverseitemiterator","odict_iterator","itertools.zip_longest","itertools.pairwise"].contains n&&vs[0]?==some (rawInt _))=true then _ else _) Q E s
      rw[if_neg (by intro h;rw[hn,Bool.false_and] at h;cases h)]
      exact wpAny_pure hQ))
noncomputable def Itl (K:MV) (a:M9):It :=
 ⟨fun i H=>∃ xs x,SqL K H a xs/\xs[i]?=some x,fun i H x H'=>H'=H/\∀ xs,SqL K H a xs->xs[i]?=some x,fun i H=>∃ xs,SqL K H a xs/\xs.length<=i⟩
noncomputable def Itt (K:MV) (a:M9):It :=
 ⟨fun i H=>∃ xs x,SqT K H a xs/\xs[i]?=some x,fun i H x H'=>H'=H/\∀ xs,SqT K H a xs->xs[i]?=some x,fun i H=>∃ xs,SqT K H a xs/\xs.length<=i⟩
noncomputable def Itr (lo:Int) (n:Nat):It:=⟨fun i _=>i < n,fun i H x H'=>H'=H/\x=.int (lo+i),fun i _=>n<=i⟩
theorem vA {P:Nk}{w:Nz}{K:MV}{tg:Pr} (a it:M9):Turn P w K tg (Itl K a) [it] it (fun i h=>h.IsListIter it a i) where
 mem:=by simp
 obj:=fun i h st b hb=>by
  have e:b=it:=by simpa using hb
  subst e
  obtain ⟨o,e,c,d⟩:=st
  exact ⟨o,e,fun v z=>by rw[d] at z;cases z⟩
 keep:=fun i h h' st k=>st.at fun o e=>k it (by simp) o e
 item:=by
  intro X hP hw hK hc i pins s σ H E I hf st hg
  subst hP hw hK
  obtain ⟨xs,x,hq,hx⟩:=hg
  obtain ⟨its,rv,p,hz⟩:=I.list hq
  obtain ⟨u,hu,ru⟩:=rv.get hx
  obtain ⟨f0,f1,f2,f3,f4,f5⟩:=hf it (by simp)
  refine wpAny_pyNext_list_item st p.isList (x:=u) (by simpa using hu) fun h' st' sb=>?_
  have I1:Inv X pins σ H { s with heap:=h' }:=I.turned (t':=s.toks) (fun b o hb e=>(sb.2 b hb).trans e) f0 f1 f3 f4 f5
  obtain ⟨o,e,c,d⟩:=id st'
  exact ⟨u,rfl,nT (s:={ s with heap:=h' }) e c d (by decide) ⟨x,H,I1,ru,⟨rfl,fun ys hy=>by rw[I.lK hy hq];exact hx⟩,st',fun b hb=>(hf b hb).1⟩⟩
 done:=by
  intro X hP hw hK hc i pins s σ H E I hf st hg
  subst hP hw hK
  obtain ⟨xs,hq,hx⟩:=hg
  obtain ⟨its,rv,p,hz⟩:=I.list hq
  obtain ⟨f0,f1,f2,f3,f4,f5⟩:=hf it (by simp)
  have hl:=rv.length
  exact wpAny_pyNext_list_end (I.ok.hd hc) st p.isList (by simp;lia) fun h' eb=>⟨rfl,I.turned (t':=s.toks) (fun b o hb e=>eb b o hb e) f0 f1 f3 f4 f5⟩
 self:=fun _ _ _ _ _ st h=>wpAny_pyIter_listiter st h
theorem rO {P:Nk}{w:Nz}{K:MV}{tg:Pr} (a it:M9):Turn P w K tg (Itt K a) [it] it (fun i h=>h.IsTupleIter it a i) where
 mem:=by simp
 obj:=fun i h st b hb=>by
  have e:b=it:=by simpa using hb
  subst e
  obtain ⟨o,e,c,d⟩:=st
  exact ⟨o,e,fun v z=>by rw[d] at z;cases z⟩
 keep:=fun i h h' st k=>st.at fun o e=>k it (by simp) o e
 item:=by
  intro X hP hw hK hc i pins s σ H E I hf st hg
  subst hP hw hK
  obtain ⟨xs,x,hq,hx⟩:=hg
  obtain ⟨its,rv,p,hz⟩:=I.tuple hq
  obtain ⟨u,hu,ru⟩:=rv.get hx
  obtain ⟨f0,f1,f2,f3,f4,f5⟩:=hf it (by simp)
  refine wpAny_pyNext_tuple_item st (show s.heap.IsTuple a its.toArray from p) (x:=u) (by simpa using hu) fun h' st' sb=>?_
  have I1:Inv X pins σ H { s with heap:=h' }:=I.turned (t':=s.toks) (fun b o hb e=>(sb.2 b hb).trans e) f0 f1 f3 f4 f5
  obtain ⟨o,e,c,d⟩:=id st'
  exact ⟨u,rfl,nT (s:={ s with heap:=h' }) e c d (by decide) ⟨x,H,I1,ru,⟨rfl,fun ys hy=>by rw[I.nS hy hq];exact hx⟩,st',fun b hb=>(hf b hb).1⟩⟩
 done:=by
  intro X hP hw hK hc i pins s σ H E I hf st hg
  subst hP hw hK
  obtain ⟨xs,hq,hx⟩:=hg
  obtain ⟨its,rv,p,hz⟩:=I.tuple hq
  obtain ⟨f0,f1,f2,f3,f4,f5⟩:=hf it (by simp)
  have hl:=rv.length
  exact wpAny_pyNext_tuple_end (I.ok.hd hc) st (show s.heap.IsTuple a its.toArray from p) (by simp;lia) fun h' eb=>⟨rfl,I.turned (t':=s.toks) (fun b o hb e=>eb b o hb e) f0 f1 f3 f4 f5⟩
 self:=fun _ _ _ _ _ st h=>wpAny_pyIter_tupleiter st h
theorem rP {P:Nk}{w:Nz}{K:MV}{tg:Pr} (it:M9) (lo:Int) (n:Nat):Turn P w K tg (Itr lo n) [it] it (fun i h=>Se h it (lo+(i:Nat)*1) ((n:Int) - (i:Nat)) 1) where
 mem:=by simp
 obj:=fun i h st b hb=>by
  have e:b=it:=by simpa using hb
  subst e
  exact ⟨_,st,fun v z=>by
   have z':Data.fields _=Data.cell v:=z
   cases z'⟩
 keep:=fun i h h' st k=>k it (by simp) _ st
 item:=by
  intro X hP hw hK hc i pins s σ H E I hf st hg
  subst hP hw hK
  obtain ⟨f0,f1,f2,f3,f4,f5⟩:=hf it (by simp)
  have W:=Walks.range (prog:=X.prog) (w:=X.w) (I.ok.hd hc) it lo 1 n
  refine W.item i s _ _ hg st fun v h' tk hv st' kk=>?_
  obtain ⟨t,rfl⟩:=hv
  have I1:Inv X pins σ H { s with heap:=h',toks:=tk }:=I.turned (fun b o hb e=>kk b o (by simpa using hb) e) f0 f1 f3 f4 f5
  refine ⟨_,rfl,nT (s:={ s with heap:=h',toks:=tk }) (n:="range_iterator") st' rfl rfl (by decide) ⟨.int (lo+i),H,I1,⟨t,?_⟩,⟨rfl,rfl⟩,st',fun b hb=>(hf b hb).1⟩⟩
  rw[Int.mul_one]
 done:=by
  intro X hP hw hK hc i pins s σ H E I hf st hg
  subst hP hw hK
  obtain ⟨f0,f1,f2,f3,f4,f5⟩:=hf it (by simp)
  exact wpAny_pyNext_range_end (I.ok.hd hc) st (by have:n<=i:=hg;lia) fun h' eb=>⟨rfl,I.turned (t':=s.toks) (fun b o hb e=>eb b o hb e) f0 f1 f3 f4 f5⟩
 self:=fun _ _ _ _ _ st h=>wpAny_pyIter_rangeiter st h
end L2
namespace L2
open PySem PySem.Spec PyProof.Rows
section
variable {X:Cx}{tg:Pr}
noncomputable def GW (K:MV) (tl:TE):TI:=fun σ H R=>tl σ H fun x H1=>∃ a,x=.ref a/\(∃ xs,SqL K H1 a xs)/\R (Itl K a) H1
noncomputable def Kw (K:MV) (tl:TE):TI:=fun σ H R=>tl σ H fun x H1=>∃ a,x=.ref a/\(∃ xs,SqT K H1 a xs)/\R (Itt K a) H1
theorem tX {l:Pr}{tl:TE} (hl:PE X l tl):PI X tg l (GW X.K tl):=by
 intro pins s σ H R I h
 refine thn (hl pins s σ H _ I h) fun v s1 zq=>?_
 obtain ⟨x,H1,I1,r1,q1⟩:=zq
 obtain ⟨a,e,⟨xs,hq⟩,q⟩:=q1
 subst e
 cases r1
 obtain ⟨its,rv,p,hz⟩:=I1.list hq
 refine Rn p.isList ?_
 refine ⟨s1.heap.objs.size,[s1.heap.objs.size],_,_,H1,rfl,I1.kept (t':=s1.toks) fun b o e=>MY _ e,vA a _,⟨_,Nh _ rfl,rfl,rfl⟩,fun b hb=>?_,q⟩
 have e:b=s1.heap.objs.size:=by simpa using hb
 subst e
 exact I1.rN (Nb _) (I1.hok.fresh (Nb _))
theorem DN {l:Pr}{tl:TE} (hl:PE X l tl):PI X tg l (Kw X.K tl):=by
 intro pins s σ H R I h
 refine thn (hl pins s σ H _ I h) fun v s1 zq=>?_
 obtain ⟨x,H1,I1,r1,q1⟩:=zq
 obtain ⟨a,e,⟨xs,hq⟩,q⟩:=q1
 subst e
 cases r1
 obtain ⟨its,rv,p,hz⟩:=I1.tuple hq
 refine wpAny_pyIter_tuple (show s1.heap.IsTuple a its.toArray from p) ?_
 refine ⟨s1.heap.objs.size,[s1.heap.objs.size],_,_,H1,rfl,I1.kept (t':=s1.toks) fun b o e=>MY _ e,rO a _,⟨_,Nh _ rfl,rfl,rfl⟩,fun b hb=>?_,q⟩
 have e:b=s1.heap.objs.size:=by simpa using hb
 subst e
 exact I1.rN (Nb _) (I1.hok.fresh (Nb _))
theorem xm {pins:List (M9×Obj)}{σ:St}{H:Hp}{s:M0}{R:It->Hp->Prop}{E:MZ->M0->Prop}{lo hi:Int}{t u v:Tok}{tk:Nat} (I:Inv X pins σ H s) (h1:-(2 ^ 62)<=lo) (h2:lo < 2 ^ 62) (h3:-(2 ^ 62)<=hi) (h4:hi < 2 ^ 62)
 (q:R (Itr lo (hi - lo).toNat) H):wpAny (Nv X.prog X.w) X.A (pyIter (.ref s.heap.objs.size)) (PIE X pins σ tg R) E { s with heap:=s.heap.push { cls:=.type "range",data:=.fields #[.int lo t,.int hi u,.int 1 v] },toks:=tk }:=by
 refine wpAny_pyIter_range (IsRange.new ..) (small_one h1 h2 h3 h4) ?_
 have I1:Inv X pins σ H { s with heap:=s.heap.push { cls:=.type "range",data:=.fields #[.int lo t,.int hi u,.int 1 v] },toks:=tk }:=I.kept fun b o e=>MY _ e
 refine ⟨(s.heap.push { cls:=.type "range",data:=.fields #[.int lo t,.int hi u,.int 1 v] }).objs.size,[(s.heap.push { cls:=.type "range",data:=.fields #[.int lo t,.int hi u,.int 1 v] }).objs.size],_,_,H,rfl,
  I1.kept (t':=tk) fun b o e=>MY _ e,rP _ lo (hi - lo).toNat,?_,fun b hb=>?_,q⟩
 ·have e1:lo+((0:Nat):Int)*1=lo:=by simp
  have e2:(((hi - lo).toNat:Nat):Int) - ((0:Nat):Int)=QJ lo hi 1:=by rw[rangeSize_one];split<;>lia
  show Se _ _ (lo+((0:Nat):Int)*1) ((((hi - lo).toNat:Nat):Int) - ((0:Nat):Int)) 1
  rw[e1,e2]
  exact Nh _ rfl
 ·have e:b=(s.heap.push { cls:=.type "range",data:=.fields #[.int lo t,.int hi u,.int 1 v] }).objs.size:=by simpa using hb
  subst e
  exact I1.rN (Nb _) (I1.hok.fresh (Nb _))
noncomputable def GX (ta:TA):TI:=fun σ H R=>ta σ H fun vs H1=>∃ j:Int,vs=[.int j]/\-(2 ^ 62)<=j/\j < 2 ^ 62/\R (Itr 0 j.toNat) H1
theorem vB {a:Pr}{ta:TA}{p pos:Pos} (hg:Gl X "range") (hm:X.mg "range"=none) (ha:PA X [a] ta) (hs:NG [a] X.env=[(false,eval a X.env)]:=by rfl):PI X tg (.Call (.Name "range" p) [a] [] pos) (GX ta):=by
 intro pins s σ H R I h
 refine Call_ (jc I hg hm boot_range (Oc (thn (ha pos pins s σ H _ I h) fun us s1 ⟨vs,H1,I1,r1,q1⟩=>?_) hs rfl))
 obtain ⟨j,e,q1,q2,q⟩:=q1
 subst e
 cases r1 with
 | cons r rr =>
  cases rr
  obtain ⟨t,rfl⟩:=r
  exact call_range_1 (xm I1 (by lia) (by lia) q1 q2 (by simpa using q))
noncomputable def GY (wi:TI) (g:TG) (tb:TS):TS:=fun D σ H=>wi σ H fun J H1=>∃ W:Nat->Nat->St->Hp->Prop,(∃ m,W 0 m σ H1)/\∀ i m σ H,W i m σ H →
 (J.stop i H/\D.nx σ H)\/(J.go i H/\∃ N:St->Hp->Prop,(∀ σ' H',N σ' H'->∃ m',m' < m/\W (i+1) m' σ' H')/\∀ x H',J.yld i H x H'->g x σ H' fun σ2 H2=>tb { D with nx:=N,ct:=N,bk:=D.nx } σ2 H2)
noncomputable def j0 (fp:List M9) (h:Heap):List (M9×Obj):=fp.filterMap fun b=>(h.get? b).map fun o=>(b,o)
theorem gz {fp:List M9}{h:Heap}{b:M9}{o:Obj} (hb:b∈fp) (e:h.get? b=some o):(b,o)∈j0 fp h:=List.mem_filterMap.mpr ⟨b,hb,by rw[e];rfl⟩
theorem vC {fp:List M9}{h:Heap}{p:M9×Obj} (hp:p∈j0 fp h):p.1∈fp/\h.get? p.1=some p.2:=by
 obtain ⟨b,hb,e⟩:=List.mem_filterMap.mp hp
 cases q:h.get? b with
 | none=>rw[q] at e;cases e
 | some o =>
  rw[q] at e
  have e':(b,o)=p:=Nc e
  subst e'
  exact ⟨hb,q⟩
theorem Inv.pinned {pins:List (M9×Obj)}{σ:St}{H:Hp}{s:M0}{fp:List M9} (I:Inv X pins σ H s) (hf:∀ b∈fp,nv X pins H b) (ho:∀ b∈fp,∃ o,s.heap.get? b=some o/\∀ v,o.data≠.cell v):Inv X (pins++j0 fp s.heap) σ H s :=
 I.kX fun p hp=>(List.mem_append.mp hp).elim (fun z=>I.pin p (ND _ z)) fun z=>by
  obtain ⟨hb,e⟩:=vC z
  obtain ⟨f0,f1,f2,_⟩:=hf p.1 hb
  obtain ⟨o,e',d⟩:=ho p.1 hb
  rw[e] at e';cases e'
  exact ⟨e,f0,f1,f2,d⟩
theorem Inv.jx {pins pl:List (M9×Obj)}{σ:St}{H:Hp}{s:M0} (I:Inv X (pins++pl) σ H s):Inv X pins σ H s:=I.kX fun p hp=>I.pin p (ND _ (Pq _ hp))
theorem DO {iter:Pr}{body:List Rc}{wi:TI}{g:TG}{tb:TS}{pos:Pos} (hp:PassesOwn (Nv X.prog X.w) X.A X.env X.xe) (hc:X.calm=true) (hi:PI X tg iter wi) (hg:PG X tg g) (hb:PSs X body tb)
 (hs:∀ x,foldedSetIterable iter X.env x=pure x:=by intro _;rfl):PS X (.For tg iter body [] pos) (GY wi g tb):=by
 intro pins s σ H D I h
 refine wpAny_For (thn (hi pins s σ H _ I h) fun v s1 h1=>thn h1 fun itv s2 h2=>?_) hs
 obtain ⟨it,fp,tn,J,H2,e,I2,T,st2,f2,W,⟨m0,w0⟩,turn⟩:=h2
 subst e
 have stat:∀ {H':Hp},(∀ b∈fp,H' b=none)->∀ b∈fp,nv X pins H' b:=fun hn b hb=>⟨hn b hb,(f2 b hb).2⟩
 refine codeAny_forLoop_any (fun n s'=>∃ i σ' H',Inv X pins σ' H' s'/\tn i s'.heap/\(∀ b∈fp,H' b=none)/\W i n σ' H') ?_ m0 ⟨0,σ,H2,I2,st2,fun b hb=>(f2 b hb).1,w0⟩
 rintro n s3 ⟨i,σ3,H3,I3,st3,fr3,w3⟩
 rcases turn i n σ3 H3 w3 with ⟨stop,qn⟩ | ⟨go,N,hN,step⟩
 ·refine OR hp (thn (T.done X rfl rfl rfl hc i pins s3 σ3 H3 X.xe I3 (stat fr3) st3 stop) fun r s4 zq=>?_)
  obtain ⟨hr,I4⟩:=zq
  subst hr
  exact Qz ⟨σ3,H3,I4,qn⟩
 ·refine OR hp (thn (T.item X rfl rfl rfl hc i pins s3 σ3 H3 X.xe I3 (stat fr3) st3 go) fun r s4 zq=>?_)
  obtain ⟨u,hr,h4⟩:=zq
  subst hr
  refine OR hp (thn h4 fun _ s5 zq=>?_)
  obtain ⟨x,H5,I5,r5,y5,st5,fr5⟩:=zq
  have I5':=I5.pinned (stat fr5) (T.obj _ _ st5)
  refine OR hp (thn (hg _ s5 σ3 H5 x u _ I5' r5 (step x H5 y5)) fun _ s6 zq=>?_)
  obtain ⟨σ6,H6,I6,q6⟩:=zq
  refine OR hp (thn (hb _ s6 σ6 H6 _ I6 q6) fun f s7 q7=>?_)
  have again:∀ {σ7:St}{H7:Hp},Inv X (pins++j0 fp s5.heap) σ7 H7 s7->N σ7 H7->∃ m,m < n/\∃ i σ' H',Inv X pins σ' H' s7/\tn i s7.heap/\(∀ b∈fp,H' b=none)/\W i m σ' H':=fun {σ7 H7} I7 n7=>by
   obtain ⟨m',hm,w7⟩:=hN σ7 H7 n7
   refine ⟨m',hm,i+1,σ7,H7,I7.jx,T.keep _ _ _ st5 fun b hb o e=>(I7.pin (b,o) (ND _ (ND _ (gz hb e)))).1,fun b hb=>?_,w7⟩
   obtain ⟨o,e,d⟩:=T.obj _ _ st5 b hb
   exact (I7.pin (b,o) (ND _ (ND _ (gz hb e)))).2.1
  cases f with
  | next=>obtain ⟨σ7,H7,I7,n7⟩:=q7;exact again I7 n7
  | cont=>obtain ⟨σ7,H7,I7,n7⟩:=q7;exact again I7 n7
  | brk=>obtain ⟨σ7,H7,I7,q7⟩:=q7;exact ⟨σ7,H7,I7.jx,q7⟩
  | ret v=>obtain ⟨x7,σ7,H7,I7,r7,q7⟩:=q7;exact ⟨x7,σ7,H7,I7.jx,r7,q7⟩
end
end L2
namespace L2
open PySem PySem.Spec PyProof.Rows
noncomputable abbrev R2:=V->V->Hp->VK->Prop
noncomputable def OpR (X:Cx) (f:MZ->MZ->Sem MZ) (r:R2):Prop :=
 ∀ (pins:List (M9×Obj)) (s:M0) (σ:St) (H:Hp) (x y:V) (v u:MZ) (Q:VK),Inv X pins σ H s->RelV x v->RelV y u->r x y H Q →
  wpAny (Nv X.prog X.w) X.A (f v u) (EP X pins σ Q) X.xe s
noncomputable def UnR (X:Cx) (f:MZ->Sem MZ) (r:V->Hp->VK->Prop):Prop :=
 ∀ (pins:List (M9×Obj)) (s:M0) (σ:St) (H:Hp) (x:V) (v:MZ) (Q:VK),Inv X pins σ H s->RelV x v->r x H Q →
  wpAny (Nv X.prog X.w) X.A (f v) (EP X pins σ Q) X.xe s
noncomputable def ef (X:Cx) (f:MZ) (r:List V->Hp->VK->Prop):Prop :=
 ∀ (pins:List (M9×Obj)) (s:M0) (σ:St) (H:Hp) (xs:List V) (us:List MZ) (Q:VK),Inv X pins σ H s->cX xs us->r xs H Q →
  wpAny (Nv X.prog X.w) X.A (call f us) (EP X pins σ Q) X.xe s
noncomputable def tOp (r:R2) (ta tb:TE):TE:=fun σ H Q=>ta σ H fun x H1=>tb σ H1 fun y H2=>r x y H2 Q
noncomputable def tUn (r:V->Hp->VK->Prop) (ta:TE):TE:=fun σ H Q=>ta σ H fun x H1=>r x H1 Q
noncomputable def rI (C:Int->Int->Prop) (g:Int->Int->V):R2:=fun x y H Q=>∃ i j,x=.int i/\y=.int j/\C i j/\Q (g i j) H
noncomputable def rI0 (g:Int->Int->V):R2:=fun x y H Q=>∃ i j,x=.int i/\y=.int j/\Q (g i j) H
noncomputable def rU (g:Int->V):V->Hp->VK->Prop:=fun x H Q=>∃ i,x=.int i/\Q (g i) H
section
variable {X:Cx}{a b c:Pr}{ta tb tc:TE}{pos:Pos}
theorem DP (ha:PE X a ta) (hb:PE X b tb) {pins:List (M9×Obj)}{s:M0}{σ:St}{H:Hp}{R:V->V->Hp->Prop} (I:Inv X pins σ H s)
 (h:ta σ H fun x H1=>tb σ H1 fun y H2=>R x y H2) {Q:MZ->M0->Prop}{f:MZ->MZ->Sem MZ}
 (hf:∀ v u s2 x y H2,Inv X pins σ H2 s2->RelV x v->RelV y u->R x y H2->wpAny (Nv X.prog X.w) X.A (f v u) Q X.xe s2) :
 wpAny (Nv X.prog X.w) X.A (eval a X.env) (fun v s₁=>wpAny (Nv X.prog X.w) X.A (eval b X.env) (fun u s₂=>wpAny (Nv X.prog X.w) X.A (f v u) Q X.xe s₂) X.xe s₁) X.xe s:=by
 refine thn (ha pins s σ H _ I h) fun v s1 zq=>?_
 obtain ⟨x,H1,I1,r1,q1⟩:=zq
 refine thn (hb pins s1 σ H1 _ I1 q1) fun u s2 zq=>?_
 obtain ⟨y,H2,I2,r2,q2⟩:=zq
 exact hf v u s2 x y H2 I2 r1 r2 q2
theorem GZ {op:P8}{r:R2} (ho:OpR X (Oj op) r) (ha:PE X a ta) (hb:PE X b tb):PE X (.BinOp a op b pos) (tOp r ta tb):=by
 intro pins s σ H Q I h
 exact wpAny_BinOp (DP ha hb I h fun v u s2 x y H2 I2 rx ry q=>ho pins s2 σ H2 x y v u Q I2 rx ry q)
theorem xo {op:UnaryOp}{r:V->Hp->VK->Prop} (ho:UnR X (unaryOp op) r) (ha:PE X a ta):PE X (.UnaryOp op a pos) (tUn r ta):=by
 intro pins s σ H Q I h
 exact UnaryOp_ (thn (ha pins s σ H _ I h) fun v s1 ⟨x,H1,I1,r1,q1⟩=>ho pins s1 σ H1 x v Q I1 r1 q1)
theorem opI {f:MZ->MZ->Sem MZ}{C:Int->Int->Prop}{g:Int->Int->Int}
 (rule:∀ (i j:Int) (t u:Tok) (s:M0) (Q:MZ->M0->Prop) (E:MZ->M0->Prop),C i j->Q (.int (g i j) s.toks) { s with toks:=s.toks+1 }->wpAny (Nv X.prog X.w) X.A (f (.int i t) (.int j u)) Q E s) :
 OpR X f (rI C fun i j=>.int (g i j)):=by
 intro pins s σ H x y v u Q I rx ry h
 obtain ⟨i,j,rfl,rfl,hc,q⟩:=h
 obtain ⟨t,rfl⟩:=rx
 obtain ⟨t',rfl⟩:=ry
 exact rule i j t t' s _ _ hc ⟨.int (g i j),H,I.tok _,⟨_,rfl⟩,q⟩
theorem G0 {f:MZ->MZ->Sem MZ}{g:Int->Int->Int}
 (rule:∀ (i j:Int) (t u:Tok) (s:M0) (Q:MZ->M0->Prop) (E:MZ->M0->Prop),Q (.int (g i j) s.toks) { s with toks:=s.toks+1 }->wpAny (Nv X.prog X.w) X.A (f (.int i t) (.int j u)) Q E s) :
 OpR X f (rI0 fun i j=>.int (g i j)):=by
 intro pins s σ H x y v u Q I rx ry h
 obtain ⟨i,j,rfl,rfl,q⟩:=h
 obtain ⟨t,rfl⟩:=rx
 obtain ⟨t',rfl⟩:=ry
 exact rule i j t t' s _ _ ⟨.int (g i j),H,I.tok _,⟨_,rfl⟩,q⟩
theorem Au {f:MZ->MZ->Sem MZ}{g:Int->Int->Bool}
 (rule:∀ (i j:Int) (t u:Tok) (s:M0) (Q:MZ->M0->Prop) (E:MZ->M0->Prop),Q (.bool (g i j)) s->wpAny (Nv X.prog X.w) X.A (f (.int i t) (.int j u)) Q E s) :
 OpR X f (rI0 fun i j=>.bl (g i j)):=by
 intro pins s σ H x y v u Q I rx ry h
 obtain ⟨i,j,rfl,rfl,q⟩:=h
 obtain ⟨t,rfl⟩:=rx
 obtain ⟨t',rfl⟩:=ry
 exact rule i j t t' s _ _ ⟨.bl (g i j),H,I,rfl,q⟩
noncomputable def Kx (i j:Int):Prop:=0 < j/\j < 1073741824
noncomputable def Kz (i j:Int):Prop:=0<=j/\j<=1000000/\i.natAbs < 2 ^ 64
noncomputable def Av (i j:Int):Prop:=(-(2 ^ 64) < i/\i < 2 ^ 64)\/(-(2 ^ 64) < j/\j < 2 ^ 64)
theorem Av.ok {i j:Int} (h:Av i j):IntMulOk i j:=by
 rcases h with ⟨h1,h2⟩ | ⟨h1,h2⟩
 ·exact .of_left (intBits_le_64 h1 h2)
 ·exact .of_right (intBits_le_64 h1 h2)
theorem DQ:OpR X (Oj .Add) (rI0 fun i j=>.int (i+j)):=G0 fun _ _ _ _ _ _ _ q=>add_int q
theorem DR:OpR X (Oj .Sub) (rI0 fun i j=>.int (i - j)):=G0 fun _ _ _ _ _ _ _ q=>sub_int q
theorem DS:OpR X (Oj .Mult) (rI Av fun i j=>.int (i*j)):=opI fun _ _ _ _ _ _ _ hc q=>mul_int q hc.ok
theorem Aw:OpR X (Oj .FloorDiv) (rI Kx fun i j=>.int (i / j)):=opI fun i j _ _ _ _ _ hc q=>by
 have h1:(0:Int) < j:=hc.1
 have h2:j < 1073741824:=hc.2
 exact floordiv_int (by lia) (by rw[Int.fdiv_eq_ediv_of_nonneg i (by lia)];exact q) (.inl (RE (by lia)))
theorem DT:OpR X (Oj .Mod) (rI (fun _ j=>0 < j) fun i j=>.int (i % j)):=opI fun i j _ _ _ _ _ hc q=>by
 have h1:(0:Int) < j:=hc
 exact mod_int' (by lia) (by rw[Int.fmod_eq_emod_of_nonneg i (by lia)];exact q)
theorem DU:OpR X (Oj .Pow) (rI Kz fun i j=>.int (i ^ j.toNat)):=opI fun _ _ _ _ _ _ _ hc q=>pow_int_small hc.1 hc.2.1 hc.2.2 q
theorem unI {f:MZ->Sem MZ}{g:Int->Int}
 (rule:∀ (i:Int) (t:Tok) (s:M0) (Q:MZ->M0->Prop) (E:MZ->M0->Prop),Q (.int (g i) s.toks) { s with toks:=s.toks+1 }->wpAny (Nv X.prog X.w) X.A (f (.int i t)) Q E s) :
 UnR X f (rU fun i=>.int (g i)):=by
 intro pins s σ H x v Q I rx h
 obtain ⟨i,rfl,q⟩:=h
 obtain ⟨t,rfl⟩:=rx
 exact rule i t s _ _ ⟨.int (g i),H,I.tok _,⟨_,rfl⟩,q⟩
theorem rQ:UnR X (unaryOp .USub) (rU fun i=>.int (-i)):=unI fun _ _ _ _ _ q=>neg_int q
end
section
variable {X:Cx}{a b c:Pr}{ta tb tc:TE}{pos:Pos}
theorem xq {pins:List (M9×Obj)}{σ:St}{H:Hp}{s:M0}{Q:VK}{k k':Bool} (I:Inv X pins σ H s) (q:Q (.bl k) H) (e:k=k'):EP X pins σ Q (.bool k') s:=by
 subst e
 exact ⟨.bl k,H,I,rfl,q⟩
theorem G1:OpR X (NV .Lt) (rI0 fun i j=>.bl (decide (i < j))):=Au fun _ _ _ _ _ _ _ q=>lt_int q
theorem G2:OpR X (NV .LtE) (rI0 fun i j=>.bl (decide (i<=j))):=Au fun _ _ _ _ _ _ _ q=>le_int q
theorem G3:OpR X (NV .Gt) (rI0 fun i j=>.bl (decide (j < i))):=Au fun _ _ _ _ _ _ _ q=>gt_int q
theorem G4:OpR X (NV .GtE) (rI0 fun i j=>.bl (decide (j<=i))):=Au fun _ _ _ _ _ _ _ q=>ge_int q
theorem DV:OpR X (NV .Is) (fun x y H Q=>y=.non/\Q (.bl (decide (x=.non))) H):=by
 intro pins s σ H x y v u Q I rx ry h
 obtain ⟨rfl,q⟩:=h
 cases ry
 refine is_none_gen (xq I q ?_)
 cases x<;>first
  | (cases rx;rfl)
  | (obtain ⟨t,rfl⟩:=rx;rfl)
theorem Ax:OpR X (NV .IsNot) (fun x y H Q=>y=.non/\Q (.bl (!decide (x=.non))) H):=by
 intro pins s σ H x y v u Q I rx ry h
 obtain ⟨rfl,q⟩:=h
 cases ry
 refine isnot_none_gen (xq I q ?_)
 cases x<;>first
  | (cases rx;rfl)
  | (obtain ⟨t,rfl⟩:=rx;rfl)
theorem tY {op:CmpOp}{r:R2} (ho:OpR X (NV op) r) (ha:PE X a ta) (hb:PE X b tb) (hm:Q7 op b=false):PE X (.Compare a [op] [b] pos) (tOp r ta tb):=by
 intro pins s σ H Q I h
 exact wpAny_Compare1 (DP ha hb I h fun v u s2 x y H2 I2 rx ry q=>ho pins s2 σ H2 x y v u Q I2 rx ry q) hm
noncomputable def xr (t:TE):TT:=fun σ H Q=>t σ H fun x H'=>∃ k,x=.bl k/\Q k H'
theorem tZ {op:CmpOp}{r:R2} (ho:OpR X (NV op) r) (ha:PE X a ta) (hb:PE X b tb) (hm:Q7 op b=false):PT X (.Compare a [op] [b] pos) (xr (tOp r ta tb)):=by
 intro pins s σ H Q I h
 refine wpAny_isTrue_Compare1 (thn (ha pins s σ H _ I h) fun v s1 ⟨x,H1,I1,r1,q1⟩=>thn (hb pins s1 σ H1 _ I1 q1) fun u s2 ⟨y,H2,I2,r2,q2⟩ =>
  thn (ho pins s2 σ H2 x y v u _ I2 r1 r2 q2) fun c s3 ⟨z,H3,I3,r3,k,e,q3⟩=>?_) hm
 subst e
 cases r3
 exact Oa ⟨H3,I3,q3⟩
noncomputable def rR (r r':R2) (ta tb tc:TE):TE:=fun σ H Q=>ta σ H fun x H1=>tb σ H1 fun y H2=>r x y H2 fun z H3=>∃ k,z=.bl k ∧
 (if k=true then tc σ H3 fun w' H4=>r' y w' H4 Q else Q (.bl false) H3)
theorem xu {op op':CmpOp}{r r':R2} (ho:OpR X (NV op) r) (ho':OpR X (NV op') r') (ha:PE X a ta) (hb:PE X b tb) (hc:PE X c tc)
 (hm:lastMarks [op,op'] [b,c]=false:=by with_unfolding_all rfl):PE X (.Compare a [op,op'] [b,c] pos) (rR r r' ta tb tc):=by
 intro pins s σ H Q I h
 refine Compare_chain (thn (ha pins s σ H _ I h) fun v s1 ⟨x,H1,I1,r1,q1⟩=>chain_link (thn (hb pins s1 σ H1 _ I1 q1) fun u s2 ⟨y,H2,I2,r2,q2⟩ =>
  thn (ho pins s2 σ H2 x y v u _ I2 r1 r2 q2) fun d s3 ⟨z,H3,I3,r3,k,e,q3⟩=>?_)) hm
 subst e
 cases r3
 refine Oa ?_
 cases k with
 | false=>exact ite_ff ⟨.bl false,H3,I3,rfl,q3⟩
 | true=>exact ite_tt (chain_last (thn (hc pins s3 σ H3 _ I3 q3) fun w' s4 ⟨z',H4,I4,r4,q4⟩=>ho' pins s4 σ H4 y z' u w' Q I4 r2 r4 q4))
theorem xw {op op':CmpOp}{r r':R2} (ho:OpR X (NV op) r) (ho':OpR X (NV op') r') (ha:PE X a ta) (hb:PE X b tb) (hc:PE X c tc)
 (hm:lastMarks [op,op'] [b,c]=false:=by with_unfolding_all rfl):PT X (.Compare a [op,op'] [b,c] pos) (xr (rR r r' ta tb tc)):=by
 intro pins s σ H Q I h
 refine isTrue_chain (thn (ha pins s σ H _ I h) fun v s1 ⟨x,H1,I1,r1,q1⟩=>test_link (thn (hb pins s1 σ H1 _ I1 q1) fun u s2 ⟨y,H2,I2,r2,q2⟩ =>
  thn (ho pins s2 σ H2 x y v u _ I2 r1 r2 q2) fun d s3 ⟨z,H3,I3,r3,k,e,q3⟩=>?_)) hm
 subst e
 cases r3
 refine Oa ?_
 cases k with
 | false =>
  obtain ⟨k',e',q'⟩:=q3
  cases e'
  exact ite_ff ⟨H3,I3,q'⟩
 | true =>
  refine ite_tt (test_last (thn (hc pins s3 σ H3 _ I3 q3) fun w' s4 ⟨z',H4,I4,r4,q4⟩=>thn (ho' pins s4 σ H4 y z' u w' _ I4 r2 r4 q4) fun d' s5 zq=>?_))
  obtain ⟨z2,H5,I5,r5,k2,e2,q5⟩:=zq
  subst e2
  cases r5
  exact Oa ⟨H5,I5,q5⟩
theorem j3:(sizeLine:Nat) < 2 ^ 63:=by rw[QS];decide
theorem rS:OpR X (Oj .Add) (fun x y H Q=>∃ i j,x=.str i/\y=.str j/\i.length+j.length<=sizeLine/\Q (.str (i++j)) H):=by
 intro pins s σ H x y v u Q I rx ry h
 obtain ⟨i,j,rfl,rfl,hz,q⟩:=h
 obtain ⟨t,rfl⟩:=rx
 obtain ⟨t',rfl⟩:=ry
 exact add_str (fun t' tk=>⟨.str (i++j),H,I.tok _,⟨_,rfl⟩,q⟩) hz
theorem vals1 {x:V}{us:List MZ} (r:cX [x] us):∃ u,us=[u]/\RelV x u:=by
 cases r with
 | cons r1 r2=>cases r2;exact ⟨_,rfl,r1⟩
theorem vals2 {x y:V}{us:List MZ} (r:cX [x,y] us):∃ u w',us=[u,w']/\RelV x u/\RelV y w':=by
 cases r with
 | cons r1 r2 =>
  cases r2 with
  | cons r3 r4=>cases r4;exact ⟨_,_,rfl,r1,r3⟩
theorem xy:ef X (.builtin "abs") (fun xs H Q=>∃ i,xs=[.int i]/\Q (.int (if i < 0 then -i else i)) H):=by
 intro pins s σ H xs us Q I r h
 obtain ⟨i,rfl,q⟩:=h
 obtain ⟨u,rfl,t,rfl⟩:=vals1 r
 exact call_abs_int fun u tk=>⟨.int (if i < 0 then -i else i),H,I.tok _,⟨_,rfl⟩,q⟩
theorem vD (hc:X.calm=true):ef X (.builtin "max") (fun xs H Q=>∃ i j,xs=[.int i,.int j]/\Q (.int (if j > i then j else i)) H):=by
 intro pins s σ H xs us Q I r h
 obtain ⟨i,j,rfl,q⟩:=h
 obtain ⟨u,w',rfl,⟨t,rfl⟩,⟨t',rfl⟩⟩:=vals2 r
 refine max_two_ints (I.ok.hd hc) fun h' tk k=>⟨_,H,I.kept k,?_,q⟩
 by_cases hj:j > i
 ·rw[if_pos hj,if_pos hj];exact ⟨_,rfl⟩
 ·rw[if_neg hj,if_neg hj];exact ⟨_,rfl⟩
theorem vE (hc:X.calm=true):ef X (.builtin "min") (fun xs H Q=>∃ i j,xs=[.int i,.int j]/\Q (.int (if j < i then j else i)) H):=by
 intro pins s σ H xs us Q I r h
 obtain ⟨i,j,rfl,q⟩:=h
 obtain ⟨u,w',rfl,⟨t,rfl⟩,⟨t',rfl⟩⟩:=vals2 r
 refine min_two_ints (I.ok.hd hc) fun h' tk k=>⟨_,H,I.kept k,?_,q⟩
 by_cases hj:j < i
 ·rw[if_pos hj,if_pos hj];exact ⟨_,rfl⟩
 ·rw[if_neg hj,if_neg hj];exact ⟨_,rfl⟩
theorem nU:ef X (.type "int") (fun xs H Q=>(∃ i,xs=[.int i]/\Q (.int i) H)\/∃ k,xs=[.bl k]/\Q (.int (if k then 1 else 0)) H):=by
 intro pins s σ H xs us Q I r h
 rcases h with ⟨i,rfl,q⟩ | ⟨k,rfl,q⟩
 ·obtain ⟨u,rfl,t,rfl⟩:=vals1 r
  exact call_int_int ⟨.int i,H,I,⟨_,rfl⟩,q⟩
 ·obtain ⟨u,rfl,r1⟩:=vals1 r
  cases r1
  exact call_int_bool ⟨.int (if k then 1 else 0),H,I.tok _,⟨_,rfl⟩,q⟩
theorem oR:ef X (.type "str") (fun xs H Q=>∃ i,xs=[.int i]/\i.natAbs.log2 < 1920/\Q (.str (toString i)) H):=by
 intro pins s σ H xs us Q I r h
 obtain ⟨i,rfl,hz,q⟩:=h
 obtain ⟨u,rfl,t,rfl⟩:=vals1 r
 exact PySem.P.str_of_int hz ⟨.str _,H,I.tok _,⟨_,rfl⟩,q⟩
end
end L2
namespace L2
open PySem PySem.Spec PyProof.Rows
structure rT (h:Heap) (x dx C:M9) (mA:Str->Option MZ):Prop where
 obj:h.get? x=some (Oq C dx)
 ns:h.Ns1 dx mA
 ne:dx≠x
theorem vF {h:Heap}{dx:M9}{mA:Str->Option MZ} (n:h.Ns1 dx mA):∃ od,h.get? dx=some od/\∀ name,Qi name od=some (mA name):=by
 obtain ⟨o,es,ep,ho,hd,hk,_,hm⟩:=n
 refine ⟨o,ho,fun name=>?_⟩
 have e:=hm name
 unfold nsFind findBy at e
 rw[← Array.find?_toList] at e
 unfold Qi
 rw[hd]
 dsimp only
 split
 ·rename_i y q
  rw[q] at e
  exact congrArg some e
 ·rename_i q
  rw[q] at e
  have a:es.toList.any (·.refKey)=false:=by
   rw[List.any_eq_false]
   intro y hy
   obtain ⟨z,t,hkey⟩:=hk y (Array.mem_toList_iff.mp hy)
   simp[DictEntry.refKey,hkey]
  have a':¬ es.toList.any (·.refKey)=true:=by rw[a];exact NN
  rw[if_neg a']
  exact congrArg some e
theorem rT.look {h:Heap}{x dx C:M9}{mA:Str->Option MZ} (I:rT h x dx C mA):∃ od,PySem.W.InstAt h x (Oq C dx) C (some od)/\∀ name,Qi name od=some (mA name) :=
 let ⟨od,ho,hl⟩:=vF I.ns
 ⟨od,⟨I.obj,rfl,rfl,ho⟩,hl⟩
section
variable {prog:Nk}{w:Nz}{A:NT}{E:MZ->M0->Prop}{s:M0}{K:MV}{x dx C f:M9}{mA:Str->Option MZ}{name:Str}{v:MZ}
theorem get_map {expr:Bool}{Q:MZ->M0->Prop} (X:K.In s.heap) (I:rT s.heap x dx C mA) (hg:Pe K C name=true) (hh:OJ K C=true)
 (ha:NB K (.ref C) name=some none) (hv:mA name=some v) (hv':SL v=true) (h:Q v { s with toks:=s.toks+1 }) :
 wpAny (Nv prog w) A (getAttr (.ref x) name expr) Q E s:=by
 obtain ⟨od,J,hl⟩:=I.look
 exact PySem.W.get_value X J (Qo hg).1 (PySem.W.findObj_own hh ha rfl (by rw[hl,hv])) hv' h
theorem xA {pl:Sem Bool}{Q:MZ×List MZ->M0->Prop} (X:K.In s.heap) (I:rT s.heap x dx C mA) (hg:Pe K C name=true)
 (hf:NB K (.ref C) name=some (some (.ref f))) (ht:QF K (.ref f)=true) (hv:mA name=none) (h:Q (.ref f,[.ref x]) s) :
 wpAny (Nv prog w) A (R0 (.ref x) name pl) Q E s:=by
 obtain ⟨od,J,hl⟩:=I.look
 exact PySem.W.method_fn X J (Qo hg).1 (Qo hg).2 hf (beq_iff_eq.mp ht) (by show (Qi name od).map (·.isSome)=some false;rw[hl,hv];rfl) h
theorem Ay {ns:List Str}{Q:Unit->M0->Prop} (X:K.In s.heap) (I:rT s.heap x dx C mA)
 (hs:NB K (.ref C) "__setattr__"=some (some (.builtin "object.__setattr__"))) (hp:QC K C=true) (ht:QU K C name=some none) (hh:OJ K C=true)
 (hw:Sa mA ns) (hsz:ns.length<=sizeLine)
 (h:∀ h',rT h' x dx C (fun y=>if y=name then some v else mA y)->NL dx s.heap h'->Q () { s with heap:=h',toks:=s.toks+2 }) :
 wpAny (Nv prog w) A (setAttr (.ref x) name v) Q E s:=by
 obtain ⟨od,J,hl⟩:=I.look
 refine PySem.W.set_plain X J hs (PySem.W.osa_open (s:={ s with toks:=s.toks+1 }) (r:=none) X J hp ht fun b=>?_)
 obtain ⟨cd,hc,hd'⟩:=PySem.W.any_some hh
 have hx:s.heap.get? x=some ⟨.ref C,some dx,.plain,#[]⟩:=I.obj
 refine MW (wpAny_pure (MW (MW (wpAny_loadPart hx (MW (PySem.W.Looks.here (s:={ s with toks:=s.toks+1 }) (PySem.W.looks_clsIn X hc) ?_))))))
 rw[hd']
 refine wpAny_pure (a:=some dx) (MW (wpAny_pure (MW ?_)))
 refine wpAny_nsSet1 (s:={ s with toks:=s.toks+1 }) I.ns fun h' hn2 hs2=>?_
 obtain ⟨oD,esD,epD,hoD,hdD,hcD⟩:=hn2.count (PySem.Within.cons name v hw)
 refine MW (wpAny_lookBehind hoD (by rw[hdD];exact pastItsLine_dict (Nx hcD (by rw[Ni];lia))) ?_)
 exact wpAny_pure (h _ ⟨(hs2.2 _ (Qe I.ne)).trans I.obj,hn2,I.ne⟩ hs2)
theorem xB {R:Result->M0->Prop}{vs:List MZ}{kw:List (Str×MZ)} (X:K.In s.heap) (hm:QV K C=true)
 (hi:NB K (.ref C) "__init__"=some (some (.ref f))) (hf:PySem.W.typeIn K (.ref f)=some (.type "function"))
 (h:codeAny (Nv prog w) (A.under (.builtin "type.__call__" ⟨.ref C :: vs,kw⟩)) (.call (.ref f) ⟨.ref (s.heap.objs.size+1) :: vs,kw⟩) (PySem.W.InitBack (s.heap.objs.size+1) R)
  { s with heap:=(s.heap.push N4).push (Oq C s.heap.objs.size) }) :
 codeAny (Nv prog w) A (.call (.ref C) ⟨vs,kw⟩) R s:=by
 obtain ⟨hh,g,d,t,os⟩:=s
 exact PySem.W.make_core (PySem.W.makes_of X hm) (PySem.W.looks_findIn X hi) (fun self=>PySem.W.bind_fn X self hf) (.inl rfl) h
end
noncomputable def d8 (f:Str) (v:V):List (Str×V)->List (Str×V)
 | []=>[(f,v)]
 | (g,x) :: r=>if g=f then (g,v) :: r else (g,x) :: d8 f v r
theorem kG (f g:Str) (v:V):∀ fs:List (Str×V),(d8 f v fs).lookup g=if g=f then some v else fs.lookup g
 | []=>by
  show OX g [(f,v)]=_
  by_cases h:g=f
  ·have hb:(g==f)=true:=beq_iff_eq.mpr h
   simp only[OX,hb,if_pos h]
  ·have hb:(g==f)=false:=beq_eq_false_iff_ne.mpr h
   simp only[OX,hb,if_neg h]
 | (k,x) :: r=>by
  have ih:=kG f g v r
  rw[show d8 f v ((k,x) :: r)=(if k=f then (k,v) :: r else (k,x) :: d8 f v r) from rfl]
  by_cases hk:k=f
  ·rw[if_pos hk]
   by_cases h:g=k
   ·have hb:(g==k)=true:=beq_iff_eq.mpr h
    simp only[OX,hb,if_pos (h.trans hk)]
   ·have hb:(g==k)=false:=beq_eq_false_iff_ne.mpr h
    simp only[OX,hb,if_neg (fun e:g=f=>h (e.trans hk.symm))]
  ·rw[if_neg hk]
   by_cases h:g=k
   ·have hb:(g==k)=true:=beq_iff_eq.mpr h
    simp only[OX,hb,if_neg (fun e:g=f=>hk (h.symm.trans e))]
   ·have hb:(g==k)=false:=beq_eq_false_iff_ne.mpr h
    simp only[OX,hb]
    exact ih
theorem j4 (f:Str) (v:V):∀ fs:List (Str×V),f∈(d8 f v fs).map (·.1)/\∀ g,g∈fs.map (·.1)->g∈(d8 f v fs).map (·.1)
 | []=>⟨by simp[d8],fun g h=>by simp at h⟩
 | (k,x) :: r=>by
  obtain ⟨i1,i2⟩:=j4 f v r
  rw[show d8 f v ((k,x) :: r)=(if k=f then (k,v) :: r else (k,x) :: d8 f v r) from rfl]
  by_cases hk:k=f
  ·rw[if_pos hk]
   subst hk
   exact ⟨by simp,fun g h=>by simpa using h⟩
  ·rw[if_neg hk]
   refine ⟨?_,fun g h=>?_⟩
   ·rw[NF]
    exact M1 _ i1
   ·rw[NF] at h ⊢
    rcases List.mem_cons.mp h with e | e
    ·exact List.mem_cons.mpr (.inl e)
    ·exact M1 _ (i2 g e)
theorem kH (f:Str) (v:V):∀ fs:List (Str×V),(d8 f v fs).length<=fs.length+1
 | []=>by simp[d8]
 | (k,x) :: r=>by
  have ih:=kH f v r
  rw[show d8 f v ((k,x) :: r)=(if k=f then (k,v) :: r else (k,x) :: d8 f v r) from rfl]
  by_cases hk:k=f
  ·rw[if_pos hk,Ni,Ni];lia
  ·rw[if_neg hk,Ni,Ni];lia
theorem lI.some_of {v:V}{o:Option MZ} (r:lI (some v) o):∃ u,o=some u/\RelV v u:=by
 cases o with
 | none=>exact (show False from r).elim
 | some u=>exact ⟨u,rfl,r⟩
theorem lI.none_of {o:Option MZ} (r:lI none o):o=none:=by
 cases o with
 | none=>rfl
 | some u=>exact (show False from r).elim
theorem vG {v:V}{u:MZ} (r:RelV v u):SL u=true:=by
 cases v with
 | non=>cases (show u=O8 from r);rfl
 | bl b=>cases (show u=PY b from r);rfl
 | int i=>obtain ⟨t,e⟩:=(show ∃ t,u=QB i t from r);cases e;rfl
 | str x=>obtain ⟨t,e⟩:=(show ∃ t,u=R8 x t from r);cases e;rfl
 | byt b=>obtain ⟨t,e⟩:=(show ∃ t,u=Value.bytes b t from r);cases e;rfl
 | flt b=>obtain ⟨t,e⟩:=(show ∃ t,u=Value.float b t from r);cases e;rfl
 | ref a=>cases (show u=Of a from r);rfl
 | ty n=>cases (show u=Value.type n from r);rfl
section
variable {P:Nk}{w:Nz}{H H':Hp}{h h':Heap}{a C dx:M9}{fs fs':List (Str×V)}
theorem oS (hok:HOk P w H h) (e:H a=some (.ins C dx fs)):∃ mA,rT h a dx C mA/\(∀ f,lI (fs.lookup f) (mA f))/\Sa mA (fs.map (·.1))/\fs.length<=1000/\H dx=some (.own a):=by
 obtain ⟨d,z,ne,ob,mA,n,r,q⟩:=(show fy P w H h a (.ins C dx fs) from hok a _ e)
 exact ⟨mA,⟨ob,n,ne⟩,r,q,z,d⟩
end
structure Cls (K:MV) (C:M9):Prop where
 pg:Pe K C Str.empty=true
 hd:OJ K C=true
 po:QC K C=true
 sa:NB K (.ref C) "__setattr__"=some (some (.builtin "object.__setattr__"))
theorem Cls.get {K:MV}{C:M9} (c:Cls K C) (f:Str):Pe K C f=true:=c.pg
noncomputable def ig (K:MV) (C:M9) (f:Str):Prop:=NB K (.ref C) f=some none
theorem ig.G5 {K:MV}{C:M9}{f:Str} (n:ig K C f):QU K C f=some none:=by
 unfold QU
 rw[show NB K (.ref C) f=some none from n]
 rfl
structure xC (K:MV) (C:M9) (m:Str) (f:M9):Prop where
 at_:NB K (.ref C) m=some (some (.ref f))
 fn:QF K (.ref f)=true
 kp:N6 K (.ref f)=true
section
variable {X:Cx}{pins:List (M9×Obj)}{σ:St}{H:Hp}{s:M0}{a C dx:M9}{fs:List (Str×V)}{f:Str}{v:V}{A:NT}{E:MZ->M0->Prop}
theorem lM {b:Bool}{Q:MZ->M0->Prop} (I:Inv X pins σ H s) (e:H a=some (.ins C dx fs)) (c:Cls X.K C) (n:ig X.K C f) (l:fs.lookup f=some v)
 (h:∀ u s',Inv X pins σ H s'->RelV v u->Q u s'):wpAny (Nv X.prog X.w) A (getAttr (.ref a) f b) Q E s:=by
 obtain ⟨mA,O,r,_,_,_⟩:=oS I.hok e
 obtain ⟨u,hu,ru⟩:=lI.some_of (v:=v) (o:=mA f) (by rw[← l];exact r f)
 exact get_map I.kIn O (c.get f) c.hd n hu (vG ru) (h u _ (I.tok _) ru)
theorem lN {m:Str}{g:M9}{pl:Sem Bool}{Q:MZ×List MZ->M0->Prop} (I:Inv X pins σ H s) (e:H a=some (.ins C dx fs)) (c:Cls X.K C) (k:xC X.K C m g) (l:fs.lookup m=none)
 (h:Q (.ref g,[.ref a]) s):wpAny (Nv X.prog X.w) A (R0 (.ref a) m pl) Q E s:=by
 obtain ⟨mA,O,r,_,_,_⟩:=oS I.hok e
 have hn:mA m=none:=lI.none_of (by rw[← l];exact r m)
 exact xA I.kIn O (c.get m) k.at_ k.fn hn h
theorem lO {y:V}{u:MZ}{Q:Unit->M0->Prop} (I:Inv X pins σ H s) (e:H a=some (.ins C dx fs)) (c:Cls X.K C) (n:ig X.K C f) (hl:fs.length < 1000) (ry:RelV y u)
 (h:∀ s',Inv X pins σ (upd H a (.ins C dx (d8 f y fs))) s'->Q () s'):wpAny (Nv X.prog X.w) A (setAttr (.ref a) f u) Q E s:=by
 obtain ⟨mA,O,r,wi,_,ho⟩:=oS I.hok e
 have hz:(fs.map (·.1)).length<=sizeLine:=by rw[Nd,QS];lia
 refine Ay I.kIn O c.sa c.po n.G5 c.hd wi hz fun h' O' sb=>h _ ?_
 have hd:∃ o,h'.get? dx=some o:=let ⟨o,_,_,e',_⟩:=O'.ns;⟨o,e'⟩
 refine I.write (x:=a) (e:=dx) (by rw[e];exact OY) (.inr ho) (fun b q hb z=>(sb.2 b hb).trans z) hd ?_
 refine ⟨by rw[c5 O.ne];exact ho,?_,O.ne,O'.obj,_,O'.ns,fun g=>?_,fun g hg=>?_⟩
 ·have:=kH f y fs;lia
 ·show lI ((d8 f y fs).lookup g) (if g=f then some u else mA g)
  rw[kG]
  by_cases q:g=f
  ·rw[if_pos q,if_pos q];exact ry
  ·rw[if_neg q,if_neg q];exact r g
 ·by_cases q:g=f
  ·rw[q];exact (j4 f y fs).1
  ·refine (j4 f y fs).2 g (wi g fun z=>hg ?_)
   show (if g=f then some u else mA g)=none
   rw[if_neg q];exact z
theorem Inv.made (I:Inv X pins σ H s):Inv X pins σ (upd (upd H s.heap.objs.size (.own (s.heap.objs.size+1))) (s.heap.objs.size+1) (.ins C s.heap.objs.size []))
 { s with heap:=(s.heap.push N4).push (Oq C s.heap.objs.size) }:=by
 have e1:(s.heap.push N4).get? s.heap.objs.size=some N4:=Nh s.heap rfl
 have e2:((s.heap.push N4).push (Oq C s.heap.objs.size)).get? (s.heap.objs.size+1)=some (Oq C s.heap.objs.size):=by
  have:=Nh (s.heap.push N4) (o:=Oq C s.heap.objs.size) rfl
  rwa [OS] at this
 have e3:(s.heap.push N4).Ns s.heap.objs.size (fun _=>none):=⟨N4,#[],_,e1,rfl,(fun e he=>absurd he (by simp)),fun _=>rfl⟩
 have I1:=I.laid (a:=s.heap.objs.size) (o:=.own (s.heap.objs.size+1)) (h':=s.heap.push N4) (t':=s.toks) (fun b u q=>MY _ q) (Nb _) ⟨_,e1⟩
 refine I1.laid (a:=s.heap.objs.size+1) (o:=.ins C s.heap.objs.size []) (t':=s.toks) (fun b u q=>MY _ q) (Nat.le_of_eq (OS _ _)) ?_
 have ne:s.heap.objs.size≠s.heap.objs.size+1:=Nt (OW _)
 refine ⟨by rw[c5 ne,dR],Py _,ne,e2,fun _=>none,(Heap.Ns1.of_empty e3).at fun o q=>MY _ q,fun _=>OY,fun y hy=>absurd rfl hy⟩
theorem Az {prog:Nk}{w:Nz}{env:Env}{e:Pr}{f:Str}{pos:Pos}{s:M0}{Q:MZ->M0->Prop} (hb:Qn e f env (eval e env)=eval e env)
 (h:wpAny (Nv prog w) A (eval e env) (fun o s₁=>wpAny (Nv prog w) A (getAttr o f true) Q E s₁) E s):wpAny (Nv prog w) A (eval (.Attribute e f pos) env) Q E s :=
 Attribute_any_ h (by rw[arm_eval_Attribute,hb])
end
noncomputable def KA (K:MV) (ta:TE) (f:Str):TE:=fun σ H Q=>ta σ H fun x H1=>∃ a C dx fs v,x=.ref a/\H1 a=some (.ins C dx fs)/\Cls K C/\ig K C f/\fs.lookup f=some v/\Q v H1
noncomputable def G6 (K:MV) (ta tv:TE) (f:Str):TS:=fun D σ H=>tv σ H fun y H1=>ta σ H1 fun x H2=>∃ a C dx fs,x=.ref a/\H2 a=some (.ins C dx fs)/\Cls K C/\ig K C f/\fs.length < 1000 ∧
 D.nx σ (upd H2 a (.ins C dx (d8 f y fs)))
noncomputable def KB (X:Cx) (op:P8) (rd:V->V->Hp->VK->Prop):Prop :=
 ∀ (pins:List (M9×Obj)) (s:M0) (σ:St) (H:Hp) (x y:V) (u v:MZ) (Q:VK),Inv X pins σ H s->RelV x u->RelV y v->rd x y H Q->wpAny (Nv X.prog X.w) X.A (inplaceOp op u v) (EP X pins σ Q) X.xe s
noncomputable def ua (K:MV) (ta tv:TE) (rd:V->V->Hp->VK->Prop) (f:Str):TS:=fun D σ H=>ta σ H fun x H1=>∃ a C dx fs v,x=.ref a/\H1 a=some (.ins C dx fs)/\Cls K C/\ig K C f/\fs.lookup f=some v ∧
 tv σ H1 fun y H2=>rd v y H2 fun z H3=>∃ dx' fs',H3 a=some (.ins C dx' fs')/\fs'.length < 1000/\D.nx σ (upd H3 a (.ins C dx' (d8 f z fs')))
section
variable {X:Cx}{o e value:Pr}{f:Str}{pos pos' tpos:Pos}{ta tv:TE}
theorem DW (he:PE X e ta) (hb:Qn e f X.env (eval e X.env)=eval e X.env):PE X (.Attribute e f pos) (KA X.K ta f):=by
 intro pins s σ H Q I h
 refine Az hb (thn (he pins s σ H _ I h) fun u s1 zq=>?_)
 obtain ⟨x,H1,I1,rx,a,C,dx,fs,v,ex,ea,c,n,l,q⟩:=zq
 subst ex
 obtain rfl:u=Of a:=rx
 exact lM I1 ea c n l fun u' s2 I2 ru=>⟨v,H1,I2,ru,q⟩
theorem DX (ha:PE X o ta) (hv:PE X value tv) (hs:PU value (some (.Attribute o f pos')) pos.line X.env=pure false):PS X (.Assign [.Attribute o f pos'] value pos) (G6 X.K ta tv f):=by
 intro pins s σ H D I h
 refine plainObj_wpAny_Assign_Attribute (thn (hv pins s σ H _ I h) fun u s1 ⟨y,H1,I1,ry,q⟩=>thn (ha pins s1 σ H1 _ I1 q) fun ov s2 ⟨x,H2,I2,rx,a,C,dx,fs,ex,ea,c,n,l,q2⟩=>?_) hs
 subst ex
 obtain rfl:ov=Of a:=rx
 exact lO I2 ea c n l ry fun s3 I3=>⟨σ,_,I3,q2⟩
theorem vH {op:P8}{rd:V->V->Hp->VK->Prop} (ha:PE X o ta) (hv:PE X value tv) (hop:KB X op rd):PS X (.AugAssign (.Attribute o f tpos) op value pos) (ua X.K ta tv rd f):=by
 intro pins s σ H D I h
 refine wpAny_AugAssign_AttributeAny (thn (ha pins s σ H _ I h) fun ov s1 zq=>?_)
 obtain ⟨x,H1,I1,rx,a,C,dx,fs,v,ex,ea,c,n,l,q⟩:=zq
 subst ex
 obtain rfl:ov=Of a:=rx
 refine lM I1 ea c n l fun u s2 I2 ru=>thn (hv pins s2 σ H1 _ I2 q) fun w3 s3 ⟨y,H2,I3,ry,q3⟩=>thn (hop pins s3 σ H2 v y u w3 _ I3 ru ry q3) fun w4 s4 zq=>?_
 obtain ⟨z,H3,I4,rz,dx',fs',ea',l',q4⟩:=zq
 exact lO I4 ea' c n l' rz fun s5 I5=>⟨σ,_,I5,q4⟩
end
section
variable {X:Cx}{pins:List (M9×Obj)}{σ:St}{H:Hp}{s:M0}{A:NT}{E:MZ->M0->Prop}{Q:MZ->M0->Prop}{c:MZ}{b:Bool}
end
end L2
namespace L2
open PySem PySem.Spec PyProof.Rows
structure eH (k:Nat) (A:NT):Prop where
 hd:A.handled=none
 dp:A.depth+3*k+5 < recursionLimit
 un:A.units+16*k+200 < cLine
theorem eH.mono {j k:Nat}{A:NT} (r:eH k A) (h:j<=k):eH j A:=⟨r.hd,by have:=r.dp;lia,by have:=r.un;lia⟩
theorem eH.deeper {k:Nat}{A:NT} (r:eH (k+1) A) (env:Env):eH k (A.deeper env) :=
 ⟨r.hd,by have:=r.dp;show A.depth+1+3*k+5 < _;lia,by have:=r.un;show A.units+3+16*k+200 < _;lia⟩
theorem rV {A:NT}{C:M9}{us:List MZ}{kw:List (Str×MZ)}:(A.under (.builtin "type.__call__" ⟨.ref C :: us,kw⟩)).depth=A.depth+1:=by
 first | rfl | simp[RY,Code.weight,Code.isCreation,Code.isGuard,Code.isCaller,Code.frames,Sv,guardIds]
theorem rW {A:NT}{C:M9}{us:List MZ}{kw:List (Str×MZ)}:(A.under (.builtin "type.__call__" ⟨.ref C :: us,kw⟩)).units=A.units+1:=by
 first | rfl | simp[RY,Code.cUnits,Code.frames,Sv]
theorem eH.make {k:Nat}{A:NT} (r:eH (k+1) A) (C:M9) (us:List MZ) (kw:List (Str×MZ)):eH k (A.under (.builtin "type.__call__" ⟨.ref C :: us,kw⟩)) :=
 ⟨r.hd,by have:=r.dp;rw[rV];lia,by have:=r.un;rw[rW];lia⟩
theorem eH.depth {k:Nat}{A:NT} (r:eH k A):A.depth < recursionLimit:=by have:=r.dp;lia
noncomputable def xD:TA:=fun _ H Q=>Q [] H
noncomputable def CY (ta:TE) (tr:TA):TA:=fun σ H Q=>ta σ H fun x H1=>tr σ H1 fun xs H2=>Q (x :: xs) H2
section
variable {X:Cx}{e:Pr}{es:List Pr}{te:TE}{t:TA}{pos:Pos}
theorem oU:PA X [] xD:=fun _ _ _ _ H Q I h=>Calls.spliced_nil ⟨[],H,I,.nil,h⟩
theorem gA (ha:PE X e te) (hr:PA X es t) (hs:NG (e :: es) X.env=(false,eval e X.env) :: NG es X.env:=by rfl):PA X (e :: es) (CY te t):=by
 intro pos pins s σ H Q I h
 rw[hs]
 show wpAny _ _ (spliced ((false,eval e X.env) :: Po pos (NG es X.env))) _ _ s
 refine Calls.spliced_cons (thn (ha pins s σ H _ I h) fun u s1 zq=>?_)
 obtain ⟨x,H1,I1,r1,q1⟩:=zq
 exact thn (hr pos pins s1 σ H1 _ I1 q1) fun us s2 ⟨xs,H2,I2,r2,q2⟩=>⟨x :: xs,H2,I2,.cons r1 r2,q2⟩
noncomputable def G7 (t:TA):TE:=fun σ H Q=>t σ H fun xs H1=>xs.length<=sizeLine/\∀ p,H1 p=none->Q (.ref p) (upd H1 p (.tup xs))
noncomputable def G8 (t:TA):TE:=fun σ H Q=>t σ H fun xs H1=>xs.length<=sizeLine/\∀ p,H1 p=none->Q (.ref p) (upd H1 p (.lst xs))
theorem DY {x1} (h:PA X es t):PE X (.Tuple es x1 pos) (G7 t):=by
 intro pins s σ H Q I hq
 refine wpAny_Tuple_spliced (thn (h pos pins s σ H _ I hq) fun us s1 ⟨xs,H1,I1,r,z,q⟩=>⟨by rw[← r.length];exact z,?_⟩)
 have hf:H1 s1.heap.objs.size=none:=I1.hok.fresh (Nb _)
 refine ⟨.ref s1.heap.objs.size,upd H1 s1.heap.objs.size (.tup xs),I1.laid (t':=s1.toks) (fun b u e=>MY _ e) (Nb _) ?_,rfl,q _ hf⟩
 exact ⟨z,us,r,⟨_,Nh _ rfl,rfl,_,rfl⟩⟩
theorem DZ (h:PA X es t):PE X (.List es pos) (G8 t):=by
 intro pins s σ H Q I hq
 refine wpAny_List_spliced (thn (h pos pins s σ H _ I hq) fun us s1 ⟨xs,H1,I1,r,z,q⟩=>⟨by rw[← r.length];exact z,?_⟩)
 have hf:H1 s1.heap.objs.size=none:=I1.hok.fresh (Nb _)
 refine ⟨.ref s1.heap.objs.size,upd H1 s1.heap.objs.size (.lst xs),I1.laid (t':=s1.toks) (fun b u e=>MY _ e) (Nb _) ?_,rfl,q _ hf⟩
 exact ⟨z,us,0,r,Nh _ rfl⟩
end
noncomputable abbrev Sp:=List V->Hp->VK->XK->Prop
noncomputable abbrev CXT:=List Env->Hp->M0->XK->MZ->M0->Prop
structure oV (P:Nk) (w:Nz) (K:MV) (mg:Str->Option MZ) (base:Heap) (A:NT) (outer:List Env) (s:M0) (H:Hp):Prop where
 frames:A.frames=some outer
 mod:Mod K mg base
 bs:∀ b o,base.get? b=some o->s.heap.get? b=some o/\H b=none
 bsz:base.objs.size<=s.heap.objs.size
 ju:s.heap.FunFrames base outer
 frf:∀ b∈frs outer,H b=none
 hok:HOk P w H s.heap
 bare:Sk s.gens
inductive CE (outer:List Env) (P:Nk) (w:Nz) (H:Hp) (s:M0) (Q:VK) (u:MZ) (s':M0):Prop where
 | mk (v:V) (H':Hp) (os:s'.os=s.os) (b:Sk s'.gens) (un:Un (frs outer) [] H H' s.heap s'.heap) (hk:HOk P w H' s'.heap) (r:RelV v u) (q:Q v H'):CE outer P w H s Q u s'
noncomputable def CR (CX:CXT) (outer:List Env) (P:Nk) (w:Nz) (H:Hp) (s:M0) (Q:VK) (E:XK) (r:Result) (s':M0):Prop :=
 match r with
 | .ok (.ret u)=>CE outer P w H s Q u s'
 | .ok _=>False
 | .error e=>CX outer H s E e s'
structure gB (P:Nk) (w:Nz) (K:MV) (mg:Str->Option MZ) (base:Heap) (CX:CXT) (k:Nat) (f:M9) (fd:Oz) (ps:List Str) (sp:Sp):Prop where
 len:∀ vs H Q E,sp vs H Q E->vs.length=ps.length
 run:∀ (A:NT) (outer:List Env) (s:M0) (H:Hp) (args:Args) (us:List MZ) (vs:List V) (Q:VK) (E:XK),eH k A->oV P w K mg base A outer s H->BindsTo s fd args (ps.zip us)->cX vs us->sp vs H Q E →
  codeAny (Nv P w) A (.call (.ref f) args) (CR CX outer P w H s Q E) s
theorem oV.make {P:Nk}{w:Nz}{K:MV}{mg:Str->Option MZ}{base:Heap}{A:NT}{outer:List Env}{s:M0}{H:Hp} (e:oV P w K mg base A outer s H) (C:M9) (us:List MZ) (kw:List (Str×MZ)) :
 oV P w K mg base (A.under (.builtin "type.__call__" ⟨.ref C :: us,kw⟩)) outer s H:=⟨by first | exact e.frames | (simpa [RY,Code.envs,Sv,pushEnvs] using e.frames),e.mod,e.bs,e.bsz,e.ju,e.frf,e.hok,e.bare⟩
section
variable {X:Cx}{pins:List (M9×Obj)}{σ:St}{H:Hp}{s s':M0}
theorem Inv.G9 (I:Inv X pins σ H s):oV X.prog X.w X.K X.mg X.base X.A X.stack s H :=
 ⟨I.ok.frames,I.ok.mod,I.bs,Nx I.ok.bsz I.sz,I.stack,I.tS,I.hok,I.bare⟩
theorem Inv.after {Q:VK}{u:MZ} (I:Inv X pins σ H s) (h:CE X.stack X.prog X.w H s Q u s'):EP X pins σ Q u s':=by
 obtain ⟨v,H',os,bare,un,hok,r,q⟩:=h
 obtain ⟨hh,g,d,t,os'⟩:=s'
 obtain rfl:os'=s.os:=os
 exact ⟨v,H',I.call (h':=hh) (g':=g) (d':=d) (t':=t) (ch:=[]) un hok bare (fun b z=>absurd z (by simp)),r,q⟩
end
noncomputable def xE (sp:Sp) (dvs:List V) (E:XK) (t:TA):TE:=fun σ H Q=>t σ H fun vs H1=>sp (vs++dvs) H1 Q E
noncomputable def xF (C:M9) (m:Str) (sp:Sp) (dvs:List V) (E:XK) (ta:TE) (t:TA):TE:=fun σ H Q=>ta σ H fun x H1=>∃ a dx fs,x=.ref a/\H1 a=some (.ins C dx fs)/\fs.lookup m=none ∧
 t σ H1 fun vs H2=>sp (x :: (vs++dvs)) H2 Q E
noncomputable def xG (C:M9) (sp:Sp) (dvs:List V) (E:XK) (t:TA):TE:=fun σ H Q=>t σ H fun vs H1=>∀ x dx,H1 x=none->H1 dx=none->dx≠x →
 sp (.ref x :: (vs++dvs)) (upd (upd H1 dx (.own x)) x (.ins C dx [])) (fun v H2=>v=.non/\Q (.ref x) H2) E
noncomputable def Binds (K:MV) (fd:Oz) (ps:List Str) (ds:List MZ):Prop :=
 ∀ (s:M0) (us:List MZ),K.In s.heap->(us++ds).length=ps.length->BindsTo s fd ⟨us,[]⟩ (ps.zip (us++ds))
theorem Binds.all {K:MV}{fd:Oz}{ps:List Str} (h:∀ us:List MZ,us.length=ps.length->S7 fd ⟨us,[]⟩=pure (ps.zip us)):Binds K fd ps []:=fun s us _ hl=>by
 rw[Oi] at hl ⊢
 exact .of_eq (h us hl)
noncomputable def gC (CX:CXT) (X:Cx) (E:XK):Prop:=∀ (pins:List (M9×Obj)) (σ:St) (H:Hp) (s:M0) (e:MZ) (s':M0),Inv X pins σ H s->CX X.stack H s E e s'->X.xe e s'
section
variable {X:Cx}{CX:CXT}{k:Nat}{f C:M9}{fd:Oz}{ps:List Str}{sp:Sp}{dvs:List V}{ds:List MZ}{E:XK}{x m:Str}{p pos apos:Pos}{e o:Pr}{es:List Pr}{ta:TE}{t:TA}
theorem oW {pins:List (M9×Obj)}{σ:St}{H:Hp}{s:M0}{Q:VK}{us:List MZ}{vs:List V} (F:gB X.prog X.w X.K X.mg X.base CX k f fd ps sp) (hr:eH k X.A) (hb:Binds X.K fd ps ds) (hd:cX dvs ds) (hx:gC CX X E)
 (I:Inv X pins σ H s) (r:cX vs us) (h:sp (vs++dvs) H Q E):wpAny (Nv X.prog X.w) X.A (call (.ref f) us) (EP X pins σ Q) X.xe s:=by
 have r2:cX (vs++dvs) (us++ds):=r.append hd
 have hl:(us++ds).length=ps.length:=by rw[← r2.length];exact F.len _ _ _ _ h
 refine wpAny_call (Ry (F.run X.A X.stack s H ⟨us,[]⟩ (us++ds) (vs++dvs) Q E hr I.G9 (hb s us I.kIn hl) r2 h) fun r s' hq=>?_)
 cases r with
 | error e=>exact hx pins σ H s e s' I hq
 | ok fl =>
  cases fl with
  | ret u=>exact I.after hq
  | next=>exact Od hq
  | brk=>exact Od hq
  | cont=>exact Od hq
theorem AA (F:gB X.prog X.w X.K X.mg X.base CX k f fd ps sp) (hr:eH k X.A) (hg:Gl X x) (hm:X.mg x=some (.ref f)) (hk:N6 X.K (.ref f)=true) (hb:Binds X.K fd ps ds) (hd:cX dvs ds) (hx:gC CX X E)
 (ha:PA X (e :: es) t) (hdb:(x==("__debug__":Str))=false:=by decide) (he:NG (e :: es) X.env=(false,eval e X.env) :: NG es X.env:=by rfl) (hpl:(Po pos (NG es X.env)).any (·.1)=false:=by rfl) :
 PE X (.Call (.Name x p) (e :: es) [] pos) (xE sp dvs E t):=by
 intro pins s σ H Q I h
 refine OP (jv I hg hm ?_ hdb)
 refine Qv (h₀:=X.base) I.ok.mod.kin hk (thn (ha pos pins s σ H _ I h) fun us s1 ⟨vs,H1,I1,r,q⟩=>⟨I1.kIn,?_⟩) he hpl
 exact oW F hr hb hd hx I1 r q
theorem xH (F:gB X.prog X.w X.K X.mg X.base CX k f fd ps sp) (hr:eH k X.A) (hg:Gl X x) (hm:X.mg x=some (.ref f)) (hk:N6 X.K (.ref f)=true) (hb:Binds X.K fd ps ds) (hd:cX dvs ds) (hx:gC CX X E)
 (hdb:(x==("__debug__":Str))=false:=by decide):PE X (.Call (.Name x p) [] [] pos) (xE sp dvs E xD):=by
 intro pins s σ H Q I h
 refine OP (jv I hg hm ?_ hdb)
 exact Qp I.kIn hk (oW (us:=[]) F hr hb hd hx I .nil h)
theorem AB {pl:Sem Bool} (he:PE X o ta) (c:Cls X.K C) (hm:xC X.K C m f) (F:gB X.prog X.w X.K X.mg X.base CX k f fd ps sp) (hr:eH k X.A) (hb:Binds X.K fd ps ds) (hd:cX dvs ds) (hx:gC CX X E) (ha:PA X (e :: es) t)
 (hst:NG (e :: es) X.env=(false,eval e X.env) :: NG es X.env:=by rfl) (hpl:(Po pos (NG es X.env)).any (·.1)=false:=by rfl)
 (ht:eval (.Call (.Attribute o m apos) (e :: es) [] pos) X.env=(do
  let ov ← eval o X.env
  RZ apos.atName
  let (f,first) ← Ql [ov] (R0 ov m pl)
  callWith pos f first (Po pos (NG (e :: es) X.env)) (Q8 pos (PX [] X.env))):=by rfl) :
 PE X (.Call (.Attribute o m apos) (e :: es) [] pos) (xF C m sp dvs E ta t):=by
 intro pins s σ H Q I h
 refine RN (pl:=pl) (thn (he pins s σ H _ I h) fun u s1 ⟨x,H1,I1,rx,a,dx,fs,ex,ea,l,q⟩=>?_) ht
 subst ex
 obtain rfl:u=Of a:=rx
 refine lN I1 ea c hm l ?_
 refine Qv (first:=[.ref a]) (h₀:=X.base) I.ok.mod.kin hm.kp (thn (ha pos pins s1 σ H1 _ I1 q) fun us s2 ⟨vs,H2,I2,r,q2⟩=>⟨I2.kIn,?_⟩) hst hpl
 exact oW (us:=.ref a :: us) (vs:=.ref a :: vs) F hr hb hd hx I2 (.cons rfl r) q2
theorem xJ {pl:Sem Bool} (he:PE X o ta) (c:Cls X.K C) (hm:xC X.K C m f) (F:gB X.prog X.w X.K X.mg X.base CX k f fd ps sp) (hr:eH k X.A) (hb:Binds X.K fd ps ds) (hd:cX dvs ds) (hx:gC CX X E)
 (ht:eval (.Call (.Attribute o m apos) [] [] pos) X.env=(do
  let ov ← eval o X.env
  RZ apos.atName
  let (f,first) ← Ql [ov] (R0 ov m pl)
  callWith pos f first (Po pos (NG [] X.env)) (Q8 pos (PX [] X.env))):=by rfl) :
 PE X (.Call (.Attribute o m apos) [] [] pos) (xF C m sp dvs E ta xD):=by
 intro pins s σ H Q I h
 refine RN (pl:=pl) (thn (he pins s σ H _ I h) fun u s1 ⟨x,H1,I1,rx,a,dx,fs,ex,ea,l,q⟩=>?_) ht
 subst ex
 obtain rfl:u=Of a:=rx
 refine lN I1 ea c hm l ?_
 exact Qp (first:=[.ref a]) I1.kIn hm.kp (oW (us:=[.ref a]) (vs:=[.ref a]) F hr hb hd hx I1 (.cons rfl .nil) q)
structure Mk (K:MV) (C f:M9):Prop where
 makes:QV K C=true
 init:NB K (.ref C) "__init__"=some (some (.ref f))
 fn:QF K (.ref f)=true
 kp:N6 K (.ref C)=true
theorem qA {pins:List (M9×Obj)}{σ:St}{H:Hp}{s:M0}{Q:VK}{us:List MZ}{vs:List V} (M:Mk X.K C f) (F:gB X.prog X.w X.K X.mg X.base CX k f fd ps sp) (hr:eH (k+1) X.A) (hb:Binds X.K fd ps ds) (hd:cX dvs ds)
 (hx:gC CX X E) (I:Inv X pins σ H s) (r:cX vs us)
 (h:∀ x dx,H x=none->H dx=none->dx≠x->sp (.ref x :: (vs++dvs)) (upd (upd H dx (.own x)) x (.ins C dx [])) (fun v H2=>v=.non/\Q (.ref x) H2) E) :
 wpAny (Nv X.prog X.w) X.A (call (.ref C) us) (EP X pins σ Q) X.xe s:=by
 have hq:=h (s.heap.objs.size+1) s.heap.objs.size (I.hok.fresh (Pz _)) (I.hok.fresh (Nb _)) (Nt (OW _))
 have I2:=Inv.made (C:=C) I
 have r2:cX (V.ref (s.heap.objs.size+1) :: (vs++dvs)) (Of (s.heap.objs.size+1) :: (us++ds)):=.cons rfl (r.append hd)
 have hl:(Of (s.heap.objs.size+1) :: us++ds).length=ps.length:=by
  have e:=r2.length
  rw[F.len _ _ _ _ hq] at e
  exact e.symm
 refine wpAny_call (xB (f:=f) I.kIn M.makes M.init (beq_iff_eq.mp M.fn) (Ry (F.run _ X.stack _ _ ⟨Of (s.heap.objs.size+1) :: us,[]⟩ (Of (s.heap.objs.size+1) :: (us++ds)) _ _ E (hr.make C us [])
  (I2.G9.make C us []) (hb _ (Of (s.heap.objs.size+1) :: us) I2.kIn hl) r2 hq) fun r s' hq'=>?_))
 cases r with
 | error e=>exact hx pins σ _ _ e s' I2 hq'
 | ok fl =>
  cases fl with
  | ret u =>
   obtain ⟨v,H',I3,rv,ev,q3⟩:=I2.after hq'
   subst ev
   exact ⟨rv,⟨V.ref (s.heap.objs.size+1),H',I3,rfl,q3⟩⟩
  | next=>exact Od hq'
  | brk=>exact Od hq'
  | cont=>exact Od hq'
theorem AC (M:Mk X.K C f) (F:gB X.prog X.w X.K X.mg X.base CX k f fd ps sp) (hr:eH (k+1) X.A) (hg:Gl X x) (hm:X.mg x=some (.ref C)) (hb:Binds X.K fd ps ds) (hd:cX dvs ds) (hx:gC CX X E)
 (ha:PA X (e :: es) t) (hdb:(x==("__debug__":Str))=false:=by decide) (he:NG (e :: es) X.env=(false,eval e X.env) :: NG es X.env:=by rfl) (hpl:(Po pos (NG es X.env)).any (·.1)=false:=by rfl) :
 PE X (.Call (.Name x p) (e :: es) [] pos) (xG C sp dvs E t):=by
 intro pins s σ H Q I h
 refine OP (jv I hg hm ?_ hdb)
 refine Qv (h₀:=X.base) I.ok.mod.kin M.kp (thn (ha pos pins s σ H _ I h) fun us s1 ⟨vs,H1,I1,r,q⟩=>⟨I1.kIn,?_⟩) he hpl
 exact qA M F hr hb hd hx I1 r q
theorem xK (M:Mk X.K C f) (F:gB X.prog X.w X.K X.mg X.base CX k f fd ps sp) (hr:eH (k+1) X.A) (hg:Gl X x) (hm:X.mg x=some (.ref C)) (hb:Binds X.K fd ps ds) (hd:cX dvs ds) (hx:gC CX X E)
 (hdb:(x==("__debug__":Str))=false:=by decide):PE X (.Call (.Name x p) [] [] pos) (xG C sp dvs E xD):=by
 intro pins s σ H Q I h
 refine OP (jv I hg hm ?_ hdb)
 exact Qp I.kIn M.kp (qA (us:=[]) M F hr hb hd hx I .nil h)
end
section
variable {X:Cx}{CX:CXT}{k:Nat}{f C:M9}{fd:Oz}{ps ks:List Str}{sp:Sp}{E:XK}{x m:Str}{p pos apos kpos:Pos}{e o:Pr}{es:List Pr}{kws:List PJ}{te ta:TE}{t tk:TA}{nm:Option Str}
variable {g:List MZ->List MZ->List MZ}{gV:List V->List V->List V}
end
structure fm (N P:List Str) (sc:NY):Prop where
 kind:sc.kind=.function
 co:sc.isCoroutine=false
 gen:sc.isGenerator=false
 nd:N.Nodup
 pre:N.take P.length=P
 par:∀ x∈P,sc.names.lookup x=some .local\/sc.names.lookup x=some .cell
 nofree:∀ y∈sc.names,y.2≠.free
theorem nV {kindOf:Str->Option Pf}{x:Str}:∀ {binds:List (Str×MZ)}{m:Str->Option MZ},(∀ v,(x,v)∉binds)->bindL kindOf binds m x=m x
 | [],_,_=>rfl
 | (n,v) :: r,m,h=>by
  unfold bindL
  rw[nV fun w hw=>h w (M1 _ hw)]
  split
  ·have:x≠n:=by rintro rfl;exact h v M5
   simp[this]
  ·rfl
theorem nW {kindOf:Str->Option Pf}{x:Str}:∀ {binds:List (Str×MZ)}{m:Str->Option MZ},(∀ v,(x,v)∉binds)->bindC kindOf binds m x=m x
 | [],_,_=>rfl
 | (n,v) :: r,m,h=>by
  unfold bindC
  rw[nW fun w hw=>h w (M1 _ hw)]
  split
  ·rfl
  ·have:x≠n:=by rintro rfl;exact h v M5
   simp[this]
theorem nX {kindOf:Str->Option Pf}{x:Str}{v:MZ}:∀ {P:List Str}{vs:List MZ}{i:Nat}{m:Str->Option MZ},P.Nodup->P[i]?=some x->vs[i]?=some v->kindOf x=some .local →
 bindL kindOf (P.zip vs) m x=some v
 | [],_,_,_,_,h,_,_=>by simp at h
 | _ :: _,[],_,_,_,_,h,_=>by simp at h
 | p :: P,w :: vs,0,m,nd,h1,h2,hk=>by
  simp at h1 h2;subst h1;subst h2
  show bindL kindOf ((p,w) :: P.zip vs) m p=_
  unfold bindL
  rw[nV fun v hv=>(List.nodup_cons.mp nd).1 (Pw hv).1,if_pos hk]
  simp
 | p :: P,w :: vs,i+1,m,nd,h1,h2,hk=>by
  show bindL kindOf ((p,w) :: P.zip vs) m x=_
  unfold bindL
  exact nX (i:=i) (List.nodup_cons.mp nd).2 (by simpa using h1) (by simpa using h2) hk
theorem nY {kindOf:Str->Option Pf}{x:Str}{v:MZ}:∀ {P:List Str}{vs:List MZ}{i:Nat}{m:Str->Option MZ},P.Nodup->P[i]?=some x->vs[i]?=some v->kindOf x≠some .local →
 bindC kindOf (P.zip vs) m x=some v
 | [],_,_,_,_,h,_,_=>by simp at h
 | _ :: _,[],_,_,_,_,h,_=>by simp at h
 | p :: P,w :: vs,0,m,nd,h1,h2,hk=>by
  simp at h1 h2;subst h1;subst h2
  show bindC kindOf ((p,w) :: P.zip vs) m p=_
  unfold bindC
  rw[nW fun v hv=>(List.nodup_cons.mp nd).1 (Pw hv).1,if_neg hk]
  simp
 | p :: P,w :: vs,i+1,m,nd,h1,h2,hk=>by
  show bindC kindOf ((p,w) :: P.zip vs) m x=_
  unfold bindC
  exact nY (i:=i) (List.nodup_cons.mp nd).2 (by simpa using h1) (by simpa using h2) hk
noncomputable def start (N:List Str) (vs:List V):St:=vs.map some++Nn (N.length - vs.length) none
noncomputable def rX (CX:CXT) (P:Nk) (w:Nz) (K:MV) (mg:Str->Option MZ) (base:Heap) (N:List Str) (qual:Str) (scope:NY) (f:M9) (cd:MZ) (A:NT) (outer:List Env) (s:M0) (H:Hp) (E:XK):Cx where
 prog:=P
 w:=w
 K:=K
 mg:=mg
 base:=base
 A:=A.deeper (R6 qual scope s.heap.objs.size f cd)
 N:=N
 s₀:=s
 H₀:=H
 env:=R6 qual scope s.heap.objs.size f cd
 outer:=outer
 stack:=R6 qual scope s.heap.objs.size f cd :: outer
 ex:=[]
 calm:=true
 fn:=fun _=>true
 pn:=[]
 xe:=fun e s'=>wpAny (Nv P w) (A.deeper (R6 qual scope s.heap.objs.size f cd)) (leaving (R6 qual scope s.heap.objs.size f cd) e) (fun _ s''=>CX outer H s E e s'') (fun e' s''=>CX outer H s E e' s'') s'
theorem qB {sc:NY}{n:Nat}{x:Str} (h:sc.names.lookup x=some .cell):∃ c,(cellsFrom n sc.names []).lookup x=some c:=by
 have q:=RB sc.names n [] (.inl h)
 exact Option.isSome_iff_exists.mp q
theorem vI {CX:CXT}{P:Nk}{w:Nz}{K:MV}{mg:Str->Option MZ}{base:Heap}{N ps:List Str}{qual:Str}{scope:NY}{f:M9}{cd:MZ}{A:NT}{outer:List Env}{s s1:M0}{H:Hp}{E:XK}{us:List MZ}{vs:List V}
 (S:fm N ps scope) (hd:A.handled=none) (e0:oV P w K mg base A outer s H) (hl:vs.length=ps.length) (r:cX vs us)
 (x:InCallC s s.heap.objs.size (bindL (R6 qual scope s.heap.objs.size f cd).kindOf (ps.zip us) fun _=>none) (cellsFrom (s.heap.objs.size+1) scope.names []) (bindC (R6 qual scope s.heap.objs.size f cd).kindOf (ps.zip us) fun _=>none) s1) :
 Inv (rX CX P w K mg base N qual scope f cd A outer s H E) [] (start N vs) H s1:=by
 have hpl:ps.length<=N.length:=by have:=congrArg SR S.pre;rw[Qc] at this;lia
 obtain ⟨h1,tk,rfl,hk⟩:=x.done
 have noA:∀ b:M9,b∉(rX CX P w K mg base N qual scope f cd A outer s H E).ex:=fun b z=>absurd (show b∈([]:List M9) from z) (by simp)
 refine ⟨⟨e0.mod,S.kind,rfl,rfl,Nb _,fun y z c h1 h2=>?_,fun y hy=>?_,fun y c _ h=>?_,fun _=>hd,Sj e0.frames,.inr ⟨rfl,rfl⟩,fun b z=>absurd z (noA b),e0.bs,e0.bsz,fun b _ _=>noA b,fun b z=>absurd z (noA b),e0.ju,e0.frf⟩,
  rfl,e0.bare,Un.kept hk,⟨_,x.toInCall.ns,fun i y v h1 h2 h3=>?_⟩,fun y c h=>⟨_,x.cell y c h⟩,e0.hok.fresh (Nb _),fun y c h=>?_,fun p hp=>absurd (show p∈([]:List (M9×Obj)) from hp) (by simp),e0.hok.kept hk,?_⟩
 ·exact name_of_addr x.apart (Og h1) (Og h2)
 ·have hy:scope.names.lookup y=some .cell\/scope.names.lookup y=some .free:=hy
  rcases hy with hy | hy
  ·exact qB hy
  ·exact absurd rfl (S.nofree _ (Og hy))
 ·exact PR (x.above y c (Og h))
 ·have hi:i < vs.length:=by
   unfold start at h2
   by_cases hi:i < vs.length
   ·exact hi
   ·rw[NC (by simpa using hi)] at h2
    rw[O5] at h2
    split at h2<;>cases h2
  have ha:vs[i]?=some v:=by
   unfold start at h2
   rw[Nf (by simpa using hi),NK] at h2
   cases e:vs[i]? with
   | none=>rw[e] at h2;cases h2
   | some a=>rw[e] at h2;cases h2;rfl
  obtain ⟨u,hu,rv⟩:=r.get ha
  have hp:ps[i]?=some y:=by
   rw[← S.pre,RP (by lia)];exact h1
  have ndP:ps.Nodup:=by rw[← S.pre];exact S.nd.sublist (List.take_sublist _ _)
  refine ⟨u,rv,?_⟩
  rcases S.par y (Np hp) with k | k
  ·exact .inl ⟨k,nX ndP hp hu k⟩
  ·obtain ⟨c,e⟩:=qB (n:=s.heap.objs.size+1) k
   refine .inr ⟨.inl k,c,e,?_⟩
   have q:=x.cell y c e
   rw[nY ndP hp hu (by show scope.names.lookup y≠_;rw[k];decide)] at q
   exact q
 ·exact e0.hok.fresh (PR (x.above y c (Og h)))
 ·unfold start
  show _=N.length
  rw[Nl,Nd,Pj]
  lia
theorem Hf {CX:CXT}{P:Nk}{w:Nz}{K:MV}{mg:Str->Option MZ}{base:Heap}{k:Nat}{f:M9}{name qual:Str}{params:Ri}{body:List Rc}{scope:NY}{dV kV doc pm cdv ct oc:MZ}{an od:Option M9}
 {osl:Array (Option MZ)}{N ps:List Str}{sp:Sp} (lk:K.lookup f=some ⟨oc,od,.func (Ou name qual params body scope dV kV doc pm an cdv ct),osl⟩) (hcd:Qj K cdv qual=true) (S:fm N ps scope)
 (len:∀ vs H Q E,sp vs H Q E->vs.length=ps.length)
 (hbody:∀ (A:NT) (outer:List Env) (s:M0) (H:Hp) (vs:List V) (Q:VK) (E:XK),eH k (A.deeper (R6 qual scope s.heap.objs.size f cdv))->sp vs H Q E →
  ∃ t,PSs (rX CX P w K mg base N qual scope f cdv A outer s H E) body t/\t { nx:=fun _ H'=>Q .non H',rt:=Q } (start N vs) H) :
 gB P w K mg base CX (k+1) f (Ou name qual params body scope dV kV doc pm an cdv ct) ps sp:=by
 refine ⟨len,fun A outer s H args us vs Q E hr e0 hb r hsp=>?_⟩
 have hl:=len _ _ _ _ hsp
 have KX:K.In s.heap:=e0.mod.kin.keeps fun b o e=>(e0.bs b o e).1
 have lim:s.heap.NoLimit:=e0.mod.nolimit.keeps fun b o e=>(e0.bs b o e).1
 have hkind:∀ y∈ps.zip us,scope.names.lookup y.1=some .local\/(scope.names.lookup y.1=some .cell/\((cellsFrom (s.heap.objs.size+1) scope.names []).lookup y.1).isSome=true):=fun ⟨n,v⟩ hy=>by
  rcases S.par n (Pw hy).1 with q | q
  ·exact .inl q
  ·exact .inr ⟨q,RB _ _ _ (.inl q)⟩
 refine codeAny_call_function hr.depth (KX _ _ lk) rfl S.co S.gen rfl (PySem.W.codeRec_of KX hcd) (hb _ _ _ _ ?_)
 refine wpAny_newFunctionEnv_cells S.kind hkind fun env he s1 x=>?_
 subst he
 refine ⟨lim.keeps x.toInCall.keep,codeAny_func ?_⟩
 obtain ⟨t,ht,hq⟩:=hbody A outer s H vs Q E (hr.deeper _) hsp
 have I:Inv (rX CX P w K mg base N qual scope f cdv A outer s H E) [] (start N vs) H s1:=vI S hr.hd e0 hl r x
 refine OT (ht [] s1 (start N vs) H _ I hq) (fun fl s' hs=>?_) fun e s' hs=>hs
 have fin:∀ {σ':St}{H':Hp}{v:V}{u:MZ},Inv (rX CX P w K mg base N qual scope f cdv A outer s H E) [] σ' H' s'->RelV v u->Q v H'->CE outer P w H s Q u s' :=
  fun {σ' H' v u} J rv q=>⟨v,H',J.os,J.bare,J.base,J.hok,rv,q⟩
 cases fl with
 | ret u =>
  obtain ⟨v,σ',H',J,rv,q⟩:=hs
  exact fin J rv q
 | next =>
  obtain ⟨σ',H',J,q⟩:=hs
  exact fin (v:=V.non) (u:=O8) J rfl q
 | brk =>
  obtain ⟨_,_,_,q⟩:=hs
  exact Od q
 | cont =>
  obtain ⟨_,_,_,q⟩:=hs
  exact Od q
end L2
namespace L2
open PySem PySem.Spec PyProof.Rows
section
variable {X:Cx}{x:Str}{p pos:Pos}{e:Pr}{es:List Pr}{t:TA}{id T:String}{r:List V->Hp->VK->Prop}
noncomputable def tCB (r:List V->Hp->VK->Prop) (t:TA):TE:=fun σ H Q=>t σ H fun vs H1=>r vs H1 Q
theorem gk (hc:ef X (.builtin id) r) (hg:Gl X x) (hm:X.mg x=none) (hv:P7 x=some (.builtin id)) (ha:PA X (e :: es) t) (hn:x≠"__name__":=by decide) (hdb:(x==("__debug__":Str))=false:=by decide)
 (he:NG (e :: es) X.env=(false,eval e X.env) :: NG es X.env:=by rfl) (hpl:(Po pos (NG es X.env)).any (·.1)=false:=by rfl):PE X (.Call (.Name x p) (e :: es) [] pos) (tCB r t):=by
 intro pins s σ H Q I h
 refine OP (jc I hg hm hv ?_ hn hdb)
 exact PyProof.Rows.callWith_builtin1 (thn (ha pos pins s σ H _ I h) fun us s1 ⟨vs,H1,I1,r1,q1⟩=>hc pins s1 σ H1 vs us Q I1 r1 q1) he hpl
theorem fO (hc:ef X (.type T) r) (hg:Gl X x) (hm:X.mg x=none) (hv:P7 x=some (.type T)) (ha:PA X (e :: es) t) (hn:x≠"__name__":=by decide) (hdb:(x==("__debug__":Str))=false:=by decide)
 (he:NG (e :: es) X.env=(false,eval e X.env) :: NG es X.env:=by rfl) (hpl:(Po pos (NG es X.env)).any (·.1)=false:=by rfl):PE X (.Call (.Name x p) (e :: es) [] pos) (tCB r t):=by
 intro pins s σ H Q I h
 refine OP (jc I hg hm hv ?_ hn hdb)
 exact Oc (thn (ha pos pins s σ H _ I h) fun us s1 ⟨vs,H1,I1,r1,q1⟩=>hc pins s1 σ H1 vs us Q I1 r1 q1) he hpl
end
end L2
namespace HT
open PySem PyProof.Rows
section
open PySem.SeqAt
open PySem.AutoSeq1 (wpAny_loadPart')
open PySem.MeetsSeq PySem.MeetsSeq2 PySem.MeetsSeq3
end
section
variable {prog:Nk}{w:Nz}{A:NT}{E:MZ->M0->Prop}{s:M0}
theorem AD {t b:M9}{vs ws:List MZ}{Q:MZ->M0->Prop} (ht:IsTup s.heap t vs.toArray) (hb:IsTup s.heap b ws.toArray) (hv:vs≠[])
 (h1:ws=[]->Q (.ref t) s) (h2:ws≠[]->Q (.ref s.heap.objs.size) { s with heap:=s.heap.push { cls:=.type "tuple",data:=.seq (vs++ws).toArray } })
 (hsz:vs.length+ws.length<=sizeLine):wpAny (Nv prog w) A (Oj .Add (.ref t) (.ref b)) Q E s:=by
 obtain ⟨⟨cls,dd,data,sl⟩,ho,hc,n,hd⟩:=id ht
 obtain ⟨⟨cls2,dd2,data2,sl2⟩,ho2,hc2,n2,hd2⟩:=id hb
 simp only at hc hd hc2 hd2
 subst hc hd hc2 hd2
 have e:vs.toArray++ws.toArray=(vs++ws).toArray:=by simp
 by_cases hw:ws=[]
 ·exact concat_meets ⟨_,ho,rfl⟩ ⟨_,ho2,rfl⟩ RL SW P4 P0 (PL _ _)
   (tuple_addW1 t b vs.toArray ws.toArray n n2 dd dd2 sl sl2 (by simpa using hv) (by simp[hw])) ⟨ho,ho2,h1 hw⟩
 ·refine concat_meets ⟨_,ho,rfl⟩ ⟨_,ho2,rfl⟩ RL SW P4 P0 (PL _ _)
   (tuple_addW2 t b vs.toArray ws.toArray n n2 dd dd2 sl sl2 (by simpa using hv) (by simpa using hw) (by rw[M3,M3];exact hsz)) ⟨ho,ho2,?_⟩
  rw[e]
  exact h2 hw
noncomputable def sIx (n d:Nat):Option Int->Nat
 | none=>d
 | some v=>if v < 0 then (v+(n:Int)).toNat else min v.toNat n
theorem D0 (n d:Nat) (hd:d<=n) (o:Option Int):sIx n d o<=n:=by
 cases o with
 | none=>exact hd
 | some v =>
  show (if v < 0 then (v+(n:Int)).toNat else min v.toNat n)<=n
  by_cases hv:v < 0
  ·rw[if_pos hv];lia
  ·rw[if_neg hv];exact Nat.min_le_right _ _
theorem uc (v:Int) (n d:Nat):(if v < 0 then max (v+(n:Int)) 0 else min v (n:Int))=((sIx n d (some v):Nat):Int):=by
 show (if v < 0 then max (v+(n:Int)) 0 else min v (n:Int))=(((if v < 0 then (v+(n:Int)).toNat else min v.toNat n):Nat):Int)
 by_cases hv:v < 0
 ·simp only[if_pos hv];lia
 ·simp only[if_neg hv];lia
theorem rY (lo hi:Option Int) (n:Nat):NZ lo hi 1 (n:Int)=(((sIx n 0 lo:Nat):Int),((sIx n n hi:Nat):Int)):=by
 have h1:¬ ((1:Int) < 0):=by lia
 unfold NZ
 simp only[h1,if_false]
 refine Prod.ext ?_ ?_
 ·cases lo with
  | none=>rfl
  | some v=>exact uc v n 0
 ·cases hi with
  | none=>rfl
  | some v=>exact uc v n n
theorem rZ (i j:Nat):NI (i:Int) (j:Int) 1=j - i:=by
 unfold NI
 have h1:(1:Int) > 0:=by lia
 simp only[h1,if_true,Int.ediv_one]
 split<;>lia
theorem lP {v:MZ}{o:Option Int}{Q:Option Int->M0->Prop} (p:RK v o) (h:Q o s):wpAny (Nv prog w) A (Builtin.Slice.slicePartIndex v) Q E s:=by
 cases p with
 | none=>exact QK h
 | int i t=>exact slicePart_int h
theorem gm {sl:M9}{vl vu:MZ}{lo hi:Option Int}{n:Nat}{Q:Int×Int×Nat->M0->Prop} (hs:s.heap.IsSliceOf sl vl vu .none) (pl:RK vl lo) (pu:RK vu hi)
 (h:Q (((sIx n 0 lo:Nat):Int),1,sIx n n hi - sIx n 0 lo) s):wpAny (Nv prog w) A (OE (.ref sl) (pure (n:Int))) Q E s:=by
 obtain ⟨os,hos,hcs,hds⟩:=id hs
 unfold OE QE
 refine MW (MW (NW hos hds (x:=vl) rfl (MW (NW hos hds (x:=vu) rfl (MW (NW hos hds (x:=.none) rfl (wpAny_pure ?_)))))))
 refine MW (QK ?_)
 show wpAny _ _ (if ((1:Int)==0)=true then _ else _) _ _ s
 rw[if_neg (by decide)]
 refine MW (lP pl (MW (lP pu (MW (wpAny_pure ?_)))))
 show wpAny _ _ (match NZ lo hi 1 (n:Int) with | (lo,hi)=>pure (lo,(1:Int),NI lo hi 1)) _ _ s
 rw[rY lo hi n]
 show wpAny _ _ (pure (((sIx n 0 lo:Nat):Int),(1:Int),NI ((sIx n 0 lo:Nat):Int) ((sIx n n hi:Nat):Int) 1)) _ _ s
 rw[rZ]
 exact wpAny_pure h
theorem xM (xs:Array MZ) (i k:Nat):((OG k).filterMap fun (m:Nat)=>xs[((i:Int)+(m:Int)*1).toNat]?).toArray=((xs.toList.drop i).take k).toArray:=by
 have e:(fun (m:Nat)=>xs[((i:Int)+(m:Int)*1).toNat]?)=fun m=>xs[i+m]?:=by
  funext m
  have:((i:Int)+(m:Int)*1).toNat=i+m:=by lia
  rw[this]
 rw[e]
 have:=pick_run xs i k
 rw[List.filterMap_map] at this
 have e2:((fun x=>xs[x]?) ∘ fun x=>i+x)=fun m=>xs[i+m]?:=rfl
 rw[e2] at this
 rw[this]
theorem jy {t sl:M9}{items:Array MZ}{vl vu:MZ}{lo hi:Option Int}{Q:MZ->M0->Prop} (ht:IsTup s.heap t items) (hs:s.heap.IsSliceOf sl vl vu .none) (pl:RK vl lo) (pu:RK vu hi)
 (hw:¬ (sIx items.size 0 lo=0/\sIx items.size items.size hi=items.size))
 (h:Q (.ref s.heap.objs.size) { s with heap:=s.heap.push { cls:=.type "tuple",data:=.seq ((items.toList.drop (sIx items.size 0 lo)).take (sIx items.size items.size hi - sIx items.size 0 lo)).toArray } })
 (hsz:items.size<=sizeLine):wpAny (Nv prog w) A (Qm (.ref t) (.ref sl)) Q E s:=by
 have htake:sizeOk (.seq ((items.toList.drop (sIx items.size 0 lo)).take (sIx items.size items.size hi - sIx items.size 0 lo)).toArray):=by
  show ((items.toList.drop (sIx items.size 0 lo)).take (sIx items.size items.size hi - sIx items.size 0 lo)).toArray.size<=sizeLine
  rw[M3,Qc,List.length_drop,Pu]
  lia
 have hj:sIx items.size items.size hi<=items.size:=D0 _ _ (Nb _) hi
 obtain ⟨os,hos,hcs,hds⟩:=id hs
 have hTs:s.TypeIs (.ref sl) "slice":=⟨os,hos,hcs⟩
 unfold Qm
 try with_reducible refine Pc ?_
 first | refine MW (wpAny_pure ?_) | skip
 refine MW (Rm ht.typeIs (by decide) ?_)
 refine MW (N3 (name:=M4 "__getitem__") ht.typeIs NO
  (OH NO ht.typeIs QT ?_ (Q9 _ _)))
 show wpAny _ _ (Pi (.ref t) >>= _) _ _ s
 refine MW (SV ht ?_)
 refine MW (Rx hTs ?_)
 rw[if_pos (by decide)]
 refine MW (gm hs pl pu ?_)
 have hno:¬ ((((sIx items.size 0 lo:Nat):Int)==0&&(1:Int)==1&&(sIx items.size items.size hi - sIx items.size 0 lo)==items.size)=true):=by
  intro q
  rw[M6,M6] at q
  have q1:((sIx items.size 0 lo:Nat):Int)=0:=eq_of_beq q.1.1
  have q2:sIx items.size items.size hi - sIx items.size 0 lo=items.size:=eq_of_beq q.2
  exact hw ⟨by lia,by lia⟩
 show wpAny _ _ (if (((sIx items.size 0 lo:Nat):Int)==0&&(1:Int)==1&&(sIx items.size items.size hi - sIx items.size 0 lo)==items.size)=true then _ else _) _ _ s
 rw[if_neg hno,xM]
 first
  | exact MW (m:=NJ _) (NU (wpAny_pure ⟨_,rfl,wpAny_pure h⟩) htake)
  | exact MW (m:=NJ _) (NU (MW (wpAny_pure (wpAny_pure ⟨_,rfl,wpAny_pure h⟩))) htake)
  | exact MW (MW (m:=NJ _) (NU (wpAny_pure (wpAny_pure ⟨_,rfl,wpAny_pure h⟩)) htake))
  | exact MW (MW (m:=NJ _) (NU (wpAny_pure ⟨_,rfl,wpAny_pure h⟩) htake))
end
end HT
namespace L2
open PySem PySem.Spec PyProof.Rows
noncomputable abbrev TO:=St->Hp->(Option Int->Hp->Prop)->Prop
noncomputable def PO (X:Cx) (e:Option Pr) (t:TO):Prop :=
 ∀ (pins:List (M9×Obj)) (s:M0) (σ:St) (H:Hp) (Q:Option Int->Hp->Prop),Inv X pins σ H s->t σ H Q →
  wpAny (Nv X.prog X.w) X.A (evalPart e X.env) (fun u s'=>∃ o H',Inv X pins σ H' s'/\RK u o/\Q o H') X.xe s
noncomputable def AE:TO:=fun _ H Q=>Q none H
noncomputable def Hg (t:TE):TO:=fun σ H Q=>t σ H fun x H1=>∃ i,x=.int i/\Q (some i) H1
section
variable {X:Cx}{e:Pr}{te:TE}{lo hi:Option Pr}{tl th:TO}{pos p2:Pos}
theorem AF:PO X none AE:=by
 intro pins s σ H Q I h
 rw[Q6]
 exact wpAny_pure ⟨none,H,I,.none,h⟩
theorem AG (h:PE X e te):PO X (some e) (Hg te):=by
 intro pins s σ H Q I hw
 rw[SY]
 refine thn (h pins s σ H _ I hw) fun u s1 zq=>?_
 obtain ⟨x,H1,I1,r1,q1⟩:=zq
 obtain ⟨i,rfl,q⟩:=q1
 obtain ⟨t,rfl⟩:=r1
 exact ⟨some i,H1,I1,.int i t,q⟩
noncomputable def SlR (X:Cx) (r:V->Option Int->Option Int->Hp->VK->Prop):Prop :=
 ∀ (pins:List (M9×Obj)) (s:M0) (σ:St) (H:Hp) (x:V) (v vl vu:MZ) (lo hi:Option Int) (sl:M9) (Q:VK),Inv X pins σ H s->RelV x v->s.heap.IsSliceOf sl vl vu .none->RK vl lo->RK vu hi->r x lo hi H Q →
  ∃ T id,typeLookup (.type T) "__getitem__"=pure (some (.builtin id))/\s.TypeIs v T/\wpAny (Nv X.prog X.w) X.A (Qm v (.ref sl)) (EP X pins σ Q) X.xe s
noncomputable def tSl (r:V->Option Int->Option Int->Hp->VK->Prop) (te:TE) (tl th:TO):TE:=fun σ H Q=>te σ H fun x H1=>tl σ H1 fun l H2=>th σ H2 fun u H3=>r x l u H3 Q
theorem xN {r:V->Option Int->Option Int->Hp->VK->Prop} (hr:SlR X r) (he:PE X e te) (hl:PO X lo tl) (hu:PO X hi th):PE X (.Subscript e (.Slice lo hi none p2) pos) (tSl r te tl th):=by
 intro pins s σ H Q I h
 refine SJ (thn (he pins s σ H _ I h) fun v s1 zq=>?_)
 obtain ⟨x,H1,I1,r1,q1⟩:=zq
 refine wpAny_Slice (thn (hl pins s1 σ H1 _ I1 q1) fun vl s2 ⟨l,H2,I2,pl,q2⟩=>thn (hu pins s2 σ H2 _ I2 q2) fun vu s3 zq=>?_)
 obtain ⟨u,H3,I3,pu,q3⟩:=zq
 rw[Q6]
 refine wpAny_pure ?_
 have I4:Inv X pins σ H3 { s3 with heap:=s3.heap.push { cls:=.type "slice",data:=.fields #[vl,vu,.none] } }:=I3.kept (t':=s3.toks) fun b ob q=>MY _ q
 obtain ⟨T,id,hT,ht,hg⟩:=hr pins { s3 with heap:=s3.heap.push { cls:=.type "slice",data:=.fields #[vl,vu,.none] } } σ H3 x v vl vu l u s3.heap.objs.size Q I4 r1 (Qa ..) pl pu q3
 show wpAny (Nv X.prog X.w) X.A (Q5 e (.Slice lo hi none p2) v (.ref s3.heap.objs.size)) (EP X pins σ Q) X.xe { s3 with heap:=s3.heap.push { cls:=.type "slice",data:=.fields #[vl,vu,.none] } }
 exact RU (ops:=[.ref s3.heap.objs.size,v]) ht hT hg (by with_unfolding_all rfl)
noncomputable def qC (xs:List V) (lo hi:Option Int):List V:=(xs.drop (HT.sIx xs.length 0 lo)).take (HT.sIx xs.length xs.length hi - HT.sIx xs.length 0 lo)
theorem kI (xs:List V) (lo hi:Option Int):(qC xs lo hi).length<=xs.length:=by
 unfold qC
 rw[Qc,List.length_drop]
 lia
noncomputable def KC (K:MV):V->Option Int->Option Int->Hp->VK->Prop:=fun x lo hi H Q=>∃ a xs,x=.ref a/\SqT K H a xs ∧
 ¬ (HT.sIx xs.length 0 lo=0/\HT.sIx xs.length xs.length hi=xs.length)/\∀ p,H p=none->Q (.ref p) (upd H p (.tup (qC xs lo hi)))
theorem D3:SlR X (KC X.K):=by
 intro pins s σ H x v vl vu lo hi sl Q I rx hs pl pu h
 obtain ⟨a,xs,rfl,hx,hw,q⟩:=h
 cases rx
 obtain ⟨its,r,ht,hz⟩:=I.tuple hx
 have hlen:its.toArray.size=xs.length:=by rw[M3];exact r.length.symm
 refine ⟨"tuple",_,PyProof.Rows.slot_tuple_getitem.lookup,ht.typeIs,?_⟩
 refine HT.jy ht hs pl pu (by rw[hlen];exact hw) ?_ (by rw[hlen];exact hz)
 rw[hlen]
 refine ⟨.ref s.heap.objs.size,_,I.laid (t':=s.toks) (o:=.tup (qC xs lo hi)) (fun b ob q=>MY _ q) (Nb _) ?_,rfl,q _ (I.hok.fresh (Nb _))⟩
 exact ⟨Nx (kI xs lo hi) hz,_,(r.drop (HT.sIx xs.length 0 lo)).take (HT.sIx xs.length xs.length hi - HT.sIx xs.length 0 lo),IsTup.new _ _⟩
noncomputable def Hh (K:MV):R2:=fun x y H Q=>∃ a b xs ys,x=.ref a/\y=.ref b/\SqT K H a xs/\SqT K H b ys/\xs≠[]/\xs.length+ys.length<=sizeLine ∧
 (ys=[]->Q (.ref a) H)/\(ys≠[]->∀ p,H p=none->Q (.ref p) (upd H p (.tup (xs++ys))))
theorem cX.jz {xs:List V}{us:List MZ} (r:cX xs us):us=[]↔xs=[]:=by
 cases r with
 | nil=>simp
 | cons _ _=>simp
theorem AH:OpR X (Oj .Add) (Hh X.K):=by
 intro pins s σ H x y v u Q I rx ry h
 obtain ⟨a,b,xs,ys,rfl,rfl,ha,hb,hx,hz,q1,q2⟩:=h
 cases rx
 cases ry
 obtain ⟨its,r1,p1,_⟩:=I.tuple ha
 obtain ⟨its2,r2,p2,_⟩:=I.tuple hb
 refine HT.AD p1 p2 (fun z=>hx (r1.jz.mp z)) (fun z=>⟨.ref a,H,I,rfl,q1 (r2.jz.mp z)⟩) (fun z=>?_) (by rw[← r1.length,← r2.length];exact hz)
 refine ⟨.ref s.heap.objs.size,_,I.laid (t':=s.toks) (o:=.tup (xs++ys)) (fun b ob q=>MY _ q) (Nb _) ?_,rfl,q2 (fun w=>z (r2.jz.mpr w)) _ (I.hok.fresh (Nb _))⟩
 exact ⟨by rw[Nl];exact hz,_,r1.append r2,IsTup.new _ _⟩
end
end L2
namespace L2
open PySem PySem.Spec PyProof.Rows
noncomputable def ixN (n:Nat) (i:Int):Option Nat:=if 0<=i then (if i < n then some i.toNat else none) else if -(n:Int)<=i then some (i+n).toNat else none
noncomputable def atI {α:Type} (xs:List α) (i:Int):Option α:=(ixN xs.length i).bind fun j=>xs[j]?
theorem ud {n:Nat}{i:Int}{j:Nat} (h:ixN n i=some j):seqIndex? i n=some j/\j < n/\-(n:Int)<=i/\i < n:=by
 unfold ixN at h
 by_cases h0:0<=i
 ·rw[if_pos h0] at h
  by_cases h1:i < n
  ·rw[if_pos h1] at h
   have e:i.toNat=j:=Nc h
   exact ⟨by rw[seqIndex_of h0 h1,e],by lia,by lia,h1⟩
  ·rw[if_neg h1] at h;cases h
 ·rw[if_neg h0] at h
  by_cases h1:-(n:Int)<=i
  ·rw[if_pos h1] at h
   have e:(i+n).toNat=j:=Nc h
   exact ⟨by rw[seqIndex_neg (by lia) h1,e],by lia,h1,by lia⟩
  ·rw[if_neg h1] at h;cases h
theorem oX {α:Type}{xs:List α}{i:Int}{v:α} (h:atI xs i=some v):∃ j,seqIndex? i xs.length=some j/\xs[j]?=some v/\j < xs.length/\-(xs.length:Int)<=i/\i < xs.length:=by
 unfold atI at h
 cases e:ixN xs.length i with
 | none=>rw[e] at h;cases h
 | some j =>
  rw[e] at h
  obtain ⟨h1,h2,h3,h4⟩:=ud e
  exact ⟨j,h1,h,h2,h3,h4⟩
noncomputable def ue (b:Pr):Prop:=∀ o i,subscripted b false o i=operate [o,i] (Qm o i)
noncomputable def IxR (X:Cx) (r:R2):Prop :=
 ∀ (value slice:Pr) (pins:List (M9×Obj)) (s:M0) (σ:St) (H:Hp) (x y:V) (v u:MZ) (Q:VK),Inv X pins σ H s->RelV x v->RelV y u->r x y H Q →
  subscripted slice false v u=operate [v,u] (Qm v u)->wpAny (Nv X.prog X.w) X.A (Q5 value slice v u) (EP X pins σ Q) X.xe s
noncomputable def MtR (X:Cx) (id:String) (r:V->List V->Hp->VK->Prop):Prop :=
 ∀ (pins:List (M9×Obj)) (s:M0) (σ:St) (H:Hp) (x:V) (xs:List V) (v:MZ) (us:List MZ) (Q:VK),Inv X pins σ H s->RelV x v->cX xs us->r x xs H Q →
  wpAny (Nv X.prog X.w) X.A (call (.builtin id) (v :: us)) (EP X pins σ Q) X.xe s
section
variable {X:Cx}{a b:Pr}{ta tb:TE}{pos:Pos}
theorem Hi {r:R2} (hr:IxR X r) (ha:PE X a ta) (hb:PE X b tb) (hs:ue b):PE X (.Subscript a b pos) (tOp r ta tb):=by
 intro pins s σ H Q I h
 exact SJ (DP ha hb I h fun v u s2 x y H2 I2 rx ry q=>hr a b pins s2 σ H2 x y v u Q I2 rx ry q (hs _ _))
noncomputable def KG (K:MV):R2:=fun x y H Q=>∃ p xs i v,x=.ref p/\y=.int i/\SqL K H p xs/\atI xs i=some v/\Q v H
noncomputable def KH (K:MV):R2:=fun x y H Q=>∃ p xs i v,x=.ref p/\y=.int i/\SqT K H p xs/\atI xs i=some v/\Q v H
noncomputable def KI:R2:=fun x y H Q=>∃ z i c,x=.str z/\y=.int i/\z.length<=sizeLine/\atI z.cps.toList i=some c/\Q (.str ⟨#[c]⟩) H
theorem AI:IxR X (KG X.K):=by
 intro value slice pins s σ H x y v u Q I rx ry h hs
 obtain ⟨p,xs,i,z,rfl,rfl,hq,he,q⟩:=h
 cases rx
 obtain ⟨t,rfl⟩:=ry
 obtain ⟨its,r,pl,hz⟩:=I.list hq
 obtain ⟨j,h1,h2,h3,h4,h5⟩:=oX he
 obtain ⟨w,ew,rw'⟩:=r.get h2
 have hl:=r.length
 have hn:=j3
 have fin:EP X pins σ Q w s:=⟨z,H,I,rw',q⟩
 by_cases h0:0<=i
 ·have hj:i.toNat=j:=by
   rw[seqIndex_of h0 h5] at h1
   exact Nc h1
  exact item_listR pl.isList h0 (by lia) (by rw[hj];simpa using ew) fin hs
 ·have hj:(i+(its.toArray.size:Int)).toNat=j:=by
   rw[seqIndex_neg (by lia) h4] at h1
   rw[M3,← hl]
   exact Nc h1
  exact subscriptTail_builtinR (x:=w) pl.isList.typeIs slot_list_getitem.lookup
   (wpAny_getItem_list_neg (Q:=fun r s'=>r=w/\EP X pins σ Q r s') pl.isList (by lia) (by rw[M3]<;>lia) (by lia) (by rw[hj];simpa using ew) ⟨rfl,fin⟩) hs
theorem D4:IxR X (KH X.K):=by
 intro value slice pins s σ H x y v u Q I rx ry h hs
 obtain ⟨p,xs,i,z,rfl,rfl,hq,he,q⟩:=h
 cases rx
 obtain ⟨t,rfl⟩:=ry
 obtain ⟨its,r,pl,hz⟩:=I.tuple hq
 obtain ⟨j,h1,h2,h3,h4,h5⟩:=oX he
 obtain ⟨w,ew,rw'⟩:=r.get h2
 have hl:=r.length
 have hn:=j3
 have fin:EP X pins σ Q w s:=⟨z,H,I,rw',q⟩
 exact subscriptTail_builtinR (x:=w) pl.typeIs slot_tuple_getitem.lookup
  (getItem_tuple (j:=j) (Q:=fun r s'=>r=w/\EP X pins σ Q r s') pl (by lia) (by lia) (by rw[M3,← hl];exact h1) (by simpa using ew) ⟨rfl,fin⟩) hs
theorem D5:IxR X KI:=by
 intro value slice pins s σ H x y v u Q I rx ry h hs
 obtain ⟨z,i,c,rfl,rfl,hz,he,q⟩:=h
 obtain ⟨t,rfl⟩:=rx
 obtain ⟨t',rfl⟩:=ry
 obtain ⟨j,h1,h2,h3,h4,h5⟩:=oX he
 have hl:z.cps.toList.length=z.length:=by simp[Str.length]
 rw[hl] at h1 h4 h5
 have hn:=j3
 exact RU (typeIs_str s z t) slot_str_getitem.lookup (getItem_str (c:=c) (by
  have e1:decide (i < -(2 ^ 63:Int))=false:=decide_eq_false (by lia)
  have e2:decide (i ≥ 2 ^ 63)=false:=decide_eq_false (by lia)
  rw[e1,e2,Bool.or_false]) (by rw[h1];simpa using h2) ⟨.str ⟨#[c]⟩,H,I.tok _,⟨_,rfl⟩,q⟩) hs
theorem r8 (its:List MZ) (n j:Nat) (u:MZ):Qs (·.setIfInBounds j u) { cls:=.type "list",data:=.seq its.toArray n }={ cls:=.type "list",data:=.seq (its.set j u).toArray n }:=by
 simp[Qs]
theorem Inv.lst {pins:List (M9×Obj)}{σ:St}{H:Hp}{s:M0}{p:M9}{xs:List V} (I:Inv X pins σ H s) (h:H p=some (.lst xs)) :
 ∃ (its:List MZ) (n:Nat),cX xs its/\s.heap.get? p=some { cls:=.type "list",data:=.seq its.toArray n }/\xs.length<=sizeLine:=by
 obtain ⟨z,its,n,r,e⟩:=I.hok p _ h
 exact ⟨its,n,r,e,z⟩
theorem Inv.D6 {pins:List (M9×Obj)}{σ:St}{H:Hp}{s:M0}{p:M9}{xs ys:List V}{its its':List MZ}{n n':Nat}{f:Obj->Obj} (I:Inv X pins σ H s) (h:H p=some (.lst xs))
 (ho:s.heap.get? p=some { cls:=.type "list",data:=.seq its.toArray n }) (hf:f { cls:=.type "list",data:=.seq its.toArray n }={ cls:=.type "list",data:=.seq its'.toArray n' }) (r:cX ys its') (hz:ys.length<=sizeLine) (t:Nat) :
 Inv X pins σ (upd H p (.lst ys)) { s with heap:=s.heap.update p f,toks:=t }:=by
 have e:(s.heap.update p f).get? p=some { cls:=.type "list",data:=.seq its'.toArray n' }:=by
  rw[Su f ho (by rw[hf]<;>rfl),hf]
 refine I.write (x:=p) (e:=p) (by rw[h];trivial) (.inl rfl) (fun b u hb q=>(Sg _ _ (Qe hb)).trans q) ⟨_,e⟩ ?_
 exact ⟨hz,its',n',r,e⟩
noncomputable def CZ:V->V->V->Hp->(Hp->Prop)->Prop:=fun o i v H Q=>∃ p xs k j,o=.ref p/\i=.int k/\H p=some (.lst xs)/\ixN xs.length k=some j/\Q (upd H p (.lst (xs.set j v)))
theorem set_list:GR X CZ:=by
 intro pins s σ H o i v ov iv u Q I ro ri rv h
 obtain ⟨p,xs,k,j,rfl,rfl,hp,hj,q⟩:=h
 cases ro
 obtain ⟨t,rfl⟩:=ri
 obtain ⟨its,n,r,ho,hz⟩:=I.lst hp
 obtain ⟨h1,h2,h3,h4⟩:=ud hj
 have hl:=r.length
 have hn:=j3
 have I':Inv X pins σ (upd H p (.lst (xs.set j v))) { s with heap:=s.heap.update p (Qs (·.setIfInBounds j u)) } :=
  I.D6 hp ho (r8 its n j u) (r.set rv j) (by rw[List.length_set];exact hz) s.toks
 by_cases h0:0<=k
 ·have hk:k.toNat=j:=by
   rw[seqIndex_of h0 h4] at h1
   exact Nc h1
  exact PySem.W.ki_setAt ho h0 (by lia) (by rw[M3,← hl];exact h4) (by rw[hk];exact ⟨_,I',q⟩)
 ·have hk:(k+(its.toArray.size:Int)).toNat=j:=by
   rw[seqIndex_neg (by lia) h3] at h1
   rw[M3,← hl]
   exact Nc h1
  exact PySem.W.ki_setBack ho (by lia) (by rw[M3,← hl];exact h3) (by lia) (by rw[hk];exact ⟨_,I',q⟩)
theorem oY (lo hi:Option Int) (n:Nat):(NS lo hi none n).1=((HT.sIx n 0 lo:Nat):Int)/\(NS lo hi none n).2.1=((HT.sIx n n hi:Nat):Int)/\(NS lo hi none n).2.2=1:=by
 refine ⟨?_,?_,rfl⟩
 ·cases lo with
  | none=>simp[NS,HT.sIx]
  | some i =>
   simp only[NS,HT.sIx,Te,show (1:Int) > 0 by decide,if_true]
   by_cases h:i < 0
   ·simp only[h,if_true]<;>lia
   ·simp only[h,if_false]<;>lia
 ·cases hi with
  | none=>simp[NS,HT.sIx]
  | some i =>
   simp only[NS,HT.sIx,Te,show (1:Int) > 0 by decide,if_true]
   by_cases h:i < 0
   ·simp only[h,if_true]<;>lia
   ·simp only[h,if_false]<;>lia
theorem ny (its:List MZ) (lo hi:Option Int):slicePick its.toArray lo hi none=((its.drop (HT.sIx its.length 0 lo)).take (HT.sIx its.length its.length hi - HT.sIx its.length 0 lo)).toArray:=by
 obtain ⟨h1,h2,h3⟩:=oY lo hi its.toArray.size
 unfold slicePick
 rw[h1,h2,h3]
 simp only[sliceRange_one,pick_run,M3]<;>rfl
noncomputable def KJ (K:MV):V->Option Int->Option Int->Hp->VK->Prop:=fun x lo hi H Q=>∃ a xs,x=.ref a/\SqL K H a xs/\∀ p,H p=none->Q (.ref p) (upd H p (.lst (qC xs lo hi)))
theorem AJ:SlR X (KJ X.K):=by
 intro pins s σ H x v vl vu lo hi sl Q I rx hs pl pu h
 obtain ⟨a,xs,rfl,hx,q⟩:=h
 cases rx
 obtain ⟨its,r,ht,hz⟩:=I.list hx
 have hlen:=r.length
 refine ⟨"list",_,slot_list_getitem.lookup,ht.isList.typeIs,?_⟩
 refine SH ht.isList hs pl pu .none (by simp) ?_ (by rw[M3]<;>lia)
 rw[ny,← hlen]
 refine ⟨.ref s.heap.objs.size,_,I.laid (t':=s.toks) (o:=.lst (qC xs lo hi)) (fun b ob q=>MY _ q) (Nb _) ?_,rfl,q _ (I.hok.fresh (Nb _))⟩
 exact ⟨Nx (kI xs lo hi) hz,_,0,(r.drop (HT.sIx xs.length 0 lo)).take (HT.sIx xs.length xs.length hi - HT.sIx xs.length 0 lo),Nh _ rfl⟩
theorem jA:ef X (.builtin "len") (fun xs H Q=>∃ p ys,xs=[.ref p]/\(SqL X.K H p ys\/SqT X.K H p ys)/\Q (.int ys.length) H):=by
 intro pins s σ H xs us Q I r h
 obtain ⟨p,ys,rfl,hq,q⟩:=h
 obtain ⟨u,rfl,rx⟩:=vals1 r
 cases rx
 have hn:=j3
 rcases hq with hq | hq
 ·obtain ⟨its,r',pl,hz⟩:=I.list hq
  have hlen:=r'.length
  exact Calls.call_len_list pl.isList (by simp only[M3]<;>lia) ⟨.int ys.length,H,I.tok _,⟨s.toks+1,by rw[M3,hlen]⟩,q⟩
 ·obtain ⟨its,r',pl,hz⟩:=I.tuple hq
  have hlen:=r'.length
  exact len_tuple pl (by simp only[M3]<;>lia) ⟨.int ys.length,H,I.tok _,⟨s.toks+1,by rw[M3,hlen]⟩,q⟩
theorem oZ:ef X (.builtin "len") (fun xs H Q=>∃ z,xs=[.str z]/\z.length<=sizeLine/\Q (.int z.length) H):=by
 intro pins s σ H xs us Q I r h
 obtain ⟨z,rfl,hz,q⟩:=h
 obtain ⟨u,rfl,t,rfl⟩:=vals1 r
 have hn:=j3
 exact len_str (by lia) ⟨.int z.length,H,I.tok _,⟨_,rfl⟩,q⟩
theorem jB:ef X (.type "list") (fun xs H Q=>∃ p ys,xs=[.ref p]/\(SqL X.K H p ys\/SqT X.K H p ys)/\∀ l,H l=none->Q (.ref l) (upd H l (.lst ys))):=by
 intro pins s σ H xs us Q I r h
 obtain ⟨p,ys,rfl,hq,q⟩:=h
 obtain ⟨u,rfl,rx⟩:=vals1 r
 cases rx
 have fin:∀ (its:List MZ),cX ys its->ys.length<=sizeLine->∀ (h':Heap) (c':Nat),(∀ b o',s.heap.get? b=some o'->h'.get? b=some o') →
  h'.get? s.heap.objs.size=some { cls:=.type "list",dict:=none,data:=.seq its.toArray c',slots:=#[] }->EP X pins σ Q (.ref s.heap.objs.size) { s with heap:=h' }:=fun its r' hz h' c' kp e =>
  ⟨.ref s.heap.objs.size,_,I.laid (t':=s.toks) kp (Nb _) (show fy X.prog X.w _ h' _ (.lst ys) from ⟨hz,its,c',r',e⟩),rfl,q _ (I.hok.fresh (Nb _))⟩
 rcases hq with hq | hq
 ·obtain ⟨its,r',pl,hz⟩:=I.list hq
  have hlen:=r'.length
  obtain ⟨o,ho,hc,n,hd⟩:=pl.isList
  exact call_list_seq p (.inl rfl) ho hc hd (fun h' c' kp e=>fin its r' hz h' c' kp e) (by simp only[M3]<;>lia)
 ·obtain ⟨its,r',pl,hz⟩:=I.tuple hq
  have hlen:=r'.length
  obtain ⟨o,ho,hc,n,hd⟩:=pl
  exact call_list_seq p (.inr rfl) ho hc hd (fun h' c' kp e=>fin its r' hz h' c' kp e) (by simp only[M3]<;>lia)
theorem ja:ef X (.type "tuple") (fun xs H Q=>∃ p ys,xs=[.ref p]/\((SqL X.K H p ys/\∀ l,H l=none->Q (.ref l) (upd H l (.tup ys)))\/(SqT X.K H p ys/\Q (.ref p) H))):=by
 intro pins s σ H xs us Q I r h
 obtain ⟨p,ys,rfl,h⟩:=h
 obtain ⟨u,rfl,rx⟩:=vals1 r
 cases rx
 rcases h with ⟨hq,q⟩ | ⟨hq,q⟩
 ·obtain ⟨its,r',pl,hz⟩:=I.list hq
  have hlen:=r'.length
  refine call_tuple_list pl.isList (fun h' kp=>?_) (by simp only[M3]<;>lia)
  have I1:Inv X pins σ H { s with heap:=h' }:=I.kept (t':=s.toks) kp
  have I2:Inv X pins σ (upd H h'.objs.size (.tup ys)) { s with heap:=h'.push { cls:=.type "tuple",data:=.seq its.toArray } } :=
   I1.laid (t':=s.toks) (fun b o e=>MY _ e) (Nb _) (show fy X.prog X.w _ _ _ (.tup ys) from ⟨hz,its,r',IsTup.new _ _⟩)
  exact ⟨.ref h'.objs.size,_,I2,rfl,q _ (I1.hok.fresh (Nb _))⟩
 ·obtain ⟨its,r',pl,hz⟩:=I.tuple hq
  exact call_tuple_same pl ⟨.ref p,H,I,rfl,q⟩
noncomputable def tyV (K:MV) (T:String) (x:V) (H:Hp):Prop:=match x with
 | .str _=>T="str"
 | .int _=>T="int"
 | .ref p=>(T="list"/\∃ xs,SqL K H p xs)\/(T="tuple"/\∃ o,K.lookup p=some o/\o.cls=.type "tuple"/\o.dict=none) ∨
  (T="dict"/\((∃ kvs,H p=some (.dK kvs))\/∃ kvs,H p=some (.dT kvs)))\/(T="set"/\∃ S n,H p=some (.set S n))
 | _=>False
theorem xO {pins:List (M9×Obj)}{σ:St}{H:Hp}{s:M0}{T:String}{x:V}{v:MZ} (I:Inv X pins σ H s) (r:RelV x v) (ty:tyV X.K T x H) :
 s.TypeIs v T/\∀ a,v=.ref a->∃ ob,s.heap.get? a=some ob/\ob.dict=none:=by
 cases x with
 | str z =>
  obtain ⟨t,rfl⟩:=r
  cases (show T="str" from ty)
  exact ⟨typeIs_str s z t,fun _ e=>nomatch e⟩
 | int i =>
  obtain ⟨t,rfl⟩:=r
  cases (show T="int" from ty)
  exact ⟨typeIs_int s i t,fun _ e=>nomatch e⟩
 | ref p =>
  cases r
  rcases ty with ⟨rfl,xs,hq⟩ | ⟨rfl,o,hk,hc,hd⟩ | ⟨rfl,hk⟩ | ⟨rfl,S,n,hk⟩
  ·obtain ⟨its,_,pl,_⟩:=I.list hq
   refine ⟨pl.isList.typeIs,fun a e=>?_⟩
   cases e
   obtain ⟨o,n,e,c,hd,_⟩:=pl
   exact ⟨o,e,hd⟩
  ·refine ⟨⟨o,I.kIn p o hk,hc⟩,fun a e=>?_⟩
   cases e
   exact ⟨o,I.kIn _ o hk,hd⟩
  ·have z:∃ o,s.heap.get? p=some o/\o.ExactDict:=by
    rcases hk with ⟨kvs,hk⟩ | ⟨kvs,hk⟩
    ·obtain ⟨_,_,_,_,o,_,_,e,ex,_⟩:=I.hok p _ hk
     exact ⟨o,e,ex⟩
    ·obtain ⟨_,_,_,_,o,_,_,e,ex,_⟩:=I.hok p _ hk
     exact ⟨o,e,ex⟩
   obtain ⟨o,e,ex⟩:=z
   refine ⟨⟨o,e,ex.1⟩,fun a e2=>?_⟩
   cases e2
   exact ⟨o,e,ex.2.1⟩
  ·obtain ⟨o,_,_,_,e,ex,_⟩:=I.hok p _ hk
   refine ⟨⟨o,e,ex.1⟩,fun a e2=>?_⟩
   cases e2
   exact ⟨o,e,ex.2.1⟩
 | _=>exact Od ty
noncomputable def KM (K:MV) (T:String) (r:V->List V->Hp->VK->Prop) (to:TE):TE:=fun σ H Q=>to σ H fun x H1=>tyV K T x H1/\r x [] H1 Q
noncomputable def tBM (K:MV) (T:String) (r:V->List V->Hp->VK->Prop) (to:TE) (t:TA):TE:=fun σ H Q=>to σ H fun x H1=>tyV K T x H1/\t σ H1 fun xs H2=>r x xs H2 Q
variable {o e:Pr}{es:List Pr}{to:TE}{t:TA}{name:Str}{apos cpos:Pos}{T id:String}{r:V->List V->Hp->VK->Prop}
theorem D7 (pa:SN T) (slot:Slot T name id) (hty:typeOf (.builtin id)=pure (.type "method_descriptor")) (hm:MtR X id r) (ho:PE X o to)
 (hbase:Qn o name X.env (eval o X.env)=eval o X.env:=by rfl) (hline:(apos.endLine==cpos.line)=true:=by rfl):PE X (.Call (.Attribute o name apos) [] [] cpos) (KM X.K T r to):=by
 intro pins s σ H Q I h
 refine wpAny_Call_method0_late hbase hline (thn (ho pins s σ H _ I h) fun v s1 zq=>?_)
 obtain ⟨x,H1,I1,r1,ty,q1⟩:=zq
 obtain ⟨h1,h2⟩:=xO I1 r1 ty
 exact ⟨T,id,pa,slot,hty,h1,h2,Qd rfl (PySem.evalArgs_none (hm pins s1 σ H1 x [] v [] Q I1 r1 .nil q1))⟩
theorem C1 (pa:SN T) (slot:Slot T name id) (hty:typeOf (.builtin id)=pure (.type "method_descriptor")) (hm:MtR X id r) (ho:PE X o to) (ha:PA X (e :: es) t)
 (hbase:Qn o name X.env (eval o X.env)=eval o X.env:=by rfl)
 (hfew:((Po cpos (NG (e :: es) X.env)).all (fun x=>!x.1)&&(Q8 cpos (PX [] X.env)).all (fun x=>x.1.isSome)
 &&decide ((e :: es).length+([]:List PJ).length+(if ([]:List PJ).isEmpty then 0 else 1) < 30))=true:=by rfl)
 (hline:(apos.endLine==cpos.line)=true:=by rfl) (hs:NG (e :: es) X.env=(false,eval e X.env) :: NG es X.env:=by rfl) (hplain:(Po cpos (NG es X.env)).any (·.1)=false:=by rfl) :
 PE X (.Call (.Attribute o name apos) (e :: es) [] cpos) (tBM X.K T r to t):=by
 intro pins s σ H Q I h
 refine wpAny_Call_method_late hbase hfew hline rfl (thn (ho pins s σ H _ I h) fun v s1 zq=>?_)
 obtain ⟨x,H1,I1,r1,ty,q1⟩:=zq
 obtain ⟨h1,h2⟩:=xO I1 r1 ty
 refine ⟨T,id,pa,slot,hty,h1,h2,?_⟩
 have hA:=ha cpos pins s1 σ H1 _ I1 q1
 rw[hs] at hA ⊢
 refine Qd (by show (false||(Po cpos (NG es X.env)).any (·.1))=false;rw[hplain]<;>rfl) (Sw ?_)
 exact thn hA fun us s2 ⟨vs,H2,I2,r2,q2⟩=>hm pins s2 σ H2 x vs v us Q I2 r1 r2 q2
/- xs.append(e),list.index on a module's tuple .. are MtR facts of 06m -/
end
end L2
namespace L2
open PySem PySem.Spec PyProof.Rows
noncomputable def MtM (X:Cx) (id:String) (r:V->List V->Hp->VK->Prop):Prop :=
 ∀ (pins:List (M9×Obj)) (s:M0) (σ:St) (H:Hp) (x:V) (xs:List V) (v:MZ) (us:List MZ) (Q:VK),Inv X pins σ H s->RelV x v->cX xs us->r x xs H Q →
  wpAny (Nv X.prog X.w) X.A (call (.builtin id) (v :: us)) (EP X pins σ Q) X.xe s
theorem cX.one {x:V}{us:List MZ} (h:cX [x] us):∃ u,us=[u]/\RelV x u:=by
 cases h with | cons r t=>cases t;exact ⟨_,rfl,r⟩
theorem cX.two {x y:V}{us:List MZ} (h:cX [x,y] us):∃ u v,us=[u,v]/\RelV x u/\RelV y v:=by
 cases h with | cons r t=>obtain ⟨v,rfl,q⟩:=cX.one t;exact ⟨_,v,rfl,r,q⟩
theorem cX.zero:∀ {us:List MZ},cX [] us->us=[]
 | _,.nil=>rfl
theorem cX.dropLast {xs:List V}{us:List MZ} (h:cX xs us):cX xs.dropLast us.dropLast:=by
 induction h with
 | nil=>exact .nil
 | cons r t ih =>
  cases t with
  | nil=>exact .nil
  | cons q t'=>exact .cons r ih
theorem cX.rep {xs:List V}{us:List MZ} (h:cX xs us):∀ k:Nat,cX (Nn k xs).flatten (Nn k us).flatten
 | 0=>.nil
 | k+1=>by
  rw[Oh,Oh,Oe,Oe]
  exact cX.append h (cX.rep h k)
theorem r9 {α:Type} (l:List α):l.eraseIdx (l.length - 1)=l.dropLast:=by
 induction l with
 | nil=>rfl
 | cons a r ih =>
  cases r with
  | nil=>rfl
  | cons b r =>
   have e:(a :: b :: r).length - 1=((b :: r).length - 1)+1:=by
    have h1:(a :: b :: r).length=r.length+2:=rfl
    have h2:(b :: r).length=r.length+1:=rfl
    lia
   rw[e,List.eraseIdx_cons_succ,ih]
   all_goals rfl
theorem foldl_rep (its:List MZ):∀ (k:Nat) (acc:List MZ),
 RQ (fun x1 x2=>x1++x2) acc.toArray (Nn k its.toArray)=(acc++(Nn k its).flatten).toArray
 | 0,acc=>by simp
 | k+1,acc=>by
  have e:acc.toArray++its.toArray=(acc++its).toArray:=by simp
  have e2:(acc++its)++(Nn k its).flatten=acc++(Nn (k+1) its).flatten:=by
   rw[Oh,Oe,NR]
  rw[← e2,← foldl_rep its k (acc++its),← e,Oh,List.foldl_cons]
section
variable {X:Cx}{pins:List (M9×Obj)}{σ:St}{H:Hp}{s:M0}{l b:M9}{xs ys zs:List V}
theorem Inv.AK {its its':List MZ}{n:Nat}{f:Array MZ->Array MZ}{t':Nat} (I:Inv X pins σ H s) (hH:H l=some (.lst xs))
 (e:s.heap.get? l=some { cls:=.type "list",data:=.seq its.toArray n }) (hf:f its.toArray=its'.toArray) (hv:cX ys its') (hz:ys.length<=sizeLine) :
 Inv X pins σ (upd H l (.lst ys)) { s with heap:=s.heap.update l (Qs f),toks:=t' }:=by
 have q:=PySem.IsL.update e f
 rw[hf] at q
 refine I.write (x:=l) (e:=l) (by rw[hH];exact trivial) (.inl rfl) (fun b' u hb hu=>(Sg s.heap (Qs f) (Qe hb)).trans hu) ⟨_,q⟩ ?_
 exact ⟨hz,its',_,hv,q⟩
theorem Inv.Hj {its:List MZ}{t':Nat} (I:Inv X pins σ H s) (hv:cX ys its) (hz:ys.length<=sizeLine) :
 Inv X pins σ (upd H s.heap.objs.size (.lst ys)) { s with heap:=s.heap.push { cls:=.type "list",data:=.seq its.toArray },toks:=t' } :=
 I.laid (fun _ _ q=>MY _ q) (Nb _) ⟨hz,its,0,hv,Nh _ rfl⟩
theorem Inv.fresh (I:Inv X pins σ H s):H s.heap.objs.size=none:=I.hok.fresh (Nb _)
theorem Inv.AL (I:Inv X pins σ H s) (hH:H l=some (.lst xs)):xs.length<=sizeLine/\∃ (its:List MZ) (n:Nat),cX xs its/\xs.length=its.length/\s.heap.get? l=some { cls:=.type "list",data:=.seq its.toArray n }:=by
 obtain ⟨z,its,n,r,e⟩:=I.hok l _ hH
 exact ⟨z,its,n,r,r.length,e⟩
theorem lQ {n:Nat} (h:n<=sizeLine):N7 n=false:=by
 unfold N7
 exact decide_eq_false (by lia)
end
section
variable {X:Cx}
noncomputable def AM:V->List V->Hp->VK->Prop:=fun x vs H Q=>∃ l xs y,x=.ref l/\vs=[y]/\H l=some (.lst xs)/\xs.length < sizeLine/\Q .non (upd H l (.lst (xs++[y])))
theorem vJ:MtM X "list.append" AM:=by
 intro pins s σ H x vs v us Q I rx rv h
 obtain ⟨l,xs,y,rfl,rfl,hH,hz,q⟩:=h
 cases rx
 obtain ⟨u,rfl,ru⟩:=rv.one
 obtain ⟨z,its,n,r,hl,e⟩:=I.AL hH
 refine Os F.slot_list_append ⟨_,e,rfl⟩ F.entry_list_append (F.args_list_append_2 _ _) (PySem.list_append l its.toArray n u (by rw[M3];lia)) ⟨e,?_⟩
 refine ⟨.non,_,I.AK (its':=its++[u]) hH e (by simp) (r.append (.cons ru .nil)) ?_,rfl,q⟩
 rw[Nl,Qk]
 lia
noncomputable def KN:V->List V->Hp->VK->Prop:=fun x vs H Q=>∃ l xs y,x=.ref l/\vs=[]/\H l=some (.lst xs)/\xs[xs.length - 1]?=some y/\Q y (upd H l (.lst xs.dropLast))
theorem D8:MtM X "list.pop" KN:=by
 intro pins s σ H x vs v us Q I rx rv h
 obtain ⟨l,xs,y,rfl,rfl,hH,hy,q⟩:=h
 cases rx
 have hus:=rv.zero
 subst hus
 obtain ⟨z,its,n,r,hl,e⟩:=I.AL hH
 obtain ⟨u,hu,ru⟩:=r.get hy
 have hy':its.toArray[its.toArray.size - 1]?=some u:=by
  show its.toArray[its.length - 1]?=some u
  rw[← Si,← hl]
  exact hu
 refine Os F.slot_list_pop ⟨_,e,rfl⟩ F.entry_list_pop (F.args_list_pop_1 _) (MeetsSeq.list_pop_last l its.toArray n u hy' (by rw[M3];lia)) ⟨e,?_⟩
 refine ⟨y,_,I.AK (its':=its.dropLast) hH e ?_ r.dropLast ?_,ru,q⟩
 ·show its.toArray.eraseIdxIfInBounds (its.toArray.size - 1)=its.dropLast.toArray
  rw[M3,List.eraseIdxIfInBounds_toArray,r9]
 ·rw[List.length_dropLast]
  lia
theorem len_rep {α:Type} (xs:List α) (k:Nat):(Nn k xs).flatten.length=k*xs.length:=by
 induction k with
 | zero=>simp
 | succ k ih=>rw[Oh,Oe,Nl,ih,Nat.succ_mul,Nat.add_comm]
end
section
variable {prog:Nk}{w:Nz}{A:NT}{E:MZ->M0->Prop}{s:M0}
set_option maxRecDepth 100000 in
end
section
variable {X:Cx}
end
end L2
namespace Att
open PySem PySem.W PySem.Calls PyProof.Rows
theorem kP {P:Params}{h:Heap}:∀ (ns:List Int) (vs:List MZ),WellAll P h vs (ns.map WData.int)->IntsAre vs ns:=by
 intro ns
 induction ns with
 | nil =>
  intro vs w
  rw[OM] at w
  cases w
  exact .nil
 | cons n ns ih =>
  intro vs w
  rw[NF] at w
  cases w with
  | cons a b =>
   cases a
   exact .cons _ _ (ih _ b)
theorem vK {l:OpenLaw}{n:Nat} (hn:l.most=some n) {P:Params}{h:Heap}{args:List WData}{vals:List MZ}
 (hpre:l.row.toRowW.claim.pre args=true) (hwl:WellAll P h vals args) :
 ∃ a vs ns,vals=[Of a]/\args=[WData.list (ns.map WData.int)]/\h.get? a=some { cls:=.type "list",data:=.seq vs.toArray }/\IntsAre vs ns/\ns.length<=n:=by
 have hsh:WShape.hasAll [] args [.list .int]=true:=(pre_splitW hpre).1
 have hc:l.pre.holds [] { args:=args }=true:=(pre_splitW hpre).2
 obtain ⟨d,r,rfl,h1,h2⟩:=hasAllW_cons hsh
 obtain rfl:=hasAllW_nil h2
 obtain ⟨xs,rfl,h3⟩:=hasW_list h1
 obtain ⟨ns,rfl⟩:=items_int h3
 have hlen:ns.length<=n:=by
  unfold OpenLaw.pre at hc
  have h4:(WTm.not (.lt (.lit (.int (n:Int))) (.len (.arg 0)))).holds [] { args:=[.list (ns.map .int)] }=true:=by
   have h4:=(holds_andW hc).1
   rw[hn] at h4
   exact h4
  have h5:=condW_of h4 (w_not (w_lt w_lit (w_len_list (w_arg rfl))))
  rw[Nd] at h5
  refine Nat.le_of_not_lt fun q=>?_
  have q':(n:Int) < ((ns.length:Nat):Int):=by lia
  first
   | (rw[decide_eq_true q'] at h5;exact absurd h5 (by decide))
   | (simp at h5;lia)
 cases hwl with
 | cons w1 w2 =>
  cases w2
  cases w1 with
  | list ho hall=>exact ⟨_,_,ns,rfl,rfl,ho,kP ns _ hall,hlen⟩
theorem vL (l:OpenLaw) (args:List WData):l.row.toRowW.claim.post args (.bool true) args=true :=
 postW_of (r:=l.row.toRowW) (X:=(true==true))
  (show WShape.has [] (.bool true) .bool=true by first | rfl | decide | simp[WShape.has,WShape.arms,WShape.armsAll])
  (show (WTm.eq .res (.lit (.bool true))).value [] { args:=args,res:=some (.bool true),after:=args }=some (.bool (true==true)) from w_eq_bool (w_res rfl) w_lit) rfl
theorem qD {l:OpenLaw}{n:Nat}{q:Nk}{loose:List Str}{XP:(Str->Option MZ)->Heap->Prop}{YP:Nz->Heap->Prop}{d:DefRec}
 (hn:l.most=some n) (hdf:d.params.defaults=[])
 (call:∀ (w:Nz) (s₀ s₁:M0) (mg mb:Str->Option MZ) (fa:M9) (o:Obj) (pm cd doc:MZ) (a:M9) (vs:List MZ) (ns:List Int),
  Ground q loose [] XP w s₀ mg mb s₁.heap->YP w s₁.heap →
  s₁.heap.get? fa=some o->o.data=.func (docDef d.name d.params d.body d.scope pm cd doc)->s₁.heap.CodeRec cd d.name->mg d.name=some (.ref fa) →
  s₁.heap.get? a=some { cls:=.type "list",data:=.seq vs.toArray }->IntsAre vs ns->ns.length<=n->s₁.gens=#[] →
  codeAny (Nv l.prog w) S6 (.call (.ref fa) ⟨[.ref a],[]⟩) (fun r s'=>r=.ok (.ret (.bool true))/\OldK s₁.heap s'.heap/\s'.os=s₁.os/\Sk s'.gens) s₁) :
 WalkO q loose XP YP l.row.toRowW d [] (fun f vs=>S9 f vs):=by
 intro w s₀ s₁ mg mb G Y fa o pm cd doc dV kV ho hd hcd hD hmg hg args vals as hpre hlay hrd hwl hlo
 obtain rfl:dV=.none:=Dflts.none hD hdf
 obtain rfl:kV=.none:=Dflts.noKw hD
 obtain ⟨a,vs,ns,rfl,rfl,hobj,hints,hlen⟩:=vK hn hpre hwl
 refine enter_call (Ry (call w s₀ s₁ mg mb fa o pm cd doc a vs ns G Y ho (fd_plain hd) hcd hmg hobj hints hlen hg) fun r s' hq=>?_)
 obtain ⟨rfl,h2,h3,h4⟩:=hq
 exact ⟨.inl ⟨.bool true,.bool true,[],rfl,fun _=>rfl,.bool true,vL l _,fun _=>⟨List.Pairwise.nil,fun _ hm=>(nomatch hm)⟩⟩,h2,h3,h4⟩
section
variable {prog:Nk}{w:Nz}{A:NT}{E:MZ->M0->Prop}{s:M0}{K:Frag}
noncomputable def ledger (h:Heap) (L d:M9):List (M9×Obj):=(OG h.objs.size).filterMap fun a=>if a=L\/a=d then none else (h.get? a).map fun o=>(a,o)
end
end Att
namespace L2
open PySem PySem.Spec PyProof.Rows
theorem nZ:∀ {vs:List MZ}{ns:List Int},IntsAre vs ns->cX (ns.map V.int) vs
 | _,_,.nil=>.nil
 | _,_,.cons n t h=>.cons ⟨t,rfl⟩ (nZ h)
end L2
namespace L2
open PySem PySem.Spec PyProof.Rows
noncomputable abbrev KOf {K:MV}{h:Heap} (_:K.In h):MV:=K
end L2
/- THE LAST THEOREM (shape;LID,My.* are yours):
 My.Adr: a structure of the addresses that your layer names (classes,functions);My.Txt K t: a structure (Prop) of the equations over K;
 My.txt_mk:{K}{implicit addresses ..} (e1:nsIn K Nj "law"=some (some (.ref f))) (e2:K.lookup f=some ⟨oc,od,.func (fnOf "law" "law" params body scope dV kV doc pm an cdv ct),sl⟩) (e3:codeIn K cdv "law"=true) ..:∃ t,My.Txt K t
set_option maxRecDepth 100000 in
set_option maxHeartbeats 0 in
theorem PySem.Challenge.AN:PySem.Challenge.rw_LID.Holds:=by
 w_on;o_law;k_head;(case hw=>w_witness2)
 k_fill
 refine L2.walk_of (l:=PySem.Challenge.rw_LID) (n:=63) (k:=40) (x:="script") (CX:=fun w=>..) (sp:=fun _=>My.zZ) rfl (by decide) rfl ⟨rfl,by decide,by decide⟩ (fun w h Y=>PySem.W.kIn_of Y) ?F ?S ?C
 case F =>
  intro w mg fa h KX G hmg
  have T:∃ t,My.Txt (L2.KOf KX) t:=by
   dsimp only[L2.KOf]                          -- K must stand as «<heap const> w.params» for k_is
   refine' My.txt_mk ?e1 ?e2 ?e3 ..
   (case e1=>PySem.W.k_is)                    -- in the order: a name->its address->its object->its parts
   (case e2=>PySem.W.k_is)
   ..
  obtain ⟨t,T⟩:=T
  have e0:=hmg.symm.trans (OI KX G T.law)
  cases e0                                       -- fa is the law's own address
  exact ⟨_,fun s u=>.of_eq rfl,fun base kb nb=>My.law_fn T kb nb⟩     -- if «.of_eq rfl» comes too early: refine' ⟨_,?b,fun base kb nb=>My.law_fn T kb nb⟩;exact fun s u=>.of_eq rfl
 case S=>exact fun w H a ns hl hO hS=>..
 case C=>exact ..
(the tactic k_is has no namespace: write k_is) -/
namespace L2
open PySem PySem.Spec PyProof.Rows
noncomputable abbrev CX0:CXT:=fun _ _ _ _ _ _=>False
noncomputable abbrev E0:XK:=fun _ _ _=>False
theorem n5 {X:Cx}:gC CX0 X E0:=fun _ _ _ _ _ _ _ h=>h.elim
inductive Hl (K:MV) (x qual:Str) (st:Rc) (f:M9) (fd:Oz):Prop where
 | mk (oc:MZ) (od:Option M9) (kV doc pm:MZ) (an:Option M9) (cdv ct:MZ) (osl:Array (Option MZ)) (h1:fd=Ou x qual (fk st) (dM st) (cZ st) .none kV doc pm an cdv ct) (h2:K.lookup f=some ⟨oc,od,.func fd,osl⟩) (h3:Qj K cdv qual=true):Hl K x qual st f fd
structure Fun (K:MV) (x qual:Str) (st:Rc) (f:M9) (fd:Oz):Prop where
 ex:Hl K x qual st f fd
 kp:N6 K (.ref f)=true
section
variable {P:Nk}{w:Nz}{K:MV}{mg:Str->Option MZ}{base:Heap}
theorem Fun.binds {x qual:Str}{st:Rc}{f:M9}{fd:Oz}{ps:List Str} (F:Fun K x qual st f fd)
 (h:∀ (kV doc pm:MZ) (an:Option M9) (cdv ct:MZ) (us:List MZ),us.length=ps.length->S7 (Ou x qual (fk st) (dM st) (cZ st) .none kV doc pm an cdv ct) ⟨us,[]⟩=pure (ps.zip us)):Binds K fd ps []:=by
 obtain ⟨oc,od,kV,doc,pm,an,cdv,ct,osl,rfl,lk,hcd⟩:=F.ex
 exact .all (h kV doc pm an cdv ct)
theorem D9 {x qual:Str}{st:Rc}{f:M9}{oc:MZ}{od an:Option M9}{osl:Array (Option MZ)}{kV doc pm cdv ct:MZ} (l:K.lookup f=some ⟨oc,od,.func (Ou x qual (fk st) (dM st) (cZ st) .none kV doc pm an cdv ct),osl⟩)
 (c:Qj K cdv qual=true) (k:N6 K (.ref f)=true):Fun K x qual st f (Ou x qual (fk st) (dM st) (cZ st) .none kV doc pm an cdv ct):=⟨⟨oc,od,kV,doc,pm,an,cdv,ct,osl,rfl,l,c⟩,k⟩
end
theorem n6 {n:Nat} (h:n<=1000):n < sizeLine:=Nat.lt_of_le_of_lt h (by decide)
section
variable {X:Cx}
end
end L2
end
section
namespace L2
open PySem PySem.Spec PyProof.Rows
section
variable {κ:Type} [DecidableEq κ]
noncomputable def qE (kvs:List (κ×V)) (k:κ):Option V:=(kvs.find? fun kv=>decide (kv.1=k)).map (·.2)
noncomputable def putK (kvs:List (κ×V)) (k:κ) (v:V):List (κ×V) :=
 if (kvs.any fun kv=>decide (kv.1=k))=true then kvs.map (fun kv=>if kv.1=k then (kv.1,v) else kv) else kvs++[(k,v)]
theorem qF {p:κ×V}{r:List (κ×V)}{k:κ} (e:p.1=k):qE (p :: r) k=some p.2:=by simp[qE,O6,e]
theorem qG {p:κ×V}{r:List (κ×V)}{k:κ} (e:¬ p.1=k):qE (p :: r) k=qE r k:=by simp[qE,O6,e]
theorem KV.val {kvs:List (κ×V)}{vs:List (κ×MZ)} (r:KV kvs vs) (k:κ):lI (qE kvs k) (valueAt vs k):=by
 unfold KV at r
 induction r with
 | nil=>exact OY
 | @cons p q ps qs h t ih =>
  obtain ⟨h1,h2⟩:=h
  by_cases e:p.1=k
  ·have e':q.1=k:=h1.symm.trans e
   have b:valueAt (q :: qs) k=some q.2:=by simp[valueAt,O6,e']
   rw[qF e,b];exact h2
  ·have e':¬ q.1=k:=fun z=>e (h1.trans z)
   have b:valueAt (q :: qs) k=valueAt qs k:=by simp[valueAt,O6,e']
   rw[qG e,b];exact ih
end
theorem xP {P:Nk}{w:Nz}{k:Key}{u:MZ} (r:RelV (kV k) u):(c9 P w).is k u=true:=by
 cases k with
 | inl i=>obtain ⟨t,e⟩:=(show ∃ t,u=QB i t from r);subst e;exact qu P w i t
 | inr x=>obtain ⟨t,e⟩:=(show ∃ t,u=R8 x t from r);subst e;exact eV P w x t
section
variable {P:Nk}{w:Nz}{H:Hp}{h:Heap}{a:M9}
theorem Ho {u:HO} (ok:HOk P w H h) (e:Rd H a u):fy P w H h a u:=e.ok ok
theorem Hq {kvs:List (Key×V)} (ok:HOk P w H h) (e:Rd H a (.dK kvs)):kvs.length<=sizeLine/\(a==OU)=false/\∃ vs,KV kvs vs/\h.DictOf (c9 P w) a vs :=
 show fy P w H h a (.dK kvs) from Ho ok e
end
section
variable {X:Cx}{pins:List (M9×Obj)}{σ:St}{H:Hp}{s:M0}{a:M9}{y v:V}{u r:MZ}{o:Option V}{A:NT}{E:MZ->M0->Prop}
end
end L2
end
section
namespace BT
open PySem PySem.W PyProof.Rows
noncomputable def Ends {α:Type} (n:Nat) (P:α->Prop):KasT α->Prop
 | .ret a=>P a
 | .ask i j k=>i < n/\j < n/\∀ b,Ends n P (k b)
end BT
end
section
namespace BS
open PySem PySem.W PySem.Spec PyProof.Rows
section
variable {E:MZ->M0->Prop}
end
end BS
end
section
namespace BX
open PySem PyProof.Rows
section
variable {prog:Nk}{w:Nz}{A:NT}{E:MZ->M0->Prop}{s:M0}
end
section
variable {prog:Nk}{w:Nz}{A:NT}{E:MZ->M0->Prop}{R:Result->M0->Prop}
end
section
variable {prog:Nk}{w:Nz}{A:NT}{E:MZ->M0->Prop}{s:M0}
end
section
variable {prog:Nk}{w:Nz}{A:NT}{E:MZ->M0->Prop}{s:M0}
end
end BX
end
section
namespace BX
open PySem PySem.Spec PyProof.Rows
section
variable {prog:Nk}{w:Nz}{A:NT}{E:MZ->M0->Prop}{h:Heap}{g:Array GenState}{d:Drawn}{t:Nat}{os:OsState}{a:M9}{o:Obj}
end
section
variable {prog:Nk}{w:Nz}{K:Type} [DecidableEq K] {knd:KeyKind prog w K}{A:NT}{E:MZ->M0->Prop}{s:M0}
end
end BX
end
section
namespace BT
open PySem
theorem dN {P:Prop} (h:false=true):P:=nomatch h
theorem KO {P:Prop} (h:true=false):P:=nomatch h
theorem jd {β:Type}{a:β}{P:Prop} (h:(none:Option β)=some a):P:=nomatch h
inductive D where
 | non | bl (b:Bool) | int (i:Int) | str (x:Str) | tup (xs:List D) | lst (xs:List D)
inductive FK where
 | f (x:Str) | m (c x:Str) | l (i:Nat)
 deriving DecidableEq
instance:Coe String FK:=⟨fun s=>.f (M4 s)⟩
inductive Cp where
 | p (d:D) | o (n:Nat)
noncomputable abbrev Ky:=Int ⊕ Str
inductive Kd where
 | t (kvs:List (Str×D)) | l (kvs:List (Ky×D))
inductive W where
 | p (d:D) | r (n:Nat) | k (kvs:Kd) | o (n:Nat) | c (f:FK) (cs:List Cp) | x (c:Str)
noncomputable def Cp.w:Cp->W
 | .p d=>.p d
 | .o n=>.o n
@[simp] theorem Cp.w_p (d:D):Cp.w (.p d)=.p d:=rfl
@[simp] theorem Cp.w_o (n:Nat):Cp.w (.o n)=.o n:=rfl
noncomputable def uf:W->Option Cp
 | .p d=>some (.p d)
 | .o n=>some (.o n)
 | .r _=>none
 | .k _=>none
 | .c _ _=>none
 | .x _=>none
@[simp] theorem Jq (d:D):uf (.p d)=some (.p d):=rfl
@[simp] theorem Jr (n:Nat):uf (.o n)=some (.o n):=rfl
inductive Cl where
 | l (xs:List D) | o (c:Str) (fs:List (Str×W)) | d (kvs:List (Ky×D)) | z
noncomputable abbrev HH:=List Cl
noncomputable abbrev Sl:=List (Option W)
set_option genInjectivity false in
inductive Bin where
 | add | sub | mul | mod | fdiv | pow
set_option genInjectivity false in
inductive Cm where
 | eq | ne | lt | le | gt | ge | isN | notN | mem | nmem
set_option genInjectivity false in
inductive Sr where
 | seq | rng1 | rng2 | rev | enu | zip2 | rng3 | itm | chs | zipG
inductive Bi where
 | len | abs | int | str | bool | list | tuple | all | any | isInt | isBool | isStr | isTuple | isList | min2 | max2
 | sum | sorted | max1 | lzip | nset | sset | maxd | lrng3
set_option genInjectivity false in
inductive Me where
 | append | pop | extend | tindex | sindex | dget | count | lindex
inductive Tx where
 | join | split | str | intS | all | inS | ninS | dget | pre
inductive Dk where
 | of | ks | so | it
set_option genInjectivity false in
mutual
inductive E where
 | var (i:Nat)
 | cst (d:D)
 | glo (x:Str)
 | bin (o:Bin) (a b:E)
 | neg (a:E)
 | not (a:E)
 | and (a b:E)
 | or (a b:E)
 | cmp (o:Cm) (a b:E)
 | chain (o o':Cm) (a b c:E)
 | ite (c a b:E)
 | tup (as:Es)
 | lst (mu:Bool) (as:Es)
 | idx (a i:E)
 | slc (a:E) (lo hi:Es)
 | rvs (a:E)
 | stp (mu:Bool) (k:Int) (a:E)
 | call (f:Str) (as:Es)
 | fld (a:E) (f:Str)
 | meth (o:E) (m:Str) (as:Es)
 | make (c:Str) (as:Es)
 | bi (b:Bi) (mu:Bool) (as:Es)
 | lsr (mu:Bool) (sr:Sr) (as:Es)
 | me (m:Me) (o:E) (as:Es)
 | comp (mu:Bool) (sr:Sr) (sa:Es) (tg:List Str) (fv:List (Nat×Str)) (cond:Es) (elt:E)
 | callv (i:Nat) (as:Es)
 | methL (o:E) (m:Str) (as:Es) (L:Nat) (fv:List (Nat×Str))
 | tx (k:Tx) (as:Es)
 | dlit (kvs:List (Str×D))
inductive Es where
 | nil
 | cons (a:E) (as:Es)
end
set_option genInjectivity false in
inductive S where
 | nil
 | seq (a b:S)
 | set (i:Nat) (e:E)
 | unp (xs:List (Nat×Str)) (e:E)
 | aug (i:Nat) (o:Bin) (e:E)
 | put (i:Nat) (k e:E)
 | setf (o:E) (f:Str) (e:E)
 | augf (o:E) (f:Str) (op:Bin) (e:E)
 | ex (e:E)
 | ret (e:E)
 | ife (c:E) (a b:S)
 | whl (c:E) (b:S)
 | for (tg:List (Nat×Str)) (sr:Sr) (sa:Es) (b:S)
 | brk | cnt
 | bad
 | rai (c:Str) (e:E)
set_option genInjectivity false in
structure Fn where
 ps:List Str
 ns:List Str
 body:S
noncomputable def bnd {α β:Type} (x:Option (α×HH)) (k:α->HH->Option β):Option β :=
 match x with | some (a,h)=>k a h | none=>none
@[simp] theorem dh (a:α) (h:HH) (k:α->HH->Option β):bnd (some (a,h)) k=k a h:=rfl
@[simp] theorem Hr (k:α->HH->Option β):bnd none k=none:=rfl
@[simp] noncomputable def lim:Nat:=100000
mutual
@[simp] noncomputable def eqv:D->D->Bool
 | .non,.non=>true
 | .bl a,.bl b=>a==b
 | .bl a,.int j=>(if a then (1:Int) else 0)==j
 | .int i,.bl b=>i==(if b then (1:Int) else 0)
 | .int i,.int j=>i==j
 | .str x,.str y=>x==y
 | .tup xs,.tup ys=>nA xs ys
 | .lst xs,.lst ys=>nA xs ys
 | _,_=>false
@[simp] noncomputable def nA:List D->List D->Bool
 | [],[]=>true
 | x :: xs,y :: ys=>eqv x y&&nA xs ys
 | _,_=>false
end
noncomputable def qH:Cl->Option (List D)
 | .l xs=>some xs
 | .o _ _=>none
 | .d _=>none
 | .z=>none
noncomputable def qI:Cl->Option (Str×List (Str×W))
 | .l _=>none
 | .o c fs=>some (c,fs)
 | .d _=>none
 | .z=>none
noncomputable def xQ:Cl->Option (List (Ky×D))
 | .l _=>none
 | .o _ _=>none
 | .d kvs=>some kvs
 | .z=>none
@[simp] theorem KP (kvs:List (Ky×D)):qH (.d kvs)=none:=rfl
@[simp] theorem KQ (kvs:List (Ky×D)):qI (.d kvs)=none:=rfl
@[simp] theorem KR (kvs:List (Ky×D)):xQ (.d kvs)=some kvs:=rfl
@[simp] theorem KS:qH .z=none:=rfl
@[simp] theorem KU:qI .z=none:=rfl
@[simp] theorem KW:xQ .z=none:=rfl
@[simp] theorem KY (xs:List D):xQ (.l xs)=none:=rfl
@[simp] theorem KZ (c:Str) (fs:List (Str×W)):xQ (.o c fs)=none:=rfl
@[simp] theorem K0 (xs:List D):qH (.l xs)=some xs:=rfl
@[simp] theorem K1 (c:Str) (fs:List (Str×W)):qH (.o c fs)=none:=rfl
@[simp] theorem K2 (xs:List D):qI (.l xs)=none:=rfl
@[simp] theorem K3 (c:Str) (fs:List (Str×W)):qI (.o c fs)=some (c,fs):=rfl
noncomputable def lat (h:HH) (n:Nat):Option (List D):=(h[n]?).bind qH
noncomputable def oat (h:HH) (n:Nat):Option (Str×List (Str×W)):=(h[n]?).bind qI
noncomputable def dat (h:HH) (n:Nat):Option (List (Ky×D)):=(h[n]?).bind xQ
noncomputable def nB:D->Option Ky
 | .non=>none
 | .bl _=>none
 | .int i=>some (.inl i)
 | .str x=>some (.inr x)
 | .tup _=>none
 | .lst _=>none
@[simp] theorem Hs (i:Int):nB (.int i)=some (.inl i):=rfl
@[simp] theorem Hu (x:Str):nB (.str x)=some (.inr x):=rfl
noncomputable def Ea:Ky->D
 | .inl i=>.int i
 | .inr x=>.str x
@[simp] theorem K4 (i:Int):Ea (.inl i)=.int i:=rfl
@[simp] theorem K5 (x:Str):Ea (.inr x)=.str x:=rfl
noncomputable def eW (kvs:List (Ky×D)) (k:Ky):Option D:=(kvs.find? fun kv=>decide (kv.1=k)).map (·.2)
noncomputable def C2 (kvs:List (Ky×D)) (k:Ky) (v:D):List (Ky×D) :=
 if (kvs.any fun kv=>decide (kv.1=k))=true then kvs.map (fun kv=>if kv.1=k then (kv.1,v) else kv) else kvs++[(k,v)]
noncomputable def rd (w:W) (h:HH):Option D:=match w with
 | .p d=>some d
 | .r n=>(lat h n).map D.lst
 | .k _=>none
 | .o _=>none
 | .c _ _=>none
 | .x _=>none
@[simp] theorem K6 (d:D) (h:HH):rd (.p d) h=some d:=rfl
noncomputable def big (i:Int):Bool:=decide (i.natAbs < 2 ^ 64)
noncomputable def rep (k:Nat) (xs:List D):List D:=(Nn k xs).flatten
noncomputable def je:Bin->D->D->Option D
 | .add,.int i,.int j=>some (.int (i+j))
 | .add,.str x,.str y=>if x.length+y.length<=lim then some (.str (x++y)) else none
 | .add,.tup xs,.tup ys=>if xs.length+ys.length<=lim then some (.tup (xs++ys)) else none
 | .add,.lst xs,.lst ys=>if xs.length+ys.length<=lim then some (.lst (xs++ys)) else none
 | .sub,.int i,.int j=>some (.int (i - j))
 | .mul,.int i,.int j=>if big i||big j then some (.int (i*j)) else none
 | .mul,.tup xs,.int k=>if 2<=k&&k<=1000&&!xs.isEmpty&&xs.length*k.toNat<=lim then some (.tup (rep k.toNat xs)) else none
 | .mul,.lst xs,.int k=>if -1000<=k&&k<=1000&&xs.length*k.toNat<=lim then some (.lst (rep k.toNat xs)) else none
 | .mod,.int i,.int j=>if 0 < j then some (.int (i % j)) else none
 | .fdiv,.int i,.int j=>if 0 < j&&j < 1073741824 then some (.int (i / j)) else none
 | .pow,.int i,.int j=>if 0<=j&&j<=100&&big i then some (.int (i ^ j.toNat)) else none
 | _,_,_=>none
noncomputable def lR:Bin->D->D->Option D
 | .add,.int i,.int j=>some (.int (i+j))
 | .sub,.int i,.int j=>some (.int (i - j))
 | .mul,.int i,.int j=>if big i||big j then some (.int (i*j)) else none
 | _,_,_=>none
@[simp] theorem Hv (i j:Int):lR .add (.int i) (.int j)=some (.int (i+j)):=rfl
@[simp] theorem Hw (i j:Int):lR .sub (.int i) (.int j)=some (.int (i - j)):=rfl
@[simp] theorem qJ (i j:Int):lR .mul (.int i) (.int j)=if big i||big j then some (.int (i*j)) else none:=rfl
@[simp] noncomputable def place (n:Nat) (i:Int):Option Nat :=
 if 0<=i then (if i < n then some i.toNat else none) else if -(n:Int)<=i then some (i+n).toNat else none
@[simp] noncomputable def atP {α:Type} (xs:List α) (i:Int):Option α:=(place xs.length i).bind fun j=>xs[j]?
@[simp] noncomputable def dD (k:Str):List (Str×D)->Option D
 | []=>none
 | (x,d) :: r=>if k=x then some d else dD k r
noncomputable def fc:D->D->Option D
 | .tup xs,.int i=>atP xs i
 | .lst xs,.int i=>atP xs i
 | .str x,.int i=>if x.length<=lim then (atP x.cps.toList i).map fun c=>.str ⟨#[c]⟩ else none
 | _,_=>none
@[simp] noncomputable def clip (n d:Nat):Option Int->Nat
 | none=>d
 | some v=>if v < 0 then (v+(n:Int)).toNat else if v<=(n:Int) then v.toNat else n
@[simp] noncomputable def cut (xs:List D) (lo hi:Option Int):List D:=(xs.drop (clip xs.length 0 lo)).take (clip xs.length xs.length hi - clip xs.length 0 lo)
@[simp] noncomputable def o4:List D->Option (Option Int)
 | []=>some none
 | [.int i]=>some (some i)
 | _=>none
noncomputable def nC (x:D) (lo hi:Option Int):Option D:=match x with
 | .tup xs=>some (.tup (cut xs lo hi))
 | .lst xs=>some (.lst (cut xs lo hi))
 | _=>none
noncomputable def dok:Nat->D->Bool
 | _,.non=>true
 | _,.bl _=>true
 | _,.int _=>true
 | _,.str _=>true
 | 0,.tup _=>false
 | 0,.lst _=>false
 | n+1,.tup xs=>xs.all (dok n)
 | n+1,.lst xs=>xs.all (dok n)
@[simp] theorem Js (n:Nat):dok n .non=true:=by cases n<;>rfl
@[simp] theorem K7 (n:Nat) (b:Bool):dok n (.bl b)=true:=by cases n<;>rfl
@[simp] theorem Jt (n:Nat) (i:Int):dok n (.int i)=true:=by cases n<;>rfl
@[simp] theorem AO (n:Nat) (x:Str):dok n (.str x)=true:=by cases n<;>rfl
@[simp] theorem o5 (n:Nat) (xs:List D):dok (n+1) (.tup xs)=xs.all (dok n):=rfl
@[simp] theorem AQ (n:Nat) (xs:List D):dok (n+1) (.lst xs)=xs.all (dok n):=rfl
noncomputable def dW (x y:D):Bool:=dok 100 x||dok 100 y
@[simp] theorem Hx (x:D) (y:Str):dW x (.str y)=true:=by simp[dW]
@[simp] theorem Hy (x:D) (y:Int):dW x (.int y)=true:=by simp[dW]
@[simp] theorem Ge (x:D) (y:Str):dW (.str y) x=true:=by simp[dW]
@[simp] theorem Gf (x:D) (y:Int):dW (.int y) x=true:=by simp[dW]
@[simp] theorem Gg (x:D):dW x (.tup [])=true:=by simp[dW,dok]
@[simp] theorem Gi (x:D):dW x (.lst [])=true:=by simp[dW,dok]
@[simp] theorem Ju (x:D) (b:Bool):dW x (.bl b)=true:=by simp[dW]
theorem sd (h:dok 100 y=true):dW x y=true:=by simp[dW,h]
noncomputable def iw:D->Bool
 | .non=>true
 | .bl _=>false
 | .int _=>false
 | .str _=>false
 | .tup _=>false
 | .lst _=>false
@[simp] theorem Gj:iw .non=true:=rfl
@[simp] theorem Hz (z:Bool):iw (.bl z)=false:=rfl
@[simp] theorem Gk (z:Int):iw (.int z)=false:=rfl
@[simp] theorem Gm (z:Str):iw (.str z)=false:=rfl
@[simp] theorem Gn (z:List D):iw (.tup z)=false:=rfl
@[simp] theorem Gp (z:List D):iw (.lst z)=false:=rfl
noncomputable def o6 (b:Bool):D->Bool
 | .non=>false
 | .bl c=>c==b
 | .int _=>false
 | .str _=>false
 | .tup _=>false
 | .lst _=>false
@[simp] theorem HA (b:Bool):o6 b .non=false:=rfl
@[simp] theorem Jv (b z:Bool):o6 b (.bl z)=(z==b):=rfl
@[simp] theorem HB (b:Bool) (z:Int):o6 b (.int z)=false:=rfl
@[simp] theorem HC (b:Bool) (z:Str):o6 b (.str z)=false:=rfl
@[simp] theorem HD (b:Bool) (z:List D):o6 b (.tup z)=false:=rfl
@[simp] theorem HE (b:Bool) (z:List D):o6 b (.lst z)=false:=rfl
noncomputable def fG:Cm->D->D->Option Bool
 | .eq,x,y=>if dW x y then some (eqv x y) else none
 | .ne,x,y=>if dW x y then some (!eqv x y) else none
 | .lt,.int i,.int j=>some (decide (i < j))
 | .le,.int i,.int j=>some (decide (i<=j))
 | .gt,.int i,.int j=>some (decide (j < i))
 | .ge,.int i,.int j=>some (decide (j<=i))
 | .isN,x,.non=>some (iw x)
 | .notN,x,.non=>some (!iw x)
 | .notN,x,.bl b=>some (!o6 b x)
 | .mem,x,.tup ys=>if ys.all fun y=>dW y x then some (ys.any fun y=>eqv y x) else none
 | .mem,x,.lst ys=>if ys.all fun y=>dW y x then some (ys.any fun y=>eqv y x) else none
 | .nmem,x,.tup ys=>if ys.all fun y=>dW y x then some (!ys.any fun y=>eqv y x) else none
 | .nmem,x,.lst ys=>if ys.all fun y=>dW y x then some (!ys.any fun y=>eqv y x) else none
 | _,_,_=>none
@[simp] noncomputable def intsOf:List D->Option (List Int)
 | []=>some []
 | .int i :: r=>(intsOf r).map (i :: ·)
 | _=>none
@[simp] noncomputable def allB:List D->Option Bool
 | []=>some true
 | .bl b :: r=>if b then allB r else some false
 | _=>none
@[simp] noncomputable def anyB:List D->Option Bool
 | []=>some false
 | .bl b :: r=>if b then some true else anyB r
 | _=>none
noncomputable def isI:D->Bool
 | .non=>false
 | .bl _=>true
 | .int _=>true
 | .str _=>false
 | .tup _=>false
 | .lst _=>false
@[simp] theorem Jw:isI .non=false:=rfl
@[simp] theorem K8 (z:Bool):isI (.bl z)=true:=rfl
@[simp] theorem Jx (z:Int):isI (.int z)=true:=rfl
@[simp] theorem Jy (z:Str):isI (.str z)=false:=rfl
@[simp] theorem Jz (z:List D):isI (.tup z)=false:=rfl
@[simp] theorem JA (z:List D):isI (.lst z)=false:=rfl
noncomputable def isB:D->Bool
 | .non=>false
 | .bl _=>true
 | .int _=>false
 | .str _=>false
 | .tup _=>false
 | .lst _=>false
@[simp] theorem JB:isB .non=false:=rfl
@[simp] theorem K9 (z:Bool):isB (.bl z)=true:=rfl
@[simp] theorem JC (z:Int):isB (.int z)=false:=rfl
@[simp] theorem JD (z:Str):isB (.str z)=false:=rfl
@[simp] theorem JE (z:List D):isB (.tup z)=false:=rfl
@[simp] theorem JF (z:List D):isB (.lst z)=false:=rfl
noncomputable def isS:D->Bool
 | .non=>false
 | .bl _=>false
 | .int _=>false
 | .str _=>true
 | .tup _=>false
 | .lst _=>false
@[simp] theorem JG:isS .non=false:=rfl
@[simp] theorem La (z:Bool):isS (.bl z)=false:=rfl
@[simp] theorem JH (z:Int):isS (.int z)=false:=rfl
@[simp] theorem JI (z:Str):isS (.str z)=true:=rfl
@[simp] theorem JJ (z:List D):isS (.tup z)=false:=rfl
@[simp] theorem JK (z:List D):isS (.lst z)=false:=rfl
noncomputable def isT:D->Bool
 | .non=>false
 | .bl _=>false
 | .int _=>false
 | .str _=>false
 | .tup _=>true
 | .lst _=>false
@[simp] theorem JL:isT .non=false:=rfl
@[simp] theorem Lb (z:Bool):isT (.bl z)=false:=rfl
@[simp] theorem JM (z:Int):isT (.int z)=false:=rfl
@[simp] theorem JN (z:Str):isT (.str z)=false:=rfl
@[simp] theorem JO (z:List D):isT (.tup z)=true:=rfl
@[simp] theorem JP (z:List D):isT (.lst z)=false:=rfl
noncomputable def isL:D->Bool
 | .non=>false
 | .bl _=>false
 | .int _=>false
 | .str _=>false
 | .tup _=>false
 | .lst _=>true
@[simp] theorem JQ:isL .non=false:=rfl
@[simp] theorem Lc (z:Bool):isL (.bl z)=false:=rfl
@[simp] theorem JR (z:Int):isL (.int z)=false:=rfl
@[simp] theorem JS (z:Str):isL (.str z)=false:=rfl
@[simp] theorem JT (z:List D):isL (.tup z)=false:=rfl
@[simp] theorem JU (z:List D):isL (.lst z)=true:=rfl
noncomputable def sortI (ns:List Int):List Int:=ns.mergeSort fun a b=>decide (a<=b)
noncomputable def HF:List Int->Option Int
 | []=>none
 | n :: ns=>some (ns.foldl max n)
@[simp] noncomputable def gY:List D->List D->List D
 | x :: xs,y :: ys=>.tup [x,y] :: gY xs ys
 | _,_=>[]
noncomputable def ded (ns:List Int):List Int:=ns.foldl (fun σ v=>if σ.any (·==v) then σ else σ++[v]) []
noncomputable def HG (a b c:Int):Nat:=if a < b then ((b - a - 1) / c+1).toNat else 0
noncomputable def stepI (a c:Int) (n:Nat):List Int:=(OG n).map fun (k:Nat)=>a+(k:Int)*c
noncomputable def biD:Bi->List D->Option D
 | .len,[.tup xs]=>some (.int xs.length)
 | .len,[.lst xs]=>some (.int xs.length)
 | .len,[.str x]=>if x.length<=lim then some (.int x.length) else none
 | .abs,[.int i]=>some (.int (if i < 0 then -i else i))
 | .int,[.int i]=>some (.int i)
 | .int,[.bl b]=>some (.int (if b then 1 else 0))
 | .str,[.int i]=>if big i then some (.str (toString i)) else none
 | .tuple,[.lst xs]=>some (.tup xs)
 | .tuple,[.tup xs]=>some (.tup xs)
 | .list,[.lst xs]=>some (.lst xs)
 | .list,[.tup xs]=>some (.lst xs)
 | .all,[.lst xs]=>(allB xs).map .bl
 | .any,[.lst xs]=>(anyB xs).map .bl
 | .isInt,[x]=>some (.bl (isI x))
 | .isBool,[x]=>some (.bl (isB x))
 | .isStr,[x]=>some (.bl (isS x))
 | .isTuple,[x]=>some (.bl (isT x))
 | .isList,[x]=>some (.bl (isL x))
 | .min2,[.int i,.int j]=>some (.int (if j < i then j else i))
 | .max2,[.int i,.int j]=>some (.int (if j > i then j else i))
 | .sorted,[.lst xs]=>(intsOf xs).bind fun ns=>if ns.length < 64 then some (.lst ((sortI ns).map .int)) else none
 | .max1,[.lst xs]=>(intsOf xs).bind fun ns=>(HF ns).map .int
 | .sum,[.lst xs]=>(intsOf xs).map fun ns=>.int ns.sum
 | .nset,[.lst xs]=>(intsOf xs).bind fun ns=>if ns.length < 1000 then some (.int ((ded ns).length:Nat)) else none
 | .sset,[.lst xs]=>(intsOf xs).bind fun ns=>if ns.length < 64 then some (.lst ((sortI (ded ns)).map .int)) else none
 | .lzip,[.tup xs,.tup ys]=>if 0 < xs.length/\xs.length=ys.length then some (.lst (gY xs ys)) else none
 | .maxd,[.lst xs,.int d]=>(intsOf xs).map fun ns=>.int ((HF ns).getD d)
 | .lrng3,[.int a,.int b,.int c]=>if 0 < c&&c<=100000&&-100000<=a&&a<=100000&&-100000<=b&&b<=100000 then some (.lst ((stepI a c (HG a b c)).map .int)) else none
 | _,_=>none
@[simp] noncomputable def j5:Nat->List D->List D
 | _,[]=>[]
 | k,x :: r=>.tup [.int k,x] :: j5 (k+1) r
noncomputable def o7:D->Option (List D)
 | .tup xs=>some xs
 | .lst xs=>some xs
 | _=>none
noncomputable def upto (lo:Int) (n:Nat):List D:=(OG n).map fun (k:Nat)=>D.int (lo+(k:Int))
noncomputable def down (a:Int) (n:Nat):List D:=(OG n).map fun i=>.int (a - (i:Nat))
noncomputable def nE (x:Str):List D:=x.cps.toList.map fun c=>.str ⟨#[c]⟩
noncomputable def xR:D->Option (List D)
 | .tup xs=>some xs
 | .lst xs=>some xs
 | .str x=>some (nE x)
 | _=>none
noncomputable def fH:Sr->List D->Option (List D)
 | .seq,[x]=>o7 x
 | .rng1,[.int n]=>if -100000<=n&&n<=100000 then some (upto 0 n.toNat) else none
 | .rng2,[.int a,.int b]=>if -100000<=a&&a<=100000&&-100000<=b&&b<=100000 then some (upto a (b - a).toNat) else none
 | .rev,[.lst xs]=>some xs.reverse
 | .enu,[.lst xs]=>some (j5 0 xs)
 | .zip2,[.lst xs,.lst ys]=>some (gY xs ys)
 | .itm,[.lst xs]=>some xs
 | .chs,[.str x]=>some (nE x)
 | .zipG,[x,y]=>(xR x).bind fun xs=>(xR y).map (gY xs)
 | .rng3,[.int a,.int b,.int c]=>if c=-1/\-100000<=a/\a<=100000/\-100000<=b/\b<=100000 then some (down a (a - b).toNat) else none
 | _,_=>none
@[simp] noncomputable def iy (x:D):List D->Nat->Option Nat
 | [],_=>none
 | y :: r,k=>if eqv y x then some k else iy x r (k+1)
@[simp] noncomputable def HJ (c:Nat):List Nat->Nat->Option Nat
 | [],_=>none
 | y :: r,k=>if y=c then some k else HJ c r (k+1)
@[simp] noncomputable def dm:List W->Option (List D)
 | []=>some []
 | .p d :: r=>(dm r).map (d :: ·)
 | .r _ :: _=>none
 | .k _ :: _=>none
 | .o _ :: _=>none
 | .c _ _ :: _=>none
 | .x _ :: _=>none
noncomputable def meD:Me->D->List D->Option D
 | .tindex,.tup xs,[x]=>if xs.all fun y=>dW y x then (iy x xs 0).map fun (q:Nat)=>D.int (q:Int) else none
 | .sindex,.str x,[.str y]=>match Ob x y 0 x.length 1 with
  | i :: _=>some (.int (i:Int))
  | []=>none
 | .count,.lst xs,[x]=>if xs.all fun y=>dW y x then some (.int ((xs.countP fun y=>eqv y x:Nat):Int)) else none
 | .lindex,.lst xs,[x]=>if xs.all fun y=>dW y x then (iy x xs 0).map fun (q:Nat)=>D.int (q:Int) else none
 | _,_,_=>none
theorem Eb:meD .count (.lst xs) [x]=if xs.all fun y=>dW y x then some (.int ((xs.countP fun y=>eqv y x:Nat):Int)) else none:=rfl
theorem Ec:meD .lindex (.lst xs) [x]=if xs.all fun y=>dW y x then (iy x xs 0).map fun (q:Nat)=>D.int (q:Int) else none:=rfl
theorem Ed:meD .tindex (.tup xs) [x]=if xs.all fun y=>dW y x then (iy x xs 0).map fun (q:Nat)=>D.int (q:Int) else none:=rfl
theorem Ef:meD .sindex (.str x) [.str y]=match Ob x y 0 x.length 1 with
 | i :: _=>some (.int (i:Int))
 | []=>none:=rfl
noncomputable def meW (m:Me) (o:W) (as:List W) (h:HH):Option (W×HH):=match m,o,as with
 | .append,.r n,[.p d]=>match lat h n with
  | some xs=>if xs.length < lim then some (.p .non,h.set n (.l (xs++[d]))) else none
  | none=>none
 | .pop,.r n,[]=>match lat h n with
  | some xs=>match xs.getLast? with
   | some d=>some (.p d,h.set n (.l xs.dropLast))
   | none=>none
  | none=>none
 | .extend,.r n,[w]=>match lat h n,(rd w h).bind o7 with
  | some xs,some ys=>if xs.length+ys.length<=lim then some (.p .non,h.set n (.l (xs++ys))) else none
  | _,_=>none
 | .dget,.k (.t kvs),[.p (.str x)]=>some (.p ((dD x kvs).getD .non),h)
 | .dget,.k (.t _),[.p .non]=>some (.p .non,h)
 | .dget,.k (.t kvs),[.p (.str x),.p d]=>some (.p ((dD x kvs).getD d),h)
 | m,.p d,as=>match dm as with
  | some ds=>(meD m d ds).map fun x=>(.p x,h)
  | none=>none
 | _,_,_=>none
section
variable (n:Nat) (d:D) (h:HH) (kvs:List (Str×D)) (x:Str) (as:List W)
@[simp] theorem sf:meW .append (.r n) [.p d] h=match lat h n with
 | some xs=>if xs.length < lim then some (.p .non,h.set n (.l (xs++[d]))) else none
 | none=>none:=rfl
@[simp] theorem AR:meW .pop (.r n) [] h=match lat h n with
 | some xs=>match xs.getLast? with
  | some d=>some (.p d,h.set n (.l xs.dropLast))
  | none=>none
 | none=>none:=rfl
@[simp] theorem sj (w:W):meW .extend (.r n) [w] h=match lat h n,(rd w h).bind o7 with
 | some xs,some ys=>if xs.length+ys.length<=lim then some (.p .non,h.set n (.l (xs++ys))) else none
 | _,_=>none:=rfl
@[simp] theorem HK:meW .dget (.k (.t kvs)) [.p (.str x)] h=some (.p ((dD x kvs).getD .non),h):=rfl
@[simp] theorem Eg:meW .dget (.k (.t kvs)) [.p .non] h=some (.p .non,h):=rfl
@[simp] theorem Gq:meW .dget (.k (.t kvs)) [.p (.str x),.p d] h=some (.p ((dD x kvs).getD d),h):=rfl
@[simp] theorem lS:meW .tindex (.p d) as h=match dm as with
 | some ds=>(meD .tindex d ds).map fun x=>(.p x,h)
 | none=>none:=rfl
@[simp] theorem vM:meW .count (.p d) as h=match dm as with
 | some ds=>(meD .count d ds).map fun x=>(.p x,h)
 | none=>none:=rfl
@[simp] theorem su:meW .lindex (.p d) as h=match dm as with
 | some ds=>(meD .lindex d ds).map fun x=>(.p x,h)
 | none=>none:=rfl
@[simp] theorem lT:meW .sindex (.p d) as h=match dm as with
 | some ds=>(meD .sindex d ds).map fun x=>(.p x,h)
 | none=>none:=rfl
end
noncomputable def new (mu:Bool) (xs:List D) (h:HH):W×HH:=if mu then (.r h.length,h++[.l xs]) else (.p (.lst xs),h)
@[simp] theorem MA (xs:List D) (h:HH):new false xs h=(.p (.lst xs),h):=rfl
@[simp] theorem MB (xs:List D) (h:HH):new true xs h=(.r h.length,h++[.l xs]):=rfl
@[simp] noncomputable def rds (ws:List W) (h:HH):Option (List D):=match ws with
 | []=>some []
 | w :: r=>(rd w h).bind fun d=>(rds r h).map (d :: ·)
noncomputable def unpack (n:Nat):D->Option (List D)
 | .tup xs=>if xs.length=n then some xs else none
 | .lst xs=>if xs.length=n then some xs else none
 | _=>none
noncomputable def target (n:Nat) (d:D):Option (List D):=if n=1 then some [d] else unpack n d
section
variable (i j k a b:Int) (c:Bool) (x y:Str) (xs ys:List D) (kvs:List (Str×D)) (d e:D) (lo hi:Option Int)
@[simp] theorem qK:je .add (.int i) (.int j)=some (.int (i+j)):=rfl
@[simp] theorem jf:je .add (.str x) (.str y)=if x.length+y.length<=lim then some (.str (x++y)) else none:=rfl
@[simp] theorem lU:je .add (.tup xs) (.tup ys)=if xs.length+ys.length<=lim then some (.tup (xs++ys)) else none:=rfl
@[simp] theorem lV:je .add (.lst xs) (.lst ys)=if xs.length+ys.length<=lim then some (.lst (xs++ys)) else none:=rfl
@[simp] theorem lW:je .sub (.int i) (.int j)=some (.int (i - j)):=rfl
@[simp] theorem qL:je .mul (.int i) (.int j)=if big i||big j then some (.int (i*j)) else none:=rfl
@[simp] theorem lX:je .mul (.tup xs) (.int k)=if 2<=k&&k<=1000&&!xs.isEmpty&&xs.length*k.toNat<=lim then some (.tup (rep k.toNat xs)) else none:=rfl
@[simp] theorem lY:je .mul (.lst xs) (.int k)=if -1000<=k&&k<=1000&&xs.length*k.toNat<=lim then some (.lst (rep k.toNat xs)) else none:=rfl
@[simp] theorem lZ:je .mod (.int i) (.int j)=if 0 < j then some (.int (i % j)) else none:=rfl
@[simp] theorem j6:je .fdiv (.int i) (.int j)=if 0 < j&&j < 1073741824 then some (.int (i / j)) else none:=rfl
@[simp] theorem mh:je .pow (.int i) (.int j)=if 0<=j&&j<=100&&big i then some (.int (i ^ j.toNat)) else none:=rfl
@[simp] theorem mj:fc (.tup xs) (.int i)=atP xs i:=rfl
@[simp] theorem eB:fc (.lst xs) (.int i)=atP xs i:=rfl
@[simp] theorem iz:fc (.str x) (.int i)=if x.length<=lim then (atP x.cps.toList i).map fun c=>.str ⟨#[c]⟩ else none:=rfl
@[simp] theorem xS:nC (.tup xs) lo hi=some (.tup (cut xs lo hi)):=rfl
@[simp] theorem sA:nC (.lst xs) lo hi=some (.lst (cut xs lo hi)):=rfl
@[simp] theorem kY:fG .eq d e=if dW d e then some (eqv d e) else none:=rfl
@[simp] theorem AS:fG .ne d e=if dW d e then some (!eqv d e) else none:=rfl
@[simp] theorem kZ:fG .lt (.int i) (.int j)=some (decide (i < j)):=rfl
@[simp] theorem k8:fG .le (.int i) (.int j)=some (decide (i<=j)):=rfl
@[simp] theorem k9:fG .gt (.int i) (.int j)=some (decide (j < i)):=rfl
@[simp] theorem lg:fG .ge (.int i) (.int j)=some (decide (j<=i)):=rfl
@[simp] theorem jC:fG .isN d .non=some (iw d):=rfl
@[simp] theorem iN:fG .notN d .non=some (!iw d):=rfl
@[simp] theorem vN {b:Bool}:fG .notN d (.bl b)=some (!o6 b d):=rfl
@[simp] theorem dZ:fG .mem d (.tup ys)=if ys.all fun y=>dW y d then some (ys.any fun y=>eqv y d) else none:=rfl
@[simp] theorem gD:fG .mem d (.lst ys)=if ys.all fun y=>dW y d then some (ys.any fun y=>eqv y d) else none:=rfl
@[simp] theorem fX:fG .nmem d (.tup ys)=if ys.all fun y=>dW y d then some (!ys.any fun y=>eqv y d) else none:=rfl
@[simp] theorem fY:fG .nmem d (.lst ys)=if ys.all fun y=>dW y d then some (!ys.any fun y=>eqv y d) else none:=rfl
@[simp] theorem Gs:biD .len [.tup xs]=some (.int xs.length):=rfl
@[simp] theorem Gu:biD .len [.lst xs]=some (.int xs.length):=rfl
@[simp] theorem vO:biD .len [.str x]=if x.length<=lim then some (.int x.length) else none:=rfl
@[simp] theorem JV:biD .abs [.int i]=some (.int (if i < 0 then -i else i)):=rfl
@[simp] theorem JW:biD .int [.int i]=some (.int i):=rfl
@[simp] theorem Gv:biD .int [.bl c]=some (.int (if c then 1 else 0)):=rfl
@[simp] theorem JX:biD .str [.int i]=if big i then some (.str (toString i)) else none:=rfl
@[simp] theorem C3:biD .tuple [.lst xs]=some (.tup xs):=rfl
@[simp] theorem C4:biD .tuple [.tup xs]=some (.tup xs):=rfl
@[simp] theorem Eh:biD .list [.lst xs]=some (.lst xs):=rfl
@[simp] theorem Ei:biD .list [.tup xs]=some (.lst xs):=rfl
@[simp] theorem JY:biD .all [.lst xs]=(allB xs).map .bl:=rfl
@[simp] theorem JZ:biD .any [.lst xs]=(anyB xs).map .bl:=rfl
@[simp] theorem Gw:biD .isInt [d]=some (.bl (isI d)):=rfl
@[simp] theorem Ej:biD .isBool [d]=some (.bl (isB d)):=rfl
@[simp] theorem Gx:biD .isStr [d]=some (.bl (isS d)):=rfl
@[simp] theorem C5:biD .isTuple [d]=some (.bl (isT d)):=rfl
@[simp] theorem Ek:biD .isList [d]=some (.bl (isL d)):=rfl
@[simp] theorem J0:biD .min2 [.int i,.int j]=some (.int (if j < i then j else i)):=rfl
@[simp] theorem J3:biD .max2 [.int i,.int j]=some (.int (if j > i then j else i)):=rfl
@[simp] theorem Ld:o7 (.tup xs)=some xs:=rfl
@[simp] theorem Lf:o7 (.lst xs)=some xs:=rfl
@[simp] theorem xT:fH .seq [d]=o7 d:=rfl
@[simp] theorem vP:fH .rng1 [.int a]=if -100000<=a&&a<=100000 then some (upto 0 a.toNat) else none:=rfl
@[simp] theorem Gy:fH .rng2 [.int a,.int b]=if -100000<=a&&a<=100000&&-100000<=b&&b<=100000 then some (upto a (b - a).toNat) else none:=rfl
theorem vQ {c:Int}:fH .rng3 [.int a,.int b,.int c]=if c=-1/\-100000<=a/\a<=100000/\-100000<=b/\b<=100000 then some (down a (a - b).toNat) else none:=rfl
@[simp] theorem HL:fH .rev [.lst xs]=some xs.reverse:=rfl
@[simp] theorem HM {x:Str}:fH .chs [.str x]=some (nE x):=rfl
@[simp] theorem iO {x y:D}:fH .zipG [x,y]=(xR x).bind fun xs=>(xR y).map (gY xs):=rfl
@[simp] theorem HN:fH .itm [.lst xs]=some xs:=rfl
@[simp] theorem HP:fH .enu [.lst xs]=some (j5 0 xs):=rfl
@[simp] theorem HQ:fH .zip2 [.lst xs,.lst ys]=some (gY xs ys):=rfl
@[simp] theorem El:meD .tindex (.tup xs) [d]=if xs.all fun y=>dW y d then (iy d xs 0).map fun (q:Nat)=>D.int (q:Int) else none:=rfl
@[simp] theorem qM (n:Nat):unpack n (.lst xs)=if xs.length=n then some xs else none:=rfl
@[simp] theorem qN (n:Nat):unpack n (.tup xs)=if xs.length=n then some xs else none:=rfl
end
@[simp] theorem qO (d:D):target 1 d=some [d]:=rfl
@[simp] theorem HR (d:D):target 2 d=unpack 2 d:=rfl
noncomputable def ug (o:Option D) (out:List D) (h:HH):Option (List D×HH):=some (match o with | some x=>x :: out | none=>out,h)
noncomputable def kQ (r:HH->Option (List D×HH)) (o:Option D) (h:HH):Option (List D×HH):=bnd (r h) (ug o)
@[simp] theorem HS (o:Option D) (out:List D) (h:HH):ug o out h=some (match o with | some x=>x :: out | none=>out,h):=rfl
@[simp] theorem gE (r:HH->Option (List D×HH)) (o:Option D) (h:HH):kQ r o h=bnd (r h) (ug o):=rfl
noncomputable def c8 (f:List D->HH->Option (Option D×HH)) (n:Nat):List D->HH->Option (List D×HH)
 | [],h=>some ([],h)
 | d :: r,h=>match target n d with
  | some ds=>bnd (f ds h) (kQ (c8 f n r))
  | none=>none
noncomputable def gj (d:D):Option W:=some (.p d)
noncomputable abbrev EH:=HH->Option (W×HH)
noncomputable abbrev OpW:=W->W->HH->Option (W×HH)
@[simp] noncomputable def k2 (eb:EH) (op:OpW) (x:W) (h:HH):Option (W×HH):=bnd (eb h) (op x)
@[simp] noncomputable def nF (o:Bin) (x y:W) (h:HH):Option (W×HH):=match rd x h,rd y h with
 | some d,some e=>(je o d e).map fun z=>(.p z,h)
 | _,_=>none
noncomputable def inT (o:Cm) (x:W) (kvs:List (Str×D)):Option Bool:=match o,x with
 | .mem,.p (.str s)=>some (dD s kvs).isSome
 | .nmem,.p (.str s)=>some (!(dD s kvs).isSome)
 | _,_=>none
noncomputable def inL (o:Cm) (x:W) (kvs:List (Ky×D)):Option Bool:=match o,x with
 | .mem,.p d=>(nB d).map fun k=>(eW kvs k).isSome
 | _,_=>none
noncomputable def inK (o:Cm) (x:W) (q:Kd):Option Bool:=match q with
 | .t kvs=>inT o x kvs
 | .l kvs=>inL o x kvs
noncomputable def memC:Cm->Bool
 | .mem=>true
 | .nmem=>true
 | _=>false
theorem mq {o:Cm}{x:W}{q:Kd}{b:Bool} (h:memC o=false):¬ inK o x q=some b:=by
 intro e
 cases o<;>first | exact KO h | exact jd e | (cases q<;>first | exact jd e | (cases x<;>exact jd e))
@[simp] noncomputable def jg (o:Cm) (x y:W) (h:HH):Option (W×HH):=match y with
 | .k kvs=>(inK o x kvs).map fun z=>(.p (.bl z),h)
 | y=>match rd x h,rd y h with
  | some d,some e=>(fG o d e).map fun z=>(.p (.bl z),h)
  | _,_=>none
noncomputable def atT (kvs:List (Str×D)) (y:W):Option D:=match y with
 | .p (.str s)=>dD s kvs
 | _=>none
noncomputable def atL (kvs:List (Ky×D)) (y:W):Option D:=match y with
 | .p d=>(nB d).bind (eW kvs)
 | _=>none
noncomputable def atK (q:Kd) (y:W):Option D:=match q with
 | .t kvs=>atT kvs y
 | .l kvs=>atL kvs y
@[simp] theorem MC (kvs:List (Str×D)) (x:Str):atK (.t kvs) (.p (.str x))=dD x kvs:=rfl
@[simp] theorem MD (kvs:List (Ky×D)) (i:Int):atK (.l kvs) (.p (.int i))=eW kvs (.inl i):=rfl
@[simp] theorem ME (kvs:List (Str×D)) (x:Str):inK .mem (.p (.str x)) (.t kvs)=some (dD x kvs).isSome:=rfl
@[simp] theorem MF (kvs:List (Str×D)) (x:Str):inK .nmem (.p (.str x)) (.t kvs)=some (!(dD x kvs).isSome):=rfl
@[simp] theorem MG (kvs:List (Ky×D)) (i:Int):inK .mem (.p (.int i)) (.l kvs)=some (eW kvs (.inl i)).isSome:=rfl
@[simp] noncomputable def AU (x y:W) (h:HH):Option (W×HH):=match x with
 | .k kvs=>(atK kvs y).map fun z=>(.p z,h)
 | x=>match rd x h,rd y h with
  | some d,some e=>(fc d e).map fun z=>(.p z,h)
  | _,_=>none
@[simp] noncomputable def AV (x:W) (h:HH):Option (W×HH):=match x with | .p (.int i)=>some (.p (.int (-i)),h) | _=>none
@[simp] noncomputable def AW (x:W) (h:HH):Option (W×HH):=match x with | .p (.bl b)=>some (.p (.bl (!b)),h) | _=>none
@[simp] noncomputable def AX (eb:EH) (x:W) (h:HH):Option (W×HH):=match x with | .p (.bl c)=>if c then eb h else some (.p (.bl false),h) | _=>none
@[simp] noncomputable def kOr (eb:EH) (x:W) (h:HH):Option (W×HH):=match x with | .p (.bl c)=>if c then some (.p (.bl true),h) else eb h | _=>none
@[simp] noncomputable def AY (ea eb:EH) (x:W) (h:HH):Option (W×HH):=match x with | .p (.bl c)=>if c then ea h else eb h | _=>none
@[simp] noncomputable def HU (o':Cm) (e:D) (z:W) (h:HH):Option (W×HH):=match rd z h with
 | some f=>(fG o' e f).map fun r=>(.p (.bl r),h)
 | none=>none
@[simp] noncomputable def oCh (o o':Cm) (ec:EH) (x y:W) (h:HH):Option (W×HH):=match rd x h,y with
 | some d,.p e=>match fG o d e with
  | some true=>bnd (ec h) (HU o' e)
  | some false=>some (.p (.bl false),h)
  | none=>none
 | _,_=>none
@[simp] noncomputable def Em (ws:List W) (h:HH):Option (W×HH):=match dm ws with | some ds=>if ds.length<=lim then some (.p (.tup ds),h) else none | none=>none
@[simp] noncomputable def En (mu:Bool) (ws:List W) (h:HH):Option (W×HH):=match dm ws with | some ds=>if ds.length<=lim then some (new mu ds h) else none | none=>none
@[simp] noncomputable def HV (x:W) (l u:List W) (h:HH):Option (W×HH):=match rd x h,(dm l).bind o4,(dm u).bind o4 with
 | some d,some l',some u'=>(nC d l' u').map fun z=>(.p z,h)
 | _,_,_=>none
@[simp] noncomputable def HW (eu:HH->Option (List W×HH)) (x:W) (l:List W) (h:HH):Option (W×HH):=bnd (eu h) (HV x l)
@[simp] noncomputable def HX (el eu:HH->Option (List W×HH)) (x:W) (h:HH):Option (W×HH):=bnd (el h) (HW eu x)
@[simp] noncomputable def Lg (x:W) (h:HH):Option (W×HH):=match x with
 | .p (.tup xs)=>some (.p (.tup xs.reverse),h)
 | _=>none
noncomputable def xU (k:Int) (xs:List D):List D:=(SI (NS none none (some k) xs.length).1 (NS none none (some k) xs.length).2.1 (NS none none (some k) xs.length).2.2).filterMap fun i=>xs[i]?
@[simp] noncomputable def Eo (mu:Bool) (k:Int) (x:W) (h:HH):Option (W×HH):=match rd x h with
 | some (.lst xs)=>some (new mu (xU k xs) h)
 | _=>none
@[simp] noncomputable def kBi (b:Bi) (mu:Bool) (ws:List W) (h:HH):Option (W×HH):=match rds ws h with
 | some ds=>match biD b ds with
  | some d=>if mu then (match d with | .lst xs=>some (new true xs h) | _=>none) else some (.p d,h)
  | none=>none
 | none=>none
noncomputable def nG (x:W) (h:HH):Bool:=match x with
 | .r n=>(lat h n).isSome
 | .k (.l _)=>false
 | _=>true
@[simp] theorem Lh (n:Nat) (h:HH):nG (.r n) h=(lat h n).isSome:=rfl
@[simp] theorem Li (d:D) (h:HH):nG (.p d) h=true:=rfl
@[simp] theorem Lj (d:List (Str×D)) (h:HH):nG (.k (.t d)) h=true:=rfl
@[simp] noncomputable def kMe (m:Me) (ea:HH->Option (List W×HH)) (x:W) (h:HH):Option (W×HH):=if nG x h then bnd (ea h) (meW m x) else none
@[simp] noncomputable def kLs (mu:Bool) (sr:Sr) (ws:List W) (h:HH):Option (W×HH):=match (rds ws h).bind (fH sr) with
 | some ds=>if ds.length<=lim then some (new mu ds h) else none
 | none=>none
@[simp] noncomputable def i9 (w:W) (h:HH):Option (Option D×HH):=match w with | .p d=>some (some d,h) | _=>none
noncomputable def uh (ee:EH) (cs:List W) (h:HH):Option (Option D×HH):=match cs with
 | []=>bnd (ee h) i9
 | [.p (.bl true)]=>bnd (ee h) i9
 | [.p (.bl false)]=>some (none,h)
 | _=>none
@[simp] theorem J4 (ee:EH) (h:HH):uh ee [] h=bnd (ee h) i9:=rfl
@[simp] theorem J5 (ee:EH) (h:HH):uh ee [.p (.bl true)] h=bnd (ee h) i9:=rfl
@[simp] theorem J6 (ee:EH) (h:HH):uh ee [.p (.bl false)] h=some (none,h):=rfl
@[simp] noncomputable def dF (ec:Sl->HH->Option (List W×HH)) (ee:Sl->EH) (fs:Sl) (xs:List D) (h:HH):Option (Option D×HH) :=
 bnd (ec (xs.map gj++fs) h) (uh (ee (xs.map gj++fs)))
@[simp] noncomputable def gn (mu:Bool) (out:List D) (h:HH):Option (W×HH):=if out.length<=lim then some (new mu out h) else none
noncomputable def gZ (f:Str):List (Str×W)->Option W
 | []=>none
 | (x,w) :: r=>if f=x then some w else gZ f r
noncomputable def d8 (f:Str) (w:W):List (Str×W)->List (Str×W)
 | []=>[(f,w)]
 | (x,u) :: r=>if f=x then (f,w) :: r else (x,u) :: d8 f w r
@[simp] theorem HY (f:Str):gZ f []=none:=rfl
@[simp] theorem n8 (f x:Str) (w:W) (r:List (Str×W)):gZ f ((x,w) :: r)=if f=x then some w else gZ f r:=rfl
@[simp] theorem HZ (f:Str) (w:W):d8 f w []=[(f,w)]:=rfl
@[simp] theorem vR (f x:Str) (w u:W) (r:List (Str×W)):d8 f w ((x,u) :: r)=if f=x then (f,w) :: r else (x,u) :: d8 f w r:=rfl
noncomputable def attrOk:W->Bool
 | .p _=>true
 | .r _=>true
 | .k _=>false
 | .o _=>true
 | .c _ _=>false
 | .x _=>false
@[simp] theorem Ia (d:D):attrOk (.p d)=true:=rfl
@[simp] theorem Ib (n:Nat):attrOk (.r n)=true:=rfl
@[simp] theorem Ic (n:Nat):attrOk (.o n)=true:=rfl
noncomputable def AZ (f:Str) (x:W) (h:HH):Option (W×HH):=match x with
 | .o n=>match oat h n with
  | some (_,fs)=>(gZ f fs).map fun w=>(w,h)
  | none=>none
 | _=>none
@[simp] theorem Ep (f:Str) (n:Nat) (h:HH):AZ f (.o n) h=match oat h n with
 | some (_,fs)=>(gZ f fs).map fun w=>(w,h)
 | none=>none:=rfl
noncomputable def sC (F:FK->List W->HH->Option (W×HH)) (q:FK) (n:Nat) (ws:List W) (h:HH):Option (W×HH):=F q (.o n :: ws) h
@[simp] theorem Gz (F:FK->List W->HH->Option (W×HH)) (q:FK) (n:Nat) (ws:List W) (h:HH):sC F q n ws h=F q (.o n :: ws) h:=rfl
noncomputable def xV (F:FK->List W->HH->Option (W×HH)) (m:Str) (ea:HH->Option (List W×HH)) (x:W) (h:HH):Option (W×HH):=match x with
 | .o n=>match oat h n with
  | some (c,fs)=>if (gZ m fs).isNone then bnd (ea h) (sC F (.m c m) n) else none
  | none=>none
 | _=>none
@[simp] theorem A0 (F:FK->List W->HH->Option (W×HH)) (m:Str) (ea:HH->Option (List W×HH)) (n:Nat) (h:HH):xV F m ea (.o n) h=match oat h n with
 | some (c,fs)=>if (gZ m fs).isNone then bnd (ea h) (sC F (.m c m) n) else none
 | none=>none:=rfl
noncomputable def um (n:Nat) (x:W) (h:HH):Option (W×HH):=match x with
 | .p .non=>some (.o n,h)
 | _=>none
@[simp] theorem J7 (n:Nat) (h:HH):um n (.p .non) h=some (.o n,h):=rfl
noncomputable def C6 (F:FK->List W->HH->Option (W×HH)) (c:Str) (ws:List W) (h:HH):Option (W×HH):=bnd (F (.m c "__init__") (.o h.length :: ws) (h++[.o c []])) (um h.length)
@[simp] theorem xW (F:FK->List W->HH->Option (W×HH)) (c:Str) (ws:List W) (h:HH):C6 F c ws h=bnd (F (.m c "__init__") (.o h.length :: ws) (h++[.o c []])) (um h.length):=rfl
noncomputable def jh:List W->Bool
 | []=>true
 | .p _ :: r=>jh r
 | _=>false
open Classical in
noncomputable def chk (q:Nat) (ds:List D) (f:List D->HH->Option (Option D×HH)) (xs:List D) (h:HH):Option (Option D×HH):=match f xs h with
 | some (o,h')=>if lat h' q=some ds then some (o,h') else none
 | none=>none
noncomputable def sD (mu:Bool) (sr:Sr) (n:Nat) (f:List D->HH->Option (Option D×HH)) (ws:List W) (ds:List D) (h:HH):Option (W×HH):=match ws,sr with
 | [.r q],.seq=>bnd (c8 (chk q ds f) n ds h) (gn mu)
 | _,_=>none
theorem xX (mu:Bool) (n:Nat) (f:List D->HH->Option (Option D×HH)) (q:Nat) (ds:List D) (h:HH):sD mu .seq n f [.r q] ds h=bnd (c8 (chk q ds f) n ds h) (gn mu):=rfl
@[simp] noncomputable def n9 (mu:Bool) (sr:Sr) (n:Nat) (fs:Option Sl) (ec:Sl->HH->Option (List W×HH)) (ee:Sl->EH) (ws:List W) (h:HH):Option (W×HH) :=
 match (rds ws h).bind (fH sr),fs with
 | some ds,some fs=>if jh ws then bnd (c8 (dF ec ee fs) n ds h) (gn mu) else sD mu sr n (dF ec ee fs) ws ds h
 | _,_=>none
@[simp] noncomputable def gF (w:W) (ws:List W) (h:HH):Option (List W×HH):=some (w :: ws,h)
@[simp] noncomputable def mw (er:HH->Option (List W×HH)) (w:W) (h:HH):Option (List W×HH):=bnd (er h) (gF w)
@[simp] noncomputable def frees (s:Sl):List (Nat×Str)->Option Sl
 | []=>some []
 | q :: r=>match s[q.1]? with
  | some w=>(frees s r).map (w :: ·)
  | none=>none
noncomputable def caps (s:Sl):List (Nat×Str)->Option (List Cp)
 | []=>some []
 | q :: r=>match s[q.1]? with
  | some (some w)=>(uf w).bind fun x=>(caps s r).map (x :: ·)
  | _=>none
@[simp] theorem Ie (s:Sl):caps s []=some []:=rfl
@[simp] theorem GA (s:Sl) (q:Nat×Str) (r:List (Nat×Str)):caps s (q :: r)=match s[q.1]? with
 | some (some w)=>(uf w).bind fun x=>(caps s r).map (x :: ·)
 | _=>none:=rfl
noncomputable def noC:List W->Bool
 | []=>true
 | .p _ :: r=>noC r
 | .r _ :: r=>noC r
 | .k _ :: _=>false
 | .o _ :: r=>noC r
 | .c _ _ :: _=>false
 | .x _ :: _=>false
@[simp] theorem J8:noC []=true:=rfl
@[simp] theorem MH (d:D) (r:List W):noC (.p d :: r)=noC r:=rfl
@[simp] theorem MI (d:Nat) (r:List W):noC (.r d :: r)=noC r:=rfl
@[simp] theorem MJ (d:Nat) (r:List W):noC (.o d :: r)=noC r:=rfl
noncomputable def xY (F:FK->List W->HH->Option (W×HH)) (o:Option (Option W)) (ws:List W) (h:HH):Option (W×HH):=match o with
 | some (some (.c k cs))=>if noC ws then F k (ws++cs.map Cp.w) h else none
 | _=>none
@[simp] theorem Ig (F:FK->List W->HH->Option (W×HH)) (k:FK) (cs:List Cp) (ws:List W) (h:HH):xY F (some (some (.c k cs))) ws h=if noC ws then F k (ws++cs.map Cp.w) h else none:=rfl
noncomputable def xZ (w:W) (h:HH):Option (W×HH):=match w with
 | .c _ _=>none
 | .x _=>none
 | .k _=>none
 | w=>some (w,h)
@[simp] theorem Lk (d:D) (h:HH):xZ (.p d) h=some (.p d,h):=rfl
@[simp] theorem Ll (n:Nat) (h:HH):xZ (.r n) h=some (.r n,h):=rfl
@[simp] theorem Lm (n:Nat) (h:HH):xZ (.o n) h=some (.o n,h):=rfl
noncomputable def o8 (F:FK->List W->HH->Option (W×HH)) (q:FK) (n:Nat) (L:Nat) (cs:Option (List Cp)) (ws:List W) (h:HH):Option (W×HH):=match cs with
 | some cs=>bnd (F q (.o n :: (ws++[.c (.l L) cs])) h) xZ
 | none=>none
@[simp] theorem GB (F:FK->List W->HH->Option (W×HH)) (q:FK) (n:Nat) (L:Nat) (cs:List Cp) (ws:List W) (h:HH):o8 F q n L (some cs) ws h=bnd (F q (.o n :: (ws++[.c (.l L) cs])) h) xZ:=rfl
noncomputable def x6 (F:FK->List W->HH->Option (W×HH)) (m:Str) (ea:HH->Option (List W×HH)) (L:Nat) (cs:Option (List Cp)) (x:W) (h:HH):Option (W×HH):=match x with
 | .o n=>match oat h n with
  | some (c,fs)=>if (gZ m fs).isNone then bnd (ea h) (o8 F (.m c m) n L cs) else none
  | none=>none
 | _=>none
@[simp] theorem Ih (F:FK->List W->HH->Option (W×HH)) (m:Str) (ea:HH->Option (List W×HH)) (L:Nat) (cs:Option (List Cp)) (n:Nat) (h:HH):x6 F m ea L cs (.o n) h=match oat h n with
 | some (c,fs)=>if (gZ m fs).isNone then bnd (ea h) (o8 F (.m c m) n L cs) else none
 | none=>none:=rfl
noncomputable def Er (c cn:Str):Bool:=cn==c||cn=="TapeError"||cn=="ValueError"
noncomputable def Ln (cn:Str) (x:W) (h:HH):Option (W×HH):=match x with
 | .x c=>some (.p (.bl (Er c cn)),h)
 | _=>none
@[simp] theorem Lo (cn c:Str) (h:HH):Ln cn (.x c) h=some (.p (.bl (Er c cn)),h):=rfl
noncomputable def strsOf:List D->Option (List Str)
 | []=>some []
 | .str x :: r=>(strsOf r).map (x :: ·)
 | _=>none
noncomputable def boolsOf:List D->Option (List Bool)
 | []=>some []
 | .bl b :: r=>(boolsOf r).map (b :: ·)
 | _=>none
noncomputable def txD:Tx->List D->Option D
 | .join,[.str x,.lst ys]=>(strsOf ys).bind fun ts=>if ts.length<=1000/\x.length<=10/\∀ t∈ts,t.length<=1000 then some (.str (M8 x ts)) else none
 | .split,[.str x,.str y]=>if y.length=1/\x.length<=lim then some (.lst ((Txt.split x y).map .str)) else none
 | .str,[.int i]=>if big i then some (.str (toString i)) else none
 | .str,[.str x]=>some (.str x)
 | .intS,[.str x]=>if x.length<=640 then (Qq x).map .int else none
 | .all,[.lst xs]=>(boolsOf xs).map fun bs=>.bl (bs.all id)
 | .inS,[.str x,.str y]=>some (.bl (Txt.contains y x))
 | .ninS,[.str x,.str y]=>some (.bl (!Txt.contains y x))
 | .pre,[.str x,.int i]=>if 0<=i/\x.length<=lim then some (.str ⟨x.cps.extract 0 i.toNat⟩) else none
 | _,_=>none
noncomputable def x8 (kvs:List (Str×D)) (as:List W) (h:HH):Option (W×HH):=match as with
 | [.p (.str x)]=>some (.p ((dD x kvs).getD .non),h)
 | [.p (.str x),.p d]=>some (.p ((dD x kvs).getD d),h)
 | _=>none
noncomputable def sF (kvs:List (Ky×D)) (as:List W) (h:HH):Option (W×HH):=match as with
 | [.p (.str x)]=>some (.p ((eW kvs (.inr x)).getD .non),h)
 | [.p (.str x),.p d]=>some (.p ((eW kvs (.inr x)).getD d),h)
 | _=>none
noncomputable def kTx (k:Tx) (ws:List W) (h:HH):Option (W×HH):=match k,ws with
 | .dget,.k (.t kvs) :: as=>x8 kvs as h
 | .dget,.k (.l kvs) :: as=>sF kvs as h
 | k,ws=>(rds ws h).bind fun ds=>(txD k ds).map fun d=>(.p d,h)
section
variable (F:FK->List W->HH->Option (W×HH)) (G:Str->Option W)
mutual
@[simp] noncomputable def ev:E->Sl->HH->Option (W×HH)
 | .var i,s,h=>match s[i]? with | some (some w)=>some (w,h) | _=>none
 | .cst d,_,h=>some (.p d,h)
 | .glo x,_,h=>(G x).map fun w=>(w,h)
 | .bin o a b,s,h=>bnd (ev a s h) (k2 (ev b s) (nF o))
 | .neg a,s,h=>bnd (ev a s h) AV
 | .not a,s,h=>bnd (ev a s h) AW
 | .and a b,s,h=>bnd (ev a s h) (AX (ev b s))
 | .or a b,s,h=>bnd (ev a s h) (kOr (ev b s))
 | .cmp o a b,s,h=>bnd (ev a s h) (k2 (ev b s) (jg o))
 | .chain o o' a b c,s,h=>bnd (ev a s h) (k2 (ev b s) (oCh o o' (ev c s)))
 | .ite c a b,s,h=>bnd (ev c s h) (AY (ev a s) (ev b s))
 | .tup as,s,h=>bnd (evs as s h) Em
 | .lst mu as,s,h=>bnd (evs as s h) (En mu)
 | .idx a i,s,h=>bnd (ev a s h) (k2 (ev i s) AU)
 | .slc a lo hi,s,h=>bnd (ev a s h) (HX (evs lo s) (evs hi s))
 | .rvs a,s,h=>bnd (ev a s h) Lg
 | .stp mu k a,s,h=>bnd (ev a s h) (Eo mu k)
 | .call f as,s,h=>bnd (evs as s h) (F (.f f))
 | .fld a f,s,h=>bnd (ev a s h) (AZ f)
 | .meth o m as,s,h=>bnd (ev o s h) (xV F m (evs as s))
 | .make c as,s,h=>bnd (evs as s h) (C6 F c)
 | .bi b mu as,s,h=>bnd (evs as s h) (kBi b mu)
 | .lsr mu sr as,s,h=>bnd (evs as s h) (kLs mu sr)
 | .me m o as,s,h=>bnd (ev o s h) (kMe m (evs as s))
 | .comp mu sr sa tg fv cond elt,s,h=>bnd (evs sa s h) (n9 mu sr tg.length (frees s fv) (evs cond) (ev elt))
 | .callv i as,s,h=>bnd (evs as s h) (xY F s[i]?)
 | .methL o m as L fv,s,h=>bnd (ev o s h) (x6 F m (evs as s) L (caps s fv))
 | .tx k as,s,h=>bnd (evs as s h) (kTx k)
 | .dlit kvs,_,h=>some (.k (.l (kvs.map fun p=>(.inr p.1,p.2))),h)
@[simp] noncomputable def evs:Es->Sl->HH->Option (List W×HH)
 | .nil,_,h=>some ([],h)
 | .cons a as,s,h=>bnd (ev a s h) (mw (evs as s))
end
inductive Fl where
 | nx (s:Sl) (h:HH) | rt (w:W) (h:HH) | bk (s:Sl) (h:HH) | ct (s:Sl) (h:HH)
noncomputable def Ii (k:Bool->HH->Option Fl) (w:W) (h:HH):Option Fl:=match w with | .p (.bl b)=>k b h | _=>none
noncomputable def tst (x:Option (W×HH)) (k:Bool->HH->Option Fl):Option Fl:=bnd x (Ii k)
@[simp] theorem sG (b:Bool) (h:HH) (k:Bool->HH->Option Fl):tst (some (.p (.bl b),h)) k=k b h:=rfl
noncomputable def oh (x:Option Fl) (k:Sl->HH->Option Fl):Option Fl:=match x with
 | some (.nx s h)=>k s h
 | y=>y
@[simp] theorem Ij (s:Sl) (h:HH) (k:Sl->HH->Option Fl):oh (some (.nx s h)) k=k s h:=rfl
@[simp] theorem Ik (w:W) (h:HH) (k:Sl->HH->Option Fl):oh (some (.rt w h)) k=some (.rt w h):=rfl
@[simp] theorem Il (s:Sl) (h:HH) (k:Sl->HH->Option Fl):oh (some (.bk s h)) k=some (.bk s h):=rfl
@[simp] theorem Im (s:Sl) (h:HH) (k:Sl->HH->Option Fl):oh (some (.ct s h)) k=some (.ct s h):=rfl
@[simp] theorem Et (k:Sl->HH->Option Fl):oh none k=none:=rfl
noncomputable def iA (x:Option Fl) (k:Sl->HH->Option Fl):Option Fl:=match x with
 | some (.nx s h)=>k s h
 | some (.ct s h)=>k s h
 | some (.bk s h)=>some (.nx s h)
 | y=>y
@[simp] theorem eX (s:Sl) (h:HH) (k:Sl->HH->Option Fl):iA (some (.nx s h)) k=k s h:=rfl
@[simp] theorem Io (s:Sl) (h:HH) (k:Sl->HH->Option Fl):iA (some (.ct s h)) k=k s h:=rfl
@[simp] theorem Ip (s:Sl) (h:HH) (k:Sl->HH->Option Fl):iA (some (.bk s h)) k=some (.nx s h):=rfl
@[simp] theorem Iq (w:W) (h:HH) (k:Sl->HH->Option Fl):iA (some (.rt w h)) k=some (.rt w h):=rfl
@[simp] theorem Eu (k:Sl->HH->Option Fl):iA none k=none:=rfl
@[simp] noncomputable def sets:List (Nat×Str)->List D->Sl->Sl
 | (i,_) :: r,d :: ds,s=>sets r ds (s.set i (some (.p d)))
 | _,_,s=>s
noncomputable def Ew (b:Sl->HH->Option Fl) (again:Sl->HH->Option Fl) (s:Sl) (t:Bool) (h:HH):Option Fl:=if t then iA (b s h) again else some (.nx s h)
@[simp] theorem o9 (b again:Sl->HH->Option Fl) (s:Sl) (h:HH):Ew b again s true h=iA (b s h) again:=rfl
@[simp] theorem Ex (b again:Sl->HH->Option Fl) (s:Sl) (h:HH):Ew b again s false h=some (.nx s h):=rfl
noncomputable def fz (c:Sl->HH->Option (W×HH)) (b:Sl->HH->Option Fl):Nat->Sl->HH->Option Fl
 | 0,_,_=>none
 | n+1,s,h=>tst (c s h) (Ew b (fz c b n) s)
@[simp] noncomputable def eN (b:Sl->HH->Option Fl) (tg:List (Nat×Str)):List D->Sl->HH->Option Fl
 | [],s,h=>some (.nx s h)
 | d :: r,s,h=>match target tg.length d with
  | some ds=>iA (b (sets tg ds s) h) (eN b tg r)
  | none=>none
noncomputable def turns:Nat:=100000
@[simp] noncomputable def ya (s:Sl) (i:Nat) (w:W) (h:HH):Option Fl:=some (.nx (s.set i (some w)) h)
@[simp] noncomputable def Ey (s:Sl) (xs:List (Nat×Str)) (w:W) (h:HH):Option Fl:=match w with
 | .p d=>match unpack xs.length d with | some ds=>some (.nx (sets xs ds s) h) | none=>none
 | _=>none
@[simp] noncomputable def Ir (s:Sl) (i:Nat) (o:Bin) (w:W) (h:HH):Option Fl:=match s[i]?,w with
 | some (some (.p d)),.p d'=>(lR o d d').map fun z=>.nx (s.set i (some (.p z))) h
 | _,_=>none
@[simp] noncomputable def C7 (s:Sl) (n:Nat) (d:D) (q:W) (h:HH):Option Fl:=match q,lat h n with
 | .p (.int j),some xs=>match place xs.length j with
  | some m=>some (.nx s (h.set n (.l (xs.set m d))))
  | none=>none
 | _,_=>none
@[simp] noncomputable def Ez (ek:EH) (s:Sl) (i:Nat) (w:W) (h:HH):Option Fl:=match w,s[i]? with
 | .p d,some (some (.r n))=>bnd (ek h) (C7 s n d)
 | _,_=>none
noncomputable def yb (s:Sl) (n:Nat) (d:D) (q:W) (h:HH):Option Fl:=match q with
 | .p k=>(dat h n).bind fun kvs=>(nB k).bind fun y=>if kvs.length < lim then some (.nx s (h.set n (.d (C2 kvs y d)))) else none
 | _=>none
@[simp] theorem Iu (s:Sl) (n:Nat) (d k:D) (h:HH):yb s n d (.p k) h=(dat h n).bind fun kvs=>(nB k).bind fun y=>if kvs.length < lim then some (.nx s (h.set n (.d (C2 kvs y d)))) else none:=rfl
noncomputable def MK (ek:EH) (s:Sl) (i:Nat) (w:W) (h:HH):Option Fl:=match w,s[i]? with
 | .p d,some (some (.r n))=>bnd (ek h) (yb s n d)
 | _,_=>none
noncomputable def pq (s:Sl) (f:Str) (v:W) (x:W) (h:HH):Option Fl:=match x with
 | .o n=>match oat h n with
  | some (c,fs)=>if attrOk v&&fs.length < 1000 then some (.nx s (h.set n (.o c (d8 f v fs)))) else none
  | none=>none
 | _=>none
@[simp] theorem yc (s:Sl) (f:Str) (v:W) (n:Nat) (h:HH):pq s f v (.o n) h=match oat h n with
 | some (c,fs)=>if attrOk v&&fs.length < 1000 then some (.nx s (h.set n (.o c (d8 f v fs)))) else none
 | none=>none:=rfl
noncomputable def yd (eo:EH) (s:Sl) (f:Str) (v:W) (h:HH):Option Fl:=bnd (eo h) (pq s f v)
@[simp] theorem ye (eo:EH) (s:Sl) (f:Str) (v:W) (h:HH):yd eo s f v h=bnd (eo h) (pq s f v):=rfl
noncomputable def pA (s:Sl) (f:Str) (op:Bin) (n:Nat) (c:Str) (d:D) (v:W) (h:HH):Option Fl:=match v,oat h n with
 | .p e,some (c',fs)=>match lR op d e with
  | some z=>if c'=c/\fs.length < 1000 then some (.nx s (h.set n (.o c' (d8 f (.p z) fs)))) else none
  | none=>none
 | _,_=>none
@[simp] theorem yf (s:Sl) (f:Str) (op:Bin) (n:Nat) (c:Str) (d e:D) (h:HH):pA s f op n c d (.p e) h=match oat h n with
 | some (c',fs)=>match lR op d e with
  | some z=>if c'=c/\fs.length < 1000 then some (.nx s (h.set n (.o c' (d8 f (.p z) fs)))) else none
  | none=>none
 | none=>none:=by unfold pA;cases oat h n<;>rfl
noncomputable def uq (ee:EH) (s:Sl) (f:Str) (op:Bin) (x:W) (h:HH):Option Fl:=match x with
 | .o n=>match oat h n with
  | some (c,fs)=>match gZ f fs with
   | some (.p d)=>bnd (ee h) (pA s f op n c d)
   | _=>none
  | none=>none
 | _=>none
@[simp] theorem A1 (ee:EH) (s:Sl) (f:Str) (op:Bin) (n:Nat) (h:HH):uq ee s f op (.o n) h=match oat h n with
 | some (c,fs)=>match gZ f fs with
  | some (.p d)=>bnd (ee h) (pA s f op n c d)
  | _=>none
 | none=>none:=rfl
@[simp] noncomputable def kEx (s:Sl) (_:W) (h:HH):Option Fl:=some (.nx s h)
@[simp] noncomputable def EA (w:W) (h:HH):Option Fl:=some (.rt w h)
@[simp] noncomputable def kIf (fa fb:HH->Option Fl) (t:Bool) (h:HH):Option Fl:=if t then fa h else fb h
@[simp] noncomputable def kFor (b:Sl->HH->Option Fl) (tg:List (Nat×Str)) (sr:Sr) (s:Sl) (ws:List W) (h:HH):Option Fl:=match (rds ws h).bind (fH sr) with
 | some ds=>if jh ws then eN b tg ds s h else none
 | none=>none
@[simp] noncomputable def evS:S->Sl->HH->Option Fl
 | .nil,s,h=>some (.nx s h)
 | .seq a b,s,h=>oh (evS a s h) (evS b)
 | .set i e,s,h=>bnd (ev F G e s h) (ya s i)
 | .unp xs e,s,h=>bnd (ev F G e s h) (Ey s xs)
 | .aug i o e,s,h=>bnd (ev F G e s h) (Ir s i o)
 | .put i k e,s,h=>bnd (ev F G e s h) (Ez (ev F G k s) s i)
 | .setf o f e,s,h=>bnd (ev F G e s h) (yd (ev F G o s) s f)
 | .augf o f op e,s,h=>bnd (ev F G o s h) (uq (ev F G e s) s f op)
 | .ex e,s,h=>bnd (ev F G e s h) (kEx s)
 | .ret e,s,h=>bnd (ev F G e s h) EA
 | .ife c a b,s,h=>tst (ev F G c s h) (kIf (evS a s) (evS b s))
 | .whl c b,s,h=>fz (ev F G c) (evS b) turns s h
 | .for tg sr sa b,s,h=>bnd (evs F G sa s h) (kFor (evS b) tg sr s)
 | .brk,s,h=>some (.bk s h)
 | .cnt,s,h=>some (.ct s h)
 | .bad,_,_=>none
 | .rai _ _,_,_=>none
open Classical in
noncomputable def fin (h:HH) (w:W) (h':HH):Option (W×HH) :=
 if h'.length=h.length then some (w,h')
 else if h'.take h.length=h then (match w with
  | .p d=>some (.p d,h)
  | .r n=>if n < h.length then some (.r n,h) else (lat h' n).map fun xs=>(.p (.lst xs),h)
  | .o n=>if n < h.length then some (.o n,h) else some (.o n,h')
  | .k _=>none
  | .c _ _=>none
  | .x _=>none)
 else some (w,h')
@[simp] noncomputable def gG (n:Nat) (ws:List W):Sl:=ws.map some++Nn (n - ws.length) none
noncomputable def sH (x:Option Fl) (k:W->HH->Option (W×HH)):Option (W×HH):=match x with
 | some (.rt w h)=>k w h
 | some (.nx _ h)=>k (.p .non) h
 | _=>none
@[simp] theorem J9 (w:W) (h:HH) (k:W->HH->Option (W×HH)):sH (some (.rt w h)) k=k w h:=rfl
@[simp] theorem Ka (s:Sl) (h:HH) (k:W->HH->Option (W×HH)):sH (some (.nx s h)) k=k (.p .non) h:=rfl
@[simp] theorem GC (k:W->HH->Option (W×HH)):sH none k=none:=rfl
end
section
variable (T:FK->Option Fn) (G:Str->Option W)
noncomputable def runN:Nat->FK->List W->HH->Option (W×HH)
 | 0,_,_,_=>none
 | k+1,f,ws,h=>match T f with
  | some fn=>if ws.length=fn.ps.length then sH (evS (runN k) G fn.body (gG fn.ns.length ws) h) (fin h) else none
  | none=>none
theorem run_eq {T:FK->Option Fn}{G:Str->Option W}{f:FK}{fn:Fn}{ws:List W}{h:HH}{k:Nat} (hT:T f=some fn) (hl:ws.length=fn.ps.length) :
 runN T G (k+1) f ws h=sH (evS (runN T G k) G fn.body (gG fn.ns.length ws) h) (fin h):=by
 rw[runN,hT];exact if_pos hl
end
noncomputable def Lp:Fn:=⟨["state","thing"],["state","thing"],.ret (.call "worth_in" (.cons (.var 0) (.cons (.var 1) .nil)))⟩
noncomputable def Lq:Fn:=⟨["state","thing","worth"],["state","thing","worth"],.ret (.cmp .ne (.call "worth_in" (.cons (.var 0) (.cons (.var 1) .nil))) (.var 2))⟩
noncomputable def Lr:Fn:=⟨["state","thing","worth"],["state","thing","worth"],.ret (.cmp .ne (.call "worth_in" (.cons (.var 0) (.cons (.var 1) .nil))) (.var 2))⟩
noncomputable def Ls:Fn:=⟨["state","term"],["state","term"],.ret (.call "reckoned" (.cons (.var 1) (.cons (.var 0) .nil)))⟩
noncomputable def Lu:Fn:=⟨["state","term"],["state","term"],.ret (.cmp .ne (.call "reckoned" (.cons (.var 1) (.cons (.var 0) .nil))) (.cst (.int 0)))⟩
noncomputable def Lv:Fn:=⟨["state","term"],["state","term"],.ret (.cmp .ne (.call "reckoned" (.cons (.var 1) (.cons (.var 0) .nil))) (.cst (.int 0)))⟩
noncomputable def Lx:Fn:=⟨["state"],["state"],.ret (.idx (.var 0) (.glo "ROW"))⟩
noncomputable def Ly:Fn:=⟨["state","row"],["state","row"],.ret (.cmp .eq (.idx (.var 0) (.glo "ROW")) (.var 1))⟩
noncomputable def Lz:Fn:=⟨["state","number"],["state","number"],.ret (.cmp .gt (.bi .len false (.cons (.idx (.var 0) (.glo "SAID")) .nil)) (.var 1))⟩
noncomputable def LC:Fn:=⟨["state","bound"],["state","bound"],.ret (.cmp .le (.call "open_in" (.cons (.var 0) .nil)) (.var 1))⟩
noncomputable def Iv:Fn:=⟨["state","bound"],["state","bound"],.ret (.cmp .le (.call "open_in" (.cons (.var 0) .nil)) (.var 1))⟩
noncomputable def Iw:Fn:=⟨["state","wanted"],["state","wanted"],.ret (.and (.cmp .eq (.idx (.var 0) (.glo "NAMES")) (.idx (.var 1) (.glo "NAMES"))) (.cmp .eq (.idx (.var 0) (.glo "CELLS")) (.idx (.var 1) (.glo "CELLS"))))⟩
noncomputable def Iz:Fn:=⟨["state","tape","thing"],["state","tape","thing"],.ret (.cmp .eq (.call "written_next" (.cons (.var 1) (.cons (.var 0) .nil))) (.var 2))⟩
noncomputable def IA:Fn:=⟨[],[],.ret (.cst .non)⟩
noncomputable def IB:Fn:=⟨[],[],.ret (.cst .non)⟩
noncomputable def sI (i:Nat):Option Fn:=([Lp,Lq,Lr,Ls,Lu,Lv,Lx,Ly,Lz,LC,Iv,Iw,Iz,IA,IB]:List Fn)[i]?
noncomputable def fZ:List Str:=["worths_of","last_change","next_change","moments_so","last_so","next_so","visits","last_visit","when_said","next_within","last_within","first_other","writer_of","judged","remade"]
noncomputable def C8 (i:Nat):Str:=fZ.getD i ""
noncomputable def fR (x:Str):Str:="<"++x++">"
end BT
end
section
namespace BS
open PySem PySem.Spec PyProof.Rows L2
theorem c6 {β:Type}{c:Prop} [Decidable c] {a b:β} (h:(if c then some a else none)=some b):c/\a=b:=by
 by_cases z:c
 ·rw[if_pos z] at h;exact ⟨z,Nc h⟩
 ·rw[if_neg z] at h;exact nomatch h
theorem cR {β:Type}{a:β}{P:Prop} (h:(none:Option β)=some a):P:=nomatch h
noncomputable def attrName (f:Str):Bool:=(["program","asked","gap","most","kept","farthest","front","now","origins","branches","tape","named"]:List Str).contains f
noncomputable def qP:BT.Bi->Option (String×(BT.D->Bool))
 | .isInt=>some ("int",BT.isI)
 | .isBool=>some ("bool",BT.isB)
 | .isStr=>some ("str",BT.isS)
 | .isTuple=>some ("tuple",BT.isT)
 | .isList=>some ("list",BT.isL)
 | _=>none
noncomputable def qQ (sc:NY) (x:Str):Bool:=match sc.names.lookup x with
 | some .local=>true
 | some .cell=>true
 | some .free=>true
 | _=>false
noncomputable def dQ (sc:NY) (x:Str):Bool:=sc.names.lookup x==some .globalImplicit
noncomputable def ff (x:Str):Bool:=!(x=="__debug__")&&!(x=="__classdict__")&&!(x=="__name__")
noncomputable def noStar:M7->Bool
 | .Starred _ _=>false
 | _=>true
noncomputable def lq:M7->Bool
 | .Slice _ _ _ _=>false
 | _=>true
noncomputable def dj:M7->Bool
 | .Name _ _=>true
 | .Constant _ _ _=>true
 | .Subscript _ _ _=>true
 | .Attribute _ _ _=>true
 | .Call (.Attribute _ _ _) _ _ _=>true
 | _=>false
noncomputable def IC:BT.Bin->P8
 | .add=>.Add
 | .sub=>.Sub
 | .mul=>.Mult
 | .mod=>.Mod
 | .fdiv=>.FloorDiv
 | .pow=>.Pow
noncomputable def C9 (o:BT.Bin) (op:P8):Bool:=decide (op=IC o)
noncomputable def LD:BT.Cm->CmpOp
 | .eq=>.Eq
 | .ne=>.NotEq
 | .lt=>.Lt
 | .le=>.LtE
 | .gt=>.Gt
 | .ge=>.GtE
 | .isN=>.Is
 | .notN=>.IsNot
 | .mem=>.In
 | .nmem=>.NotIn
noncomputable def A2 (o:BT.Cm) (op:CmpOp):Bool:=decide (op=LD o)
noncomputable def Dc:BT.D->Const->Bool
 | .non,.none=>true
 | .bl a,.bool b=>a==b
 | .int i,.int j=>i==j
 | .str x,.str y=>x==y&&PyData.strOk x
 | _,_=>false
noncomputable def yh:BT.Bi->Bool->Option Str
 | .len,false=>some "len"
 | .abs,false=>some "abs"
 | .int,false=>some "int"
 | .list,_=>some "list"
 | .tuple,false=>some "tuple"
 | _,_=>none
noncomputable def Dd (b:BT.Bi) (mu:Bool) (x:Str):Bool:=yh b mu==some x
noncomputable def yi:BT.Bi->Str->Bool
 | .min2,x=>x=="min"
 | .max2,x=>x=="max"
 | _,_=>false
noncomputable def A3:M7->Option Const
 | .Constant c _ _=>some c
 | _=>none
noncomputable def cInt:Const->Option Int
 | .int j=>some j
 | _=>none
noncomputable def unE:M7->Option M7
 | .UnaryOp o e _=>if o=.USub then some e else none
 | _=>none
noncomputable def pB (k:Int) (e:M7):Bool:=((A3 e).bind cInt==some k&&decide (0 < k))||(((unE e).bind A3).bind cInt==some (-k)&&decide (k < 0))
noncomputable def yj:BT.Me->Str
 | .append=>"append"
 | .pop=>"pop"
 | .extend=>"extend"
 | .tindex=>"index"
 | .sindex=>"index"
 | .dget=>"get"
 | .count=>"count"
 | .lindex=>"index"
noncomputable def sJ:BT.E->Bool
 | .glo _=>true
 | _=>false
noncomputable def EB (m:BT.Me) (o:BT.E):Bool:=match m with
 | .append=>true
 | .pop=>true
 | .extend=>true
 | .sindex=>true
 | .tindex=>sJ o
 | .dget=>false
 | .count=>true
 | .lindex=>true
noncomputable def De (c:Str):Bool:=(["NoMoment","NoThing","NoRun","NoText"]:List Str).contains c
noncomputable def ML (cn:Str):Bool:=De cn||cn=="ValueError"
noncomputable def f6 (N:List Str):Bool:=!N.contains "_law_flags"
noncomputable def tOK:BT.E->Bool
 | .ite _ _ _=>false
 | .not a=>tOK a
 | .and a b=>tOK a&&tOK b
 | .or a b=>tOK a&&tOK b
 | .tup _=>false
 | .lst _ _=>false
 | .comp _ _ _ _ _ _ _=>false
 | _=>true
noncomputable def ji:M7->Bool
 | .Set _ _ _=>false
 | _=>true
noncomputable def oi:BT.Sr->M7->Bool
 | .zip2,.Tuple _ _ _=>true
 | .enu,.Tuple _ _ _=>true
 | .itm,.Tuple _ _ _=>true
 | .zipG,.Tuple _ _ _=>true
 | .zip2,_=>false
 | .enu,_=>false
 | .itm,_=>false
 | .zipG,_=>false
 | _,_=>true
noncomputable def dP (scope sc:NY):NY :=
 { scope with names:=scope.names.map fun (n,k)=>if (k==.free&&sc.kind==.function&&sc.names.lookup n==some .cell) then (n,.cell) else (n,k) }
noncomputable def nmE:M7->Option Str
 | .Name y _=>some y
 | _=>none
noncomputable def EC:M7->List M7
 | .Tuple xs _ _=>xs
 | _=>[]
noncomputable def qR (sc:NY) (tg:List Str) (te:M7):Bool:=((tg.map some==[nmE te])||(Nat.ble 2 tg.length&&tg.map some==(EC te).map nmE))&&tg.all fun x=>sc.names.lookup x==some .local
noncomputable def jj:List Str->Bool
 | []=>true
 | x :: r=>!r.contains x&&jj r
noncomputable def jk (sc:NY) (N:List Str) (tg:List Str) (fv:List (Nat×Str)) (scope:NY):Bool :=
 scope.kind==.function&&sc.kind==.function&&scope.names.all (fun y=>!(y.2==.cell))&&scope.names.all (fun y=>!(y.2==.local)||scope.names.lookup y.1==some .local) &&
 scope.names.all (fun y=>!(y.2==.free)||sc.names.lookup y.1==some .cell) &&
 fv.all (fun q=>N[q.1]?==some q.2&&scope.names.contains (q.2,.free)&&sc.names.lookup q.2==some .cell&&(dP scope sc).names.lookup q.2==some .cell)&&jj (tg++fv.map (·.2))
inductive Tq where
 | e (a:BT.E) (x:M7) | es (as:BT.Es) (xs:List M7) | o (as:BT.Es) (x:Option M7) | c (as:BT.Es) (xs:List M7) | i (sr:BT.Sr) (sa:BT.Es) (x:M7)
set_option autoImplicit true in
class inductive CQ:NY->List Str->Tq->Prop where
 | var (h1:N[i]?=some x) (h2:qQ sc x=true) (h3:ff x=true):CQ sc N (.e (.var i) (.Name x p))
 | cst (h:Dc d c=true):CQ sc N (.e (.cst d) (.Constant c k p))
 | glo (h2:dQ sc x=true) (h3:ff x=true):CQ sc N (.e (.glo x) (.Name x p))
 | bin (h:C9 o op=true) (ha:CQ sc N (.e a l)) (hb:CQ sc N (.e b r)):CQ sc N (.e (.bin o a b) (.BinOp l op r p))
 | neg (ha:CQ sc N (.e a x)):CQ sc N (.e (.neg a) (.UnaryOp .USub x p))
 | not (ha:CQ sc N (.e a x)):CQ sc N (.e (.not a) (.UnaryOp .Not x p))
 | and2 (ha:CQ sc N (.e a x)) (hb:CQ sc N (.e b y)):CQ sc N (.e (.and a b) (.BoolOp .And [x,y] p))
 | and3 (ha:CQ sc N (.e a x)) (hb:CQ sc N (.e b (.BoolOp .And (y :: z :: r) p))):CQ sc N (.e (.and a b) (.BoolOp .And (x :: y :: z :: r) p))
 | or2 (ha:CQ sc N (.e a x)) (hb:CQ sc N (.e b y)):CQ sc N (.e (.or a b) (.BoolOp .Or [x,y] p))
 | or3 (ha:CQ sc N (.e a x)) (hb:CQ sc N (.e b (.BoolOp .Or (y :: z :: r) p))):CQ sc N (.e (.or a b) (.BoolOp .Or (x :: y :: z :: r) p))
 | cmp (h:A2 o op=true) (ha:CQ sc N (.e a l)) (hb:CQ sc N (.e b r)) (hm:Q7 op r=false):CQ sc N (.e (.cmp o a b) (.Compare l [op] [r] p))
 | chain (h:A2 o op=true) (h':A2 o' op'=true) (ha:CQ sc N (.e a l)) (hb:CQ sc N (.e b r)) (hc:CQ sc N (.e c r')) (hm:lastMarks [op,op'] [r,r']=false):CQ sc N (.e (.chain o o' a b c) (.Compare l [op,op'] [r,r'] p))
 | ite (h:tOK c=true) (hc:CQ sc N (.e c t)) (ha:CQ sc N (.e a x)) (hb:CQ sc N (.e b y)):CQ sc N (.e (.ite c a b) (.IfExp t x y p))
 | tup (h:CQ sc N (.es as es)):CQ sc N (.e (.tup as) (.Tuple es k p))
 | lst (h:CQ sc N (.es as es)):CQ sc N (.e (.lst mu as) (.List es p))
 | idx (ha:CQ sc N (.e a x)) (hi:CQ sc N (.e i sl)) (hs:lq sl=true):CQ sc N (.e (.idx a i) (.Subscript x sl p))
 | slc {lo:BT.Es} (ha:CQ sc N (.e a x)) (hl:CQ sc N (.o lo l)) (hu:CQ sc N (.o hi u)):CQ sc N (.e (.slc a lo hi) (.Subscript x (.Slice l u none p2) p))
 | call (hg:dQ sc f=true) (hn:ff f=true) (ha:CQ sc N (.es as es)):CQ sc N (.e (.call f as) (.Call (.Name f np) es [] p))
 | bi (hu:f6 N=true) (hb:Dd b mu x=true) (hg:dQ sc x=true) (hs:noStar e=true) (ha:CQ sc N (.e a e)):CQ sc N (.e (.bi b mu (.cons a .nil)) (.Call (.Name x np) [e] [] p))
 | inst (hb:qP b=some (c,f)) (hg:dQ sc "isinstance"=true) (hg2:dQ sc (M4 c)=true) (hs:noStar e=true) (ha:CQ sc N (.e a e)) :
  CQ sc N (.e (.bi b false (.cons a .nil)) (.Call (.Name "isinstance" np) [e,.Name (M4 c) p2] [] p))
 | me (h1:EB m o=true) (h2:name=yj m) (h3:dj oe=true) (h6:(apos.endLine==cpos.line)=true) (h7:es.length < 20) (ho:CQ sc N (.e o oe)) (ha:CQ sc N (.es as es)) :
  CQ sc N (.e (.me m o as) (.Call (.Attribute oe name apos) es [] cpos))
 | comp {cond:BT.Es}
  (hu:f6 N=true) (hk:jk sc N tg fv scope=true) (ht:qR (dP scope sc) tg te=true) (hz:oi sr te=true) (hs:ji iter=true) (hi:CQ sc N (.i sr sa iter))
  (hc:CQ (dP scope sc) (tg++fv.map (·.2)) (.c cond ifs)) (he:CQ (dP scope sc) (tg++fv.map (·.2)) (.e elt elt')):CQ sc N (.e (.comp mu sr sa tg fv cond elt) (.ListComp elt' [⟨te,iter,ifs,0⟩] scope pos))
 | fld (hb:dj x=true) (hf:attrName f=true) (ha:CQ sc N (.e a x)):CQ sc N (.e (.fld a f) (.Attribute x f p))
 | meth (h3:dj oe=true) (h6:(apos.endLine==cpos.line)=true) (h7:es.length < 20) (ho:CQ sc N (.e o oe)) (ha:CQ sc N (.es as es)) :
  CQ sc N (.e (.meth o m as) (.Call (.Attribute oe m apos) es [] cpos))
 | stp (hk:pB k se=true) (ha:CQ sc N (.e a x)):CQ sc N (.e (.stp mu k a) (.Subscript x (.Slice none none (some se) p2) p))
 | bi2 (hu:f6 N=true) (hb:yi b x=true) (hg:dQ sc x=true) (hs1:noStar e1=true) (hs2:noStar e2=true) (h1:CQ sc N (.e a1 e1)) (h2:CQ sc N (.e a2 e2)) :
  CQ sc N (.e (.bi b false (.cons a1 (.cons a2 .nil))) (.Call (.Name x np) [e1,e2] [] p))
 | make (hg:dQ sc c=true) (hn:ff c=true) (ha:CQ sc N (.es as es)):CQ sc N (.e (.make c as) (.Call (.Name c np) es [] p))
 | rvs (ha:CQ sc N (.e a x)):CQ sc N (.e (.rvs a) (.Subscript x (.Slice none none (some (.UnaryOp .USub (.Constant (.int 1) c p1) p3)) p2) p))
 | xjoin (h3:dj oe=true) (h6:(apos.endLine==cpos.line)=true) (hs:noStar e=true) (ho:CQ sc N (.e o oe)) (ha:CQ sc N (.e a e)):CQ sc N (.e (.tx .join (.cons o (.cons a .nil))) (.Call (.Attribute oe "join" apos) [e] [] cpos))
 | xsplit (h3:dj oe=true) (h6:(apos.endLine==cpos.line)=true) (hs:noStar e=true) (ho:CQ sc N (.e o oe)) (ha:CQ sc N (.e a e)):CQ sc N (.e (.tx .split (.cons o (.cons a .nil))) (.Call (.Attribute oe "split" apos) [e] [] cpos))
 | xget1 (h3:dj oe=true) (h6:(apos.endLine==cpos.line)=true) (hs:noStar e=true) (ho:CQ sc N (.e o oe)) (ha:CQ sc N (.e a e)):CQ sc N (.e (.tx .dget (.cons o (.cons a .nil))) (.Call (.Attribute oe "get" apos) [e] [] cpos))
 | xget2 (h3:dj oe=true) (h6:(apos.endLine==cpos.line)=true) (hs:noStar e=true) (hs2:noStar e2=true) (ho:CQ sc N (.e o oe)) (ha:CQ sc N (.e a e)) (hb:CQ sc N (.e b e2)):CQ sc N (.e (.tx .dget (.cons o (.cons a (.cons b .nil)))) (.Call (.Attribute oe "get" apos) [e,e2] [] cpos))
 | xstr (hg:dQ sc "str"=true) (hs:noStar e=true) (ha:CQ sc N (.e a e)):CQ sc N (.e (.tx .str (.cons a .nil)) (.Call (.Name "str" np) [e] [] p))
 | xint (hg:dQ sc "int"=true) (hs:noStar e=true) (ha:CQ sc N (.e a e)):CQ sc N (.e (.tx .intS (.cons a .nil)) (.Call (.Name "int" np) [e] [] p))
 | xall (hu:f6 N=true) (hg:dQ sc "all"=true) (hs:noStar e=true) (ha:CQ sc N (.e a e)):CQ sc N (.e (.tx .all (.cons a .nil)) (.Call (.Name "all" np) [e] [] p))
 | xin (ha:CQ sc N (.e a l)) (hb:CQ sc N (.e b r)) (hm:Q7 .In r=false):CQ sc N (.e (.tx .inS (.cons a (.cons b .nil))) (.Compare l [.In] [r] p))
 | es_nil:CQ sc N (.es .nil [])
 | es_cons (hs:noStar e=true) (ha:CQ sc N (.e a e)) (hr:CQ sc N (.es as es)):CQ sc N (.es (.cons a as) (e :: es))
 | o_nil:CQ sc N (.o .nil none)
 | o_one (ha:CQ sc N (.e a e)):CQ sc N (.o (.cons a .nil) (some e))
 | c_nil:CQ sc N (.c .nil [])
 | c_one (ht:tOK a=true) (ha:CQ sc N (.e a e)):CQ sc N (.c (.cons a .nil) [e])
 | rng1 (hg:dQ sc "range"=true) (hs:noStar e=true) (h:CQ sc N (.e a e)):CQ sc N (.i .rng1 (.cons a .nil) (.Call (.Name "range" p) [e] [] pos))
 | rng3 (hg:dQ sc "range"=true) (hs:noStar x=true) (hs2:noStar y=true) (hs3:noStar z=true) (ha:CQ sc N (.e a x)) (hb:CQ sc N (.e b y)) (hc:CQ sc N (.e c z)):CQ sc N (.i .rng3 (.cons a (.cons b (.cons c .nil))) (.Call (.Name "range" p) [x,y,z] [] pos))
 | rev (hg:dQ sc "reversed"=true) (hs:noStar e=true) (h:CQ sc N (.e a e)):CQ sc N (.i .rev (.cons a .nil) (.Call (.Name "reversed" p) [e] [] pos))
 | chs (h:CQ sc N (.e a x)):CQ sc N (.i .chs (.cons a .nil) x)
 | zipG (hg:dQ sc "zip"=true) (hs:noStar x=true) (hs2:noStar y=true) (ha:CQ sc N (.e a x)) (hb:CQ sc N (.e b y)):CQ sc N (.i .zipG (.cons a (.cons b .nil)) (.Call (.Name "zip" p) [x,y] [] pos))
 | seq (h:CQ sc N (.e a x)):CQ sc N (.i .seq (.cons a .nil) x)
noncomputable abbrev CE' (sc:NY) (N:List Str) (a:BT.E) (x:M7):Prop:=CQ sc N (.e a x)
noncomputable abbrev CEs (sc:NY) (N:List Str) (as:BT.Es) (xs:List M7):Prop:=CQ sc N (.es as xs)
noncomputable abbrev CC (sc:NY) (N:List Str) (as:BT.Es) (xs:List M7):Prop:=CQ sc N (.c as xs)
noncomputable abbrev CI (sc:NY) (N:List Str) (sr:BT.Sr) (sa:BT.Es) (x:M7):Prop:=CQ sc N (.i sr sa x)
inductive LPa:Ri->List Str->Prop where
 | one {p:Pos}:LPa ⟨[],[⟨"state",none,p⟩],none,[],[],none,[]⟩ ["state"]
 | two {p q:Pos}:LPa ⟨[],[⟨"row",none,p⟩,⟨"state",none,q⟩],none,[],[],none,[]⟩ ["row","state"]
noncomputable def qS (ps fs:List Str) (sc:NY):Bool :=
 sc.kind==.function&&!sc.isCoroutine&&!sc.isGenerator&&sc.names.all (fun y=>!(y.2==.cell))&&ps.all (fun x=>sc.names.lookup x==some .local) &&
 fs.all (fun x=>sc.names.lookup x==some .free&&sc.names.contains (x,.free))&&sc.names.all (fun y=>!(y.2==.free)||fs.contains y.1)&&jj (ps++fs)
noncomputable def ID (sc:NY) (N:List Str) (fv:List (Nat×Str)):Bool:=fv.all fun q=>N[q.1]?==some q.2&&sc.names.lookup q.2==some .cell
inductive CL (sc:NY) (N:List Str):BT.E->Str->BT.Es->Nat->List (Nat×Str)->M7->Prop where
 | zero {o bt:BT.E}{m:Str}{L:Nat}{fv:List (Nat×Str)}{oe be:M7}{apos cpos lp:Pos}{pa:Ri}{scope:NY}{ns ps:List Str} (hl:BT.sI L=some ⟨ns,ns,.ret bt⟩) (hp:LPa pa ps) (hn:ns=ps++fv.map (·.2)) (hk:qS ps (fv.map (·.2)) scope=true) (hv:ID sc N fv=true)
  (ht:N.contains (BT.fR (BT.C8 L))=true) (hc:CE' scope ns bt be) (h3:dj oe=true) (h6:(apos.endLine==cpos.line)=true) (ho:CE' sc N o oe):CL sc N o m .nil L fv (.Call (.Attribute oe m apos) [.Lambda pa be scope lp] [] cpos)
 | one {o bt a:BT.E}{m:Str}{L:Nat}{fv:List (Nat×Str)}{oe be e:M7}{apos cpos lp:Pos}{pa:Ri}{scope:NY}{ns ps:List Str} (hl:BT.sI L=some ⟨ns,ns,.ret bt⟩) (hp:LPa pa ps) (hn:ns=ps++fv.map (·.2)) (hk:qS ps (fv.map (·.2)) scope=true) (hv:ID sc N fv=true)
  (ht:N.contains (BT.fR (BT.C8 L))=true) (hc:CE' scope ns bt be) (h3:dj oe=true) (h6:(apos.endLine==cpos.line)=true) (ho:CE' sc N o oe) (hs:noStar e=true) (ha:CE' sc N a e):CL sc N o m (.cons a .nil) L fv (.Call (.Attribute oe m apos) [e,.Lambda pa be scope lp] [] cpos)
noncomputable def KT (K:MV) (a:M9) (xs:List V):Prop :=
 ∃ (o:Obj) (its:Array MZ) (n:Nat),(K.lookup a=some o/\o.cls=.type "tuple"/\o.data=.seq its n/\its.size<=sizeLine/\cX xs its.toList)/\o.dict=none
noncomputable def KL (K:MV) (a:M9) (xs:List V):Prop:=∃ (its:List MZ) (n:Nat),K.lookup a=some { cls:=.type "list",data:=.seq its.toArray n }/\its.length<=sizeLine/\cX xs its
noncomputable def LL (K:MV) (H:Hp) (a:M9) (xs:List V):Prop:=Rd H a (.lst xs)\/KL K a xs
theorem LL.sq {K:MV} (h:LL K H a xs):SqL K H a xs:=by
 rcases h with h | ⟨its,n,h1,h2,h3⟩
 ·exact .inl h
 ·exact .inr ⟨_,its.toArray,n,h1,rfl,rfl,rfl,by simpa using h2,by simpa using h3⟩
noncomputable def KD (P:Nk) (w:Nz) (K:MV) (a:M9) (es:List (Str×V)):Prop :=
 (a==OU)=false/\∃ vs:List (Key×MZ),KV (es.map fun q=>(Sum.inr q.1,q.2)) vs/\∀ h:Heap,K.In h->h.DictOf (c9 P w) a vs
mutual
inductive RD (K:MV) (m:List M9) (H:Hp):V->BT.D->Prop where
 | non:RD K m H .non .non
 | bl (b:Bool):RD K m H (.bl b) (.bl b)
 | int (i:Int):RD K m H (.int i) (.int i)
 | str (x:Str) (h:PyData.strOk x=true):RD K m H (.str x) (.str x)
 | tup {a:M9}{vs:List V}{ds:List BT.D} (h:(Rd H a (.tup vs)/\a∉m)\/KT K a vs) (r:RDs K m H vs ds):RD K m H (.ref a) (.tup ds)
 | lst {a:M9}{vs:List V}{ds:List BT.D} (h:(Rd H a (.lst vs)/\a∉m)\/KL K a vs) (r:RDs K m H vs ds):RD K m H (.ref a) (.lst ds)
inductive RDs (K:MV) (m:List M9) (H:Hp):List V->List BT.D->Prop where
 | nil:RDs K m H [] []
 | cons {v:V}{d:BT.D}{vs:List V}{ds:List BT.D} (r:RD K m H v d) (t:RDs K m H vs ds):RDs K m H (v :: vs) (d :: ds)
end
inductive RDk (K:MV):List (Str×V)->List (Str×BT.D)->Prop where
 | nil:RDk K [] []
 | cons {x:Str}{v:V}{d:BT.D}{es:List (Str×V)}{kvs:List (Str×BT.D)} (r:∀ m H,RD K m H v d) (t:RDk K es kvs):RDk K ((x,v) :: es) ((x,d) :: kvs)
inductive RA (K:MV) (m:List M9) (H:Hp):V->BT.W->Prop where
 | p {v:V}{d:BT.D} (r:RD K m H v d):RA K m H v (.p d)
 | r {a:M9}{n:Nat} (h:m[n]?=some a):RA K m H (.ref a) (.r n)
 | o {a:M9}{n:Nat} (h:m[n]?=some a):RA K m H (.ref a) (.o n)
noncomputable def Tr (m:List M9) (H:Hp) (a:M9) (o:Obj):Prop:=H a=some (.frz o (.own 0))/\a∉m
noncomputable def LG (x:Str):Str:=x++".<locals>."++"<lambda>"
inductive iB (m:List M9) (H:Hp) (cl:List (Str×M9)):List Str->List V->Prop where
 | nil:iB m H cl [] []
 | cons {x:Str}{c:M9}{o:Obj}{u:MZ}{v:V}{xs:List Str}{vs:List V} (h1:cl.lookup x=some c) (h2:Tr m H c o) (h3:o.data=.cell (some u)) (r:RelV v u) (t:iB m H cl xs vs):iB m H cl (x :: xs) (v :: vs)
inductive jD (m:List M9) (H:Hp) (f:M9) (L:Nat) (vs:List V):Prop where
 | mk (bt:_) (ps:_) (fs:_) (pa:_) (be:_) (sc:_) (cl:_) (pm:_) (ctv:_) (c':_) (oc:_) (os:_) (t:_) (q:_) (h1:BT.sI L=some ⟨ps++fs,ps++fs,.ret bt⟩) (h2:LPa pa ps) (h3:qS ps fs sc=true) (h4:CE' sc (ps++fs) bt be) (h5:(∀ x y c,cl.lookup x=some c->cl.lookup y=some c->x=y)) (h6:(∀ x c,cl.lookup x=some c->x∈fs)) (h7:Tr m H f (PySem.W.kla_obj "<lambda>" q pa be sc cl pm c' ctv)) (h8:Tr m H c' oc) (h9:oc.data=.fields os) (h10:os[1]?=some (.str q t)) (h11:iB m H cl fs vs):jD m H f L vs
inductive RCs (K:MV) (m:List M9) (H:Hp):List V->List BT.Cp->Prop where
 | nil:RCs K m H [] []
 | cons {v:V}{x:BT.Cp}{vs:List V}{xs:List BT.Cp} (r:RA K m H v x.w) (t:RCs K m H vs xs):RCs K m H (v :: vs) (x :: xs)
noncomputable def TB (K:MV) (H:Hp):Prop:=∀ x∈BT.fZ,∀ c P,Om K x=some (c,P)->∃ ps,H P=some (.tbl ps)/\TriplesOk ps.toList ∧
 ∀ pos v,codeAmong pos ps.toList=some v->∃ c' oc os t,v=.ref c'/\H c'=some (.frz oc (.own 0))/\oc.data=.fields os/\os[1]?=some (.str (LG x) t)
theorem TB.mono {K:MV} (h:TB K H) (h1:∀ P ps,H P=some (.tbl ps)->H' P=some (.tbl ps)) (h2:∀ a o vs,o.data=.fields vs->H a=some (.frz o (.own 0))->H' a=some (.frz o (.own 0))):TB K H':=fun x hx c P e=>by
 obtain ⟨ps,e1,e2,e3⟩:=h x hx c P e
 refine ⟨ps,h1 _ _ e1,e2,fun pos v q=>?_⟩
 obtain ⟨c',oc,os,t,q1,q2,q3⟩:=e3 pos v q
 exact ⟨c',oc,os,t,q1,h2 _ _ _ q3.1 q2,q3⟩
noncomputable def CN (K:MV) (c:Str) (C:M9):Prop:=NH K Nj c=some (some (.ref C))
structure XT (K:MV) (c:Str) (C:M9):Prop where
 ga:NB K (.ref C) "__getattribute__"=some (some (.builtin "BaseException.__getattribute__"))
 nga:NB K (.ref C) "__getattr__"=some none
 mrb:Qu K C (.type "BaseException")=some true
 dct:OJ K C=true
 fnd:NB K (.ref C) "__class__"=some (some (.builtin "object.__class__"))
 spc:Sz K (.builtin "object.__class__") "__get__"=some (some (.builtin "getset_descriptor.__get__"))
 tak:Tc K (.builtin "object.__class__")=some true
 mro:Qu K C (.type "object")=some true
 own:∀ cn,De cn=true->∃ D,CN K cn D/\On K (.ref C) (.ref D)=some (BT.Er c cn)
 val:On K (.ref C) (.type "ValueError")=some true
noncomputable def excAt (K:MV) (c:Str) (a:M9):Heap->Prop:=fun h=>∃ o C,CN K c C/\XT K c C/\h.get? a=some o/\o.cls=.ref C
inductive RKs (K:MV) (m:List M9) (H:Hp):List (Key×V)->List (BT.Ky×BT.D)->Prop where
 | nil:RKs K m H [] []
 | cons {k:Key}{v:V}{d:BT.D}{vs:List (Key×V)}{kvs:List (BT.Ky×BT.D)} (hk:RD K m H (kV k) (BT.Ea k)) (r:RD K m H v d) (t:RKs K m H vs kvs):RKs K m H ((k,v) :: vs) ((k,d) :: kvs)
inductive RW (P:Nk) (w:Nz) (K:MV) (m:List M9) (H:Hp):V->BT.W->Prop where
 | p {v:V}{d:BT.D} (r:RD K m H v d):RW P w K m H v (.p d)
 | r {a:M9}{n:Nat} (h:m[n]?=some a):RW P w K m H (.ref a) (.r n)
 | k {a:M9}{es:List (Str×V)}{kvs:List (Str×BT.D)} (h:KD P w K a es) (r:RDk K es kvs):RW P w K m H (.ref a) (.k (.t kvs))
 | kl {a:M9}{o:Obj}{vs:List (Key×V)}{kvs:List (BT.Ky×BT.D)} (h:H a=some (.frz o (.dK vs))/\a∉m) (r:RKs K m H vs kvs):RW P w K m H (.ref a) (.k (.l kvs))
 | o {a:M9}{n:Nat} (h:m[n]?=some a):RW P w K m H (.ref a) (.o n)
 | c {f:M9}{L:Nat}{vs:List V}{cs:List BT.Cp} (h:jD m H f L vs) (r:RCs K m H vs cs):RW P w K m H (.ref f) (.c (.l L) cs)
 | x {a:M9}{c:Str} (h:H a=some (.ext (excAt K c a))) (n:a∉m) (xt:∃ C,XT K c C):RW P w K m H (.ref a) (.x c)
 | g {f:M9}{x:Str} (h:NH K Nj x=some (some (.ref f))) (r:N6 K (.ref f)=true):RW P w K m H (.ref f) (.c (.f x) [])
inductive RFs (K:MV) (m:List M9) (H:Hp):List (Str×V)->List (Str×BT.W)->Prop where
 | nil:RFs K m H [] []
 | cons {f:Str}{v:V}{x:BT.W}{vs:List (Str×V)}{fs:List (Str×BT.W)} (r:RA K m H v x) (t:RFs K m H vs fs):RFs K m H ((f,v) :: vs) ((f,x) :: fs)
theorem CN.inj {K:MV} (h:CN K c C) (h':CN K c C'):C=C':=by
 have e:=h.symm.trans h'
 simpa using e
structure oj (K:MV) (c:Str) (C:M9):Prop where
 cn:CN K c C
 cls:Cls K C
 no:∀ f,attrName f=true->ig K C f
noncomputable def iC (K:MV) (m:List M9) (H:Hp) (a:M9):BT.Cl->Prop
 | .l xs=>∃ vs,H a=some (.lst vs)/\RDs K m H vs xs
 | .o c fs=>∃ C dx vs,H a=some (.ins C dx vs)/\oj K c C/\RFs K m H vs fs
 | .d kvs=>∃ vs,H a=some (.dK vs)/\RKs K m H vs kvs
 | .z=>∃ ob vs,H a=some (.frz ob (.dK vs))
inductive RWs (P:Nk) (w:Nz) (K:MV) (m:List M9) (H:Hp):List V->List BT.W->Prop where
 | nil:RWs P w K m H [] []
 | cons {v:V}{x:BT.W}{vs:List V}{xs:List BT.W} (r:RW P w K m H v x) (t:RWs P w K m H vs xs):RWs P w K m H (v :: vs) (x :: xs)
structure RH (K:MV) (m:List M9) (H:Hp) (h:BT.HH):Prop where
 nd:m.Nodup
 len:m.length=h.length
 cl:∀ (i:Nat) (a:M9) (c:BT.Cl),m[i]?=some a->h[i]?=some c->iC K m H a c
 tb:TB K H
theorem yk (e:BT.lat h n=some xs):h[n]?=some (.l xs):=by
 unfold BT.lat at e
 cases g:h[n]? with
 | none=>rw[g] at e;exact cR e
 | some c=>rw[g] at e;cases c<;>simp[BT.qH] at e;rw[e]
theorem yl (e:BT.oat h n=some (c,fs)):h[n]?=some (.o c fs):=by
 unfold BT.oat at e
 cases g:h[n]? with
 | none=>rw[g] at e;exact cR e
 | some c=>rw[g] at e;cases c<;>simp[BT.qI] at e;rw[e.1,e.2]
theorem RH.cell {K:MV} (R:RH K m H h) (i:Nat) (a:M9) (xs:List BT.D) (e:m[i]?=some a) (g:BT.lat h i=some xs):∃ vs,H a=some (.lst vs)/\RDs K m H vs xs:=R.cl i a _ e (yk g)
inductive OC (K:MV) (m:List M9) (H:Hp) (a:M9) (c:Str) (fs:List (Str×BT.W)):Prop where
 | mk (C:M9) (dx:_) (vs:_) (h1:H a=some (.ins C dx vs)) (h2:oj K c C) (h3:RFs K m H vs fs):OC K m H a c fs
theorem RH.qT {K:MV} (R:RH K m H h) (i:Nat) (a:M9) (c:Str) (fs:List (Str×BT.W)) (e:m[i]?=some a) (g:BT.oat h i=some (c,fs)):OC K m H a c fs:=by
 obtain ⟨C,dx,vs,h1,h2,h3⟩:=R.cl i a _ e (yl g)
 exact ⟨C,dx,vs,h1,h2,h3⟩
structure RS (P:Nk) (w:Nz) (K:MV) (m:List M9) (H:Hp) (σ:L2.St) (s:BT.Sl):Prop where
 len:σ.length=s.length
 get:∀ (i:Nat) (x:BT.W),s[i]?=some (some x)->∃ v,σ[i]?=some (some v)/\RW P w K m H v x
noncomputable def Df:HO->Bool
 | .tbl _=>true
 | _=>false
structure Ext (m:List M9) (H:Hp) (m':List M9) (H':Hp):Prop where
 pre:∃ e,m'=m++e/\∀ a∈e,H a=none
 keep:∀ a o,H a=some o->a∉m->Df o=false->H' a=some o
 live:∀ a,H' a=none->H a=none
 frz:∀ a ob vs,H a=some (.frz ob (.dK vs))->H' a=some (.frz ob (.dK vs))
theorem Ext.refl (m:List M9) (H:Hp):Ext m H m H:=⟨⟨[],by simp,by simp⟩,fun _ _ h _ _=>h,fun _ h=>h,fun _ _ _ h=>h⟩
theorem Ext.iE (x:Ext m H m' H') (h:H a=some o) (n:a∉m):a∉m':=by
 obtain ⟨e,rfl,he⟩:=x.pre
 intro q
 rcases List.mem_append.mp q with q | q
 ·exact n q
 ·rw[he a q] at h;exact cR h
theorem Ext.trans (x:Ext m H m1 H1) (y:Ext m1 H1 m2 H2):Ext m H m2 H2:=by
 obtain ⟨e,rfl,he⟩:=x.pre
 obtain ⟨e',rfl,he'⟩:=y.pre
 refine ⟨⟨e++e',by rw[NR],fun a ha=>?_⟩,fun a o h n t=>y.keep a o (x.keep a o h n t) (x.iE h n) t,fun a h=>x.live a (y.live a h),fun a ob vs h=>y.frz a ob vs (x.frz a ob vs h)⟩
 rcases List.mem_append.mp ha with q | q
 ·exact he a q
 ·exact x.live a (he' a q)
theorem Rd.ext (x:Ext m H m' H') (h:Rd H a u) (n:a∉m) (t:Df u=false:=by rfl):Rd H' a u/\a∉m':=by
 rcases h with h | ⟨o,h⟩
 ·exact ⟨.inl (x.keep _ _ h n t),x.iE h n⟩
 ·exact ⟨.inr ⟨o,x.keep _ _ h n rfl⟩,x.iE h n⟩
theorem Tr.ext (x:Ext m H m' H') (h:Tr m H a o):Tr m' H' a o:=⟨x.keep _ _ h.1 h.2 rfl,x.iE h.1 h.2⟩
theorem iB.ext (x:Ext m H m' H') (r:iB m H cl xs vs):iB m' H' cl xs vs:=by
 induction r with
 | nil=>exact .nil
 | cons h1 h2 h3 r t ih=>exact .cons h1 (h2.ext x) h3 r ih
theorem jD.ext (x:Ext m H m' H') (h:jD m H f L vs):jD m' H' f L vs:=by
 obtain ⟨bt,ps,fs,pa,be,sc,cl,pm,ctv,c',oc,os,t,q,h0,h1,h2,h3,h4,h5,h6,h7,h8,h9,h10⟩:=h
 exact ⟨bt,ps,fs,pa,be,sc,cl,pm,ctv,c',oc,os,t,q,h0,h1,h2,h3,h4,h5,h6.ext x,h7.ext x,h8,h9,h10.ext x⟩
section
variable {K:MV}
mutual
theorem RD.ext (x:Ext m H m' H'):∀ {v:V}{d:BT.D},RD K m H v d->RD K m' H' v d
 | _,_,.non=>.non
 | _,_,.bl b=>.bl b
 | _,_,.int i=>.int i
 | _,_,.str y h=>.str y h
 | _,_,.tup h r=>.tup (h.elim (fun q=>.inl (Rd.ext x q.1 q.2)) .inr) (RDs.ext x r)
 | _,_,.lst h r=>.lst (h.elim (fun q=>.inl (Rd.ext x q.1 q.2)) .inr) (RDs.ext x r)
theorem RDs.ext (x:Ext m H m' H'):∀ {vs:List V}{ds:List BT.D},RDs K m H vs ds->RDs K m' H' vs ds
 | _,_,.nil=>.nil
 | _,_,.cons r t=>.cons (RD.ext x r) (RDs.ext x t)
end
theorem RA.rw (r:RA K m H v d):RW P w K m H v d:=by
 cases r with
 | p r=>exact .p r
 | r h=>exact .r h
 | o h=>exact .o h
theorem RW.ra (r:RW P w K m H v d) (h0:BT.attrOk d=true):RA K m H v d:=by
 cases r with
 | p r=>exact .p r
 | r h=>exact .r h
 | o h=>exact .o h
 | k _ _=>exact BT.dN h0
 | kl _ _=>exact BT.dN h0
 | c _ _=>exact BT.dN h0
 | x _=>exact BT.dN h0
 | g _ _=>exact BT.dN h0
theorem Ext.ix (x:Ext m H m' H') {n:Nat} (h:m[n]?=some a):m'[n]?=some a:=by
 obtain ⟨e,rfl,_⟩:=x.pre
 rw[Nf (by rcases N1 _ m.length with q | q;exact q;rw[Nr q] at h;exact cR h)]
 exact h
theorem RA.ext (x:Ext m H m' H') (r:RA K m H v d):RA K m' H' v d:=by
 cases r with
 | p r=>exact .p (r.ext x)
 | r h=>exact .r (x.ix h)
 | o h=>exact .o (x.ix h)
theorem RCs.ext (x:Ext m H m' H') (r:RCs K m H vs cs):RCs K m' H' vs cs:=by
 induction r with
 | nil=>exact .nil
 | cons r t ih=>exact .cons (r.ext x) ih
theorem RKs.ext (x:Ext m H m' H') (r:RKs K m H vs kvs):RKs K m' H' vs kvs:=by
 induction r with
 | nil=>exact .nil
 | cons hk r t ih=>exact .cons (hk.ext x) (r.ext x) ih
theorem RW.ext (x:Ext m H m' H') (r:RW P w K m H v d):RW P w K m' H' v d:=by
 cases r with
 | p r=>exact .p (r.ext x)
 | r h =>
  obtain ⟨e,rfl,_⟩:=x.pre
  refine .r ?_
  rw[Nf (by rcases N1 _ m.length with q | q;exact q;rw[Nr q] at h;exact cR h)]
  exact h
 | k h r=>exact .k h r
 | kl h r=>exact .kl ⟨x.keep _ _ h.1 h.2 rfl,x.iE h.1 h.2⟩ (r.ext x)
 | c h r=>exact .c (h.ext x) (r.ext x)
 | g h r=>exact .g h r
 | x h n xt=>exact .x (x.keep _ _ h n rfl) (x.iE h n) xt
 | o h =>
  obtain ⟨e,rfl,_⟩:=x.pre
  refine .o ?_
  rw[Nf (by rcases N1 _ m.length with q | q;exact q;rw[Nr q] at h;exact cR h)]
  exact h
theorem RFs.ext (x:Ext m H m' H') (r:RFs K m H vs fs):RFs K m' H' vs fs:=by
 induction r with
 | nil=>exact .nil
 | cons r t ih=>exact .cons (r.ext x) ih
theorem iC.ext (x:Ext m H m' H') (e:H' a=H a) (r:iC K m H a c):iC K m' H' a c:=by
 cases c with
 | l xs=>obtain ⟨vs,h1,h2⟩:=r;exact ⟨vs,e.trans h1,h2.ext x⟩
 | o c fs=>obtain ⟨C,dx,vs,h1,h2,h3⟩:=r;exact ⟨C,dx,vs,e.trans h1,h2,h3.ext x⟩
 | d kvs=>obtain ⟨vs,h1,h2⟩:=r;exact ⟨vs,e.trans h1,h2.ext x⟩
 | z=>obtain ⟨ob,vs,h1⟩:=r;exact ⟨ob,vs,e.trans h1⟩
theorem iC.some (r:iC K m H a c):∃ o,H a=some o:=by
 cases c with
 | l xs=>obtain ⟨vs,h1,h2⟩:=r;exact ⟨_,h1⟩
 | o c fs=>obtain ⟨C,dx,vs,h1,h2,h3⟩:=r;exact ⟨_,h1⟩
 | d kvs=>obtain ⟨vs,h1,h2⟩:=r;exact ⟨_,h1⟩
 | z=>obtain ⟨ob,vs,h1⟩:=r;exact ⟨_,h1⟩
theorem RWs.ext (x:Ext m H m' H') (r:RWs P w K m H vs ds):RWs P w K m' H' vs ds:=by
 induction r with
 | nil=>exact .nil
 | cons r t ih=>exact .cons (r.ext x) ih
theorem RS.ext (x:Ext m H m' H') (r:RS P w K m H σ s):RS P w K m' H' σ s :=
 ⟨r.len,fun i y e=>by obtain ⟨v,h,q⟩:=r.get i y e;exact ⟨v,h,q.ext x⟩⟩
theorem RDs.length:∀ {vs:List V}{ds:List BT.D},RDs K m H vs ds->vs.length=ds.length
 | _,_,.nil=>rfl
 | _,_,.cons _ t=>by rw[Ni,Ni,RDs.length t]
theorem RWs.length:∀ {vs:List V}{ds:List BT.W},RWs P w K m H vs ds->vs.length=ds.length
 | _,_,.nil=>rfl
 | _,_,.cons _ t=>by rw[Ni,Ni,RWs.length t]
theorem RDs.get:∀ {vs:List V}{ds:List BT.D}{i:Nat}{d:BT.D},RDs K m H vs ds->ds[i]?=some d->∃ v,vs[i]?=some v/\RD K m H v d
 | _,_,_,_,.nil,e=>by simp at e
 | _,_,0,_,.cons r _,e=>by simp at e;subst e;exact ⟨_,rfl,r⟩
 | _,_,i+1,d,.cons _ t,e=>by
  obtain ⟨u,h1,h2⟩:=RDs.get (i:=i) (d:=d) t (by simpa using e)
  exact ⟨u,by simpa using h1,h2⟩
theorem RDs.append:∀ {vs ws:List V}{ds es:List BT.D},RDs K m H vs ds->RDs K m H ws es->RDs K m H (vs++ws) (ds++es)
 | _,_,_,_,.nil,s=>s
 | _,_,_,_,.cons r t,s=>.cons r (RDs.append t s)
theorem RDs.take:∀ {vs:List V}{ds:List BT.D} (n:Nat),RDs K m H vs ds->RDs K m H (vs.take n) (ds.take n)
 | _,_,0,_=>.nil
 | _,_,_+1,.nil=>.nil
 | _,_,n+1,.cons r t=>.cons r (RDs.take n t)
theorem RDs.drop:∀ {vs:List V}{ds:List BT.D} (n:Nat),RDs K m H vs ds->RDs K m H (vs.drop n) (ds.drop n)
 | _,_,0,r=>r
 | _,_,_+1,.nil=>.nil
 | _,_,n+1,.cons _ t=>RDs.drop n t
theorem RDs.set (r:RD K m H v d):∀ {vs:List V}{ds:List BT.D} (i:Nat),RDs K m H vs ds->RDs K m H (vs.set i v) (ds.set i d)
 | _,_,_,.nil=>.nil
 | _,_,0,.cons _ t=>.cons r t
 | _,_,i+1,.cons q t=>.cons q (RDs.set r i t)
theorem RDs.pick (r:RDs K m H vs ds):∀ l:List Nat,RDs K m H (l.filterMap fun i=>vs[i]?) (l.filterMap fun i=>ds[i]?)
 | []=>.nil
 | i :: l=>by
  rw[N8,N8]
  cases g:ds[i]? with
  | none =>
   have:vs[i]?=none:=by
    have h:=r.length
    rw[RI] at g ⊢
    lia
   rw[this]
   exact RDs.pick r l
  | some d =>
   obtain ⟨v,e,q⟩:=r.get g
   rw[e]
   exact .cons q (RDs.pick r l)
theorem RDs.dropLast:∀ {vs:List V}{ds:List BT.D},RDs K m H vs ds->RDs K m H vs.dropLast ds.dropLast
 | _,_,.nil=>.nil
 | _,_,.cons _ .nil=>.nil
 | _,_,.cons r (.cons q t)=>.cons r (RDs.dropLast (.cons q t))
theorem RDs.rep (r:RDs K m H vs ds):∀ k:Nat,RDs K m H (Nn k vs).flatten (Nn k ds).flatten
 | 0=>.nil
 | k+1=>by
  rw[Oh,Oh,Oe,Oe]
  exact RDs.append r (RDs.rep r k)
theorem om {N:List M9} (hN:N.Nodup) {i j:Nat}{x:M9} (a:N[i]?=some x) (b:N[j]?=some x):i=j:=by
 have hi:i < N.length:=by
  rcases N1 i N.length with z | z
  ·exact z
  ·rw[Nr z] at a;exact cR a
 have hj:j < N.length:=by
  rcases N1 j N.length with z | z
  ·exact z
  ·rw[Nr z] at b;exact cR b
 rw[Ng hi] at a
 rw[Ng hj] at b
 exact (List.getElem_inj hN).mp ((Nc a).trans (Nc b).symm)
inductive RR (K:MV) (m:List M9) (H:Hp):V->BT.D->Prop where
 | d {v:V}{d:BT.D} (r:RD K m H v d):RR K m H v d
 | l {a:M9}{vs:List V}{ds:List BT.D} (h:H a=some (.lst vs)) (r:RDs K m H vs ds):RR K m H (.ref a) (.lst ds)
theorem dG (RHh:RH K m H h) (r:RW P w K m H v x) (e:BT.rd x h=some d):RR K m H v d:=by
 cases r with
 | p r=>cases e;exact .d r
 | @r a n q =>
  simp only[BT.rd] at e
  cases g:BT.lat h n with
  | none=>rw[g] at e;exact cR e
  | some xs =>
   rw[g] at e
   cases e
   obtain ⟨vs,h1,h2⟩:=RHh.cell n a xs q g
   exact .l h1 h2
 | k _ _=>exact cR e
 | kl _ _=>exact cR e
 | o _=>exact cR e
 | c _ _=>exact cR e
 | x _=>exact cR e
 | g _ _=>exact cR e
inductive RLs (K:MV) (m:List M9) (H:Hp) (v:V) (ds:List BT.D):Prop where
 | mk (a:M9) (vs:List V) (e:v=.ref a) (l:LL K H a vs) (r:RDs K m H vs ds):RLs K m H v ds
inductive RTs (K:MV) (m:List M9) (H:Hp) (v:V) (ds:List BT.D):Prop where
 | mk (a:M9) (vs:List V) (e:v=.ref a) (l:SqT K H a vs) (r:RDs K m H vs ds):RTs K m H v ds
theorem RR.lst {v:V}{ds:List BT.D} (r:RR K m H v (.lst ds)):RLs K m H v ds:=by
 cases r with
 | d r=>cases r with | lst h r=>exact ⟨_,_,rfl,h.elim (fun q=>.inl q.1) .inr,r⟩
 | l h r=>exact ⟨_,_,rfl,.inl (.inl h),r⟩
theorem RR.tup {v:V}{ds:List BT.D} (r:RR K m H v (.tup ds)):RTs K m H v ds:=by
 cases r with
 | d r=>cases r with | tup h r=>exact ⟨_,_,rfl,h.elim (fun q=>.inl q.1) (fun ⟨o,its,n,q,_⟩=>.inr ⟨o,its,n,q⟩),r⟩
theorem RR.int {v:V}{i:Int} (r:RR K m H v (.int i)):v=.int i:=by
 cases r with | d r=>cases r;rfl
theorem RR.str {v:V}{x:Str} (r:RR K m H v (.str x)):v=.str x/\PyData.strOk x=true:=by
 cases r with | d r=>cases r with | str _ h=>exact ⟨rfl,h⟩
theorem RR.bl {v:V}{b:Bool} (r:RR K m H v (.bl b)):v=.bl b:=by
 cases r with | d r=>cases r;rfl
theorem RR.non (r:RR K m H v .non):v=.non:=by
 cases r with | d r=>cases r;rfl
theorem TB.new (hp:H p=none) {K:MV} (h:TB K H):TB K (upd H p o) :=
 h.mono (fun P ps e=>by rw[c5 (dz e hp)];exact e) fun a o _ _ e=>by rw[c5 (dz e hp)];exact e
theorem gH (hp:H p=none):Ext m H m (upd H p o) :=
 ⟨⟨[],by simp,by simp⟩,fun a q h _ _=>by rw[c5 (dz h hp)];exact h,fun a h=>by
  by_cases e:a=p
  ·rw[e];exact hp
  ·rw[c5 e] at h;exact h,fun a ob vs h=>by rw[c5 (dz h hp)];exact h⟩
theorem RH.iE (R:RH K m H h) (hp:H p=none):p∉m:=by
 intro q
 obtain ⟨i,hi⟩:=Ot q
 have hl:i < h.length:=by
  rw[← R.len]
  rcases N1 i m.length with z | z
  ·exact z
  ·rw[Nr z] at hi;exact cR hi
 obtain ⟨o,e⟩:=(R.cl i p h[i] hi (Ng hl)).some
 rw[e] at hp;cases hp
noncomputable def Le (H H':Hp):Prop:=∀ a u,H a=some u->H' a=some u
theorem Le.tb (q:Le H H') {K:MV} (t:TB K H):TB K H':=t.mono (fun _ _ e=>q _ _ e) fun _ _ _ _ e=>q _ _ e
theorem ym (hp:H p=none):Le H (upd H p o):=fun a u e=>by rw[c5 (dz e hp)];exact e
theorem RH.ext (R:RH K m H h) (x:Ext m H m H') (k:Le H H'):RH K m H' h :=
 ⟨R.nd,R.len,fun i a c e1 e2=>by
  obtain ⟨o,e⟩:=(R.cl i a c e1 e2).some
  exact (R.cl i a c e1 e2).ext x (by rw[e];exact k _ _ e),k.tb R.tb⟩
noncomputable def IE:HO->Bool
 | .lst _=>true
 | .ins _ _ _=>true
 | .dK _=>true
 | _=>false
noncomputable def ED:HO->Bool
 | .frz _ (.dK _)=>true
 | .lst _=>true
 | .ins _ _ _=>true
 | .dK _=>true
 | _=>false
theorem RH.mu (R:RH K m H h) (ha:a∈m):∃ o,H a=some o/\ED o=true:=by
 obtain ⟨i,hi⟩:=Ot ha
 have hl:i < h.length:=by
  rw[← R.len]
  rcases N1 i m.length with z | z
  ·exact z
  ·rw[Nr z] at hi;exact cR hi
 have z:=R.cl i a h[i] hi (Ng hl)
 cases g:h[i] with
 | l xs=>rw[g] at z;obtain ⟨vs,h1,h2⟩:=z;exact ⟨_,h1,rfl⟩
 | o c fs=>rw[g] at z;obtain ⟨C,dx,vs,h1,h2,h3⟩:=z;exact ⟨_,h1,rfl⟩
 | d kvs=>rw[g] at z;obtain ⟨vs,h1,h2⟩:=z;exact ⟨_,h1,rfl⟩
 | z=>rw[g] at z;obtain ⟨ob,vs,h1⟩:=z;exact ⟨_,h1,rfl⟩
theorem RH.new (R:RH K m H h) (hp:H p=none):RH K m (upd H p o) h :=
 R.ext (gH hp) (ym hp)
theorem jE (hp:H p=none):Ext m H (m++[p]) (upd H p o) :=
 ⟨⟨[p],rfl,by simpa using hp⟩,fun a q h _ _=>by rw[c5 (dz h hp)];exact h,fun a h=>by
  by_cases e:a=p
  ·rw[e];exact hp
  ·rw[c5 e] at h;exact h,fun a ob vs h=>by rw[c5 (dz h hp)];exact h⟩
theorem RH.IF (R:RH K m H h) (hp:H p=none) (r:iC K (m++[p]) (upd H p o) p c):RH K (m++[p]) (upd H p o) (h++[c]):=by
 have np:=R.iE hp
 have x:Ext m H (m++[p]) (upd H p o):=jE hp
 refine ⟨List.nodup_append.mpr ⟨R.nd,by simp,fun a ha b hb=>by simp at hb;subst hb;exact fun e=>np (e ▸ ha)⟩,by simp[R.len],fun i a ys e1 e2=>?_,R.tb.new hp⟩
 by_cases c:i < m.length
 ·rw[Nf c] at e1
  rw[Nf (by rw[← R.len];exact c)] at e2
  have ne:a≠p:=by
   intro e
   subst e
   exact np (Np e1)
  exact (R.cl i a ys e1 e2).ext x (c5 ne)
 ·have e:i=m.length:=by
   rcases N1 i (m++[p]).length with z | z
   ·simp at z;lia
   ·rw[Nr z] at e1;exact cR e1
  subst e
  simp at e1
  rw[R.len] at e2
  simp at e2
  subst e1 e2
  exact r
theorem RH.LH (R:RH K m H h) (hp:H p=none) (r:RDs K m H vs xs):RH K (m++[p]) (upd H p (.lst vs)) (h++[.l xs]) :=
 R.IF hp ⟨vs,dR,r.ext (jE hp)⟩
theorem TB.set (hm:∃ u,H a=some u/\ED u=true) {K:MV} (h:TB K H):TB K (upd H a o):=by
 obtain ⟨w,hw,hu⟩:=hm
 refine h.mono (fun P ps e=>?_) fun b ob _ _ e=>?_
 ·rw[c5 (fun z=>by subst z;rw[hw] at e;cases e;exact BT.dN hu)];exact e
 ·rw[c5 (fun z=>by subst z;rw[hw] at e;cases e;exact BT.dN hu)];exact e
theorem mz {a:M9}{o:HO} (ha:a∈m) (nf:∃ u,H a=some u/\IE u=true):Ext m H m (upd H a o) :=
 ⟨⟨[],by simp,by simp⟩,fun b u q n _=>by
  have ne:b≠a:=by
   intro e
   subst e
   exact n ha
  rw[c5 ne];exact q,fun b q=>by
  by_cases e:b=a
  ·subst e;rw[dR] at q;cases q
  ·rw[c5 e] at q;exact q,fun b ob vs q=>by
  obtain ⟨u,hu,hm⟩:=nf
  rw[c5 (fun z=>by subst z;rw[hu] at q;cases q;exact BT.dN hm)];exact q⟩
theorem gq (ha:a∈m) (h:H a=some (.lst us)):Ext m H m (upd H a (.lst vs)):=mz ha ⟨_,h,rfl⟩
theorem RH.setC {h:BT.HH} (R:RH K m H h) {n:Nat}{a:M9}{o:HO}{c:BT.Cl} (hn:m[n]?=some a) (nf:∃ u,H a=some u/\IE u=true) (r:iC K m (upd H a o) a c):RH K m (upd H a o) (h.set n c):=by
 have x:Ext m H m (upd H a o):=mz (Np hn) nf
 refine ⟨R.nd,by simp[R.len],fun i b ys e1 e2=>?_,R.tb.set (R.mu (Np hn))⟩
 by_cases c:i=n
 ·subst c
  rw[hn] at e1;cases e1
  have hl:i < h.length:=by
   rw[← R.len]
   rcases N1 i m.length with z | z
   ·exact z
   ·rw[Nr z] at hn;exact cR hn
  rw[Ol hl] at e2
  cases e2
  exact r
 ·rw[OQ (Qe c)] at e2
  have ne:b≠a:=by
   intro e
   subst e
   exact c (om R.nd e1 hn)
  exact (R.cl i b ys e1 e2).ext x (c5 ne)
theorem RH.set (R:RH K m H h) (hn:m[n]?=some a) (hH:H a=some (.lst us)) (r:RDs K m H vs xs):RH K m (upd H a (.lst vs)) (h.set n (.l xs)) :=
 R.setC hn ⟨_,hH,rfl⟩ ⟨vs,dR,r.ext (gq (Np hn) hH)⟩
end
end BS
end
section
namespace BS
open PySem PySem.Spec PyProof.Rows L2 PySem.SeqAt
theorem kR {E:MZ->M0->Prop} (f:Nat->β->Sem (ForInStep β)) (n:Nat) (I:Nat->β->M0->Prop) (Q:β->M0->Prop)
 (turn:∀ i b s,i < n->I i b s->wpAny M A (f i b) (fun r s'=>match r with | .yield b'=>I (i+1) b' s' | .done b'=>Q b' s') E s)
 (fin:∀ b s,I n b s->Q b s) (b:β) (h:I 0 b s):wpAny M A (forIn [:n] b f) Q E s:=by
 rw[Std.Legacy.Range.forIn_eq_forIn_range']
 have e:SO [:n].start [:n].size [:n].step=SO 0 (n - 0):=by simp[Std.Legacy.Range.size]
 rw[e]
 refine wpAny_forIn_list f (fun rest b s=>∃ i,i<=n/\rest=SO i (n - i)/\I i b s) Q (fun x rest b s ⟨i,hi,hr,q⟩=>?_) (fun b s ⟨i,hi,hr,q⟩=>?_) _ b ⟨0,Py _,rfl,h⟩
 ·have hlt:i < n:=by
   rcases N1 i n with z | z
   ·exact z
   ·rw[show n - i=0 by lia] at hr;simp at hr
  rw[show n - i=(n - (i+1))+1 by lia,List.range'_succ] at hr
  injection hr with e1 e2
  subst e1
  refine OT (turn x b s hlt q) (fun r s' z=>?_) fun _ _ z=>z
  cases r with
  | yield b'=>exact ⟨x+1,hlt,e2,z⟩
  | done b'=>exact z
 ·have:i=n:=by
   rcases N1 i n with z | z
   ·rw[show n - i=(n - (i+1))+1 by lia,List.range'_succ] at hr;simp at hr
   ·lia
  subst this
  exact fin b s q
theorem nH (l:M9) (items:Array MZ) (n:Nat) (dd:Option M9) (sl:Array (Option MZ)) (x:MZ) (e:MZ->Bool) (j:Nat) (hj:j < items.size)
 (hit:e items[j]=true) (hno:∀ m (hm:m < items.size),m < j->e items[m]=false) :
 Meets (Builtin.«tuple.index» ⟨[.ref l,x],[]⟩)
  (fun A R s=>s.heap.get? l=some { cls:=.type "tuple",dict:=dd,data:=.seq items n,slots:=sl }/\(∀ y,y∈items->EqAt A.in1 s y x (e y))/\R (.ok (.ret (.int j s.toks))) { s with toks:=s.toks+1 }) :=
 .of_wp fun prog w A R s h=>by
 obtain ⟨hp,g,d,tk,os⟩:=s;obtain ⟨hl,he,h⟩:=h
 wp_walk using Pb hl,kR _ _ (fun i b s'=>i<=j/\b.1=none/\s'=⟨hp,g,d,tk,os⟩) _
 case turn =>
  rintro i b s' hi ⟨hij,hb,rfl⟩
  have hi':i < items.size:=by lia
  rw[Rv hi']
  refine MW (he _ (Array.getElem_mem hi') prog w _ _ ?_)
  by_cases c:i=j
  ·subst c
   rw[hit]
   wp_walk
   exact ⟨_,rfl,h⟩
  ·rw[hno i hi' (by lia)]
   wp_walk
   exact ⟨by lia,rfl,rfl⟩
 case fin =>
  rintro b s' ⟨hij,_,_⟩
  lia
 case h=>exact ⟨Py _,rfl,rfl⟩
theorem sL (l:M9) (items:Array MZ) (n:Nat) (dd:Option M9) (sl:Array (Option MZ)) (k:Int) (t:Tok) (h1:-1000<=k) (h2:k<=1000) (c1:¬ items.isEmpty=true) (c2:k≠1) (c3:0 < k) (hz:items.size*k.toNat<=sizeLine) :
 Meets (Builtin.«tuple.__mul__» ⟨[.ref l,.int k t],[]⟩)
  (fun A R s=>s.heap.get? l=some { cls:=.type "tuple",dict:=dd,data:=.seq items n,slots:=sl }/\R (.ok (.ret (.ref s.heap.objs.size))) { s with heap:=s.heap.push { cls:=.type "tuple",data:=.seq ((Nn k.toNat items).foldl (fun x1 x2=>x1++x2) #[]) } }) :=
 .of_wp fun prog w A R s h=>by
 obtain ⟨hp,g,d,tk,os⟩:=s;obtain ⟨hl,h⟩:=h
 have f1:=SE
 have a1:¬ (decide (k < -2 ^ 63)||decide (k ≥ 2 ^ 63))=true:=by simp;lia
 have a2:¬ (items.isEmpty||k==1)=true:=by simp at c1 ⊢;exact ⟨c1,c2⟩
 have a3:¬ (decide (k<=0)||items.isEmpty)=true:=by simp at c1 ⊢;exact ⟨by lia,c1⟩
 have kk:(k.toNat:Int)=k:=by lia
 have a4:¬ ((items.size:Int)*k > (2 ^ 63 - 1) / 8):=by
  have z:((items.size*k.toNat:Nat):Int)<=(sizeLine:Nat):=Int.ofNat_le.mpr hz
  rw[Int.natCast_mul,kk] at z
  have z2:((sizeLine:Nat):Int)<=(2 ^ 63 - 1) / 8:=by decide
  lia
 have a5:¬ Qx ((items.size:Int)*k)=true:=by
  have z:((items.size*k.toNat:Nat):Int)<=(sizeLine:Nat):=Int.ofNat_le.mpr hz
  rw[Int.natCast_mul,kk] at z
  simp only[Qx,decide_eq_true_eq]
  lia
 have hsz:sizeOk (.seq ((Nn k.toNat items).foldl (fun x1 x2=>x1++x2) #[])):=by
  show ((Nn k.toNat items).foldl (fun x1 x2=>x1++x2) #[]).size<=sizeLine
  rw[AutoListH.size_joined,Array.size_empty,SA];lia
 wp_walk using Pb hl
 rw[if_neg a1]
 wp_walk using Pb hl
 refine wpAny_ite_split (fun c=>absurd c ?_) (fun _=>?_)
 ·intro c;have a6:=a4;simp at a6 c;lia
 wp_walk using Pb hl
 refine wpAny_ite_false (decide_eq_false (Nat.not_lt.mpr hsz)) ?_
 wp_walk
 exact ⟨_,rfl,h⟩
theorem j7:fillsNumberSlot (.type "tuple") "mul"=pure false :=
 PySem.fillsNumberSlot_seq (id:="tuple.__mul__") (r:=some (.builtin "tuple.__rmul__")) F.slot_tuple_mul.lookup (by decide +kernel) F.slot_tuple_rmul.lookup (by decide +kernel)
theorem pC:seqRepeat? (.type "tuple")=pure (some (.builtin "tuple.__mul__")):=by
 unfold seqRepeat?
 rw[PySem.seqSlot_of (T:="tuple") (name:="__mul__") (id:="tuple.__mul__") F.slot_tuple_mul.lookup (by decide +kernel),PySem.seqSlot_of (T:="tuple") (name:="__rmul__") (id:="tuple.__rmul__") F.slot_tuple_rmul.lookup (by decide +kernel)]
 rfl
theorem mC (a:Int) (t:Tok) (l:M9) (items:Array MZ) (n:Nat) (dd:Option M9) (sl:Array (Option MZ)) :
 Meets (Builtin.«int.__rmul__» ⟨[.int a t,.ref l],[]⟩) (fun _ R s=>s.heap.get? l=some { cls:=.type "tuple",dict:=dd,data:=.seq items n,slots:=sl }/\R (.ok (.ret Value.notImplemented)) s) :=
 .of_wp fun prog w A R s h=>by obtain ⟨hp,g,d,tk,os⟩:=s;obtain ⟨hl,h⟩:=h;wp_walk;exact ⟨_,rfl,h⟩
theorem kT (l:M9) (items:Array MZ) (n:Nat) (b:M9) (items2:Array MZ) (n2:Nat) (dd:Option M9) (sl:Array (Option MZ)) (hs0:¬(!items.isEmpty&&N7 (items.size+items2.size))=true) (hs1:items.size<=sizeLine) (hs2:items.size+items2.size<=sizeLine+1) :
 Meets (Builtin.«list.extend» ⟨[.ref l,.ref b],[]⟩) (fun _ R s=>s.heap.get? l=some { cls:=.type "list",dict:=none,data:=.seq items n,slots:=#[] }/\s.heap.get? b=some { cls:=.type "tuple",dict:=dd,data:=.seq items2 n2,slots:=sl }/\R (.ok (.ret O8)) { s with heap:=s.heap.update l (Qs fun x=>x++items2),toks:=s.toks }) :=
 .of_wp fun prog w A R s h=>by
  obtain ⟨hp,g,d,tk,os⟩:=s;obtain ⟨hl,hb,h⟩:=h;have f1:=SE;have f2:=AutoSeq1.sub_tuple_tuple;have f3:=AutoSeq1.sub_list_list;have f4:=AutoSeq1.sub_tuple_list;have f5:=AutoSeq1.sub_list_tuple
  have hz':(items++items2).size<=sizeLine+1:=by rw[Array.size_append];exact hs2
  wp_walk using (wpAny_updateSeq hl rfl (hz:=hs1) (_hz':=hz')),Pb hl,Pb hb;exact ⟨_,rfl,h⟩
end BS
end
section
namespace BS
open PySem PySem.Spec PyProof.Rows L2
inductive Bnd {α β:Type} (x:Option (α×BT.HH)) (k:α->BT.HH->Option β) (r:β):Prop where
 | mk (a:α) (g:BT.HH) (h1:x=some (a,g)) (h2:k a g=some r):Bnd x k r
inductive IG {α β:Type} (x:Option α) (f:α->β) (r:β):Prop where
 | mk (a:α) (h1:x=some a) (h2:f a=r):IG x f r
inductive Bind (o:BT.Bin) (x y:BT.W) (h:BT.HH) (z:BT.W) (h':BT.HH):Prop where
 | mk (d d' q:BT.D) (h1:BT.rd x h=some d) (h2:BT.rd y h=some d') (h3:BT.je o d d'=some q) (h4:z=.p q) (h5:h'=h):Bind o x y h z h'
theorem cT {α β:Type}{x:Option (α×BT.HH)}{k:α->BT.HH->Option β}{r:β} (h:BT.bnd x k=some r):Bnd x k r:=by
 cases x with
 | none=>exact cR h
 | some q=>exact ⟨q.1,q.2,rfl,h⟩
theorem cY {α β:Type}{x:Option α}{f:α->β}{r:β} (h:x.map f=some r):IG x f r:=by
 cases x with
 | none=>exact cR h
 | some a=>exact ⟨a,rfl,Nc h⟩
noncomputable def Post (P:Nk) (w:Nz) (K:MV) (m:List M9) (H:Hp) (z:BT.W) (h':BT.HH) (Q:VK):Prop :=
 ∀ v H' m',Ext m H m' H'->RH K m' H' h'->RW P w K m' H' v z->Q v H'
inductive rOp (P:Nk) (w:Nz) (K:MV) (f:BT.W->BT.W->BT.HH->Option (BT.W×BT.HH)) (v u:V) (H:Hp) (Q:VK):Prop where
 | mk (m:List M9) (h:BT.HH) (x y z:BT.W) (h':BT.HH) (R:RH K m H h) (rx:RW P w K m H v x) (ry:RW P w K m H u y) (e:f x y h=some (z,h')) (p:Post P w K m H z h' Q):rOp P w K f v u H Q
theorem iP {o:BT.Bin}{x y:BT.W}{h:BT.HH}{z:BT.W}{h':BT.HH} (e:BT.nF o x y h=some (z,h')):Bind o x y h z h':=by
 unfold BT.nF at e
 cases e1:BT.rd x h with
 | none=>rw[e1] at e;exact cR e
 | some d =>
  cases e2:BT.rd y h with
  | none=>rw[e1,e2] at e;exact cR e
  | some d' =>
   rw[e1,e2] at e
   obtain ⟨q,eq,er⟩:=cY e
   cases er
   exact ⟨d,d',q,e1,e2,eq,rfl,rfl⟩
section
variable {X:Cx}
theorem fh:BT.lim<=sizeLine:=by decide
inductive II (s:M0) (a:M9) (xs:List V):Prop where
 | mk (z:xs.length<=sizeLine) (its:List MZ) (n:Nat) (r:cX xs its) (l:xs.length=its.length) (e:s.heap.get? a=some { cls:=.type "list",data:=.seq its.toArray n }):II s a xs
theorem rdL (I:Inv X pins σ H s) (r:LL X.K H a xs):II s a xs:=by
 rcases r with r | ⟨its,n,h1,h2,h3⟩
 ·obtain ⟨z,its,n,r,e⟩:=r.ok I.hok
  exact ⟨z,its,n,r,r.length,e⟩
 ·exact ⟨by rw[h3.length];exact h2,its,n,h3,h3.length,I.kIn a _ h1⟩
theorem yo (I:Inv X pins σ H s) (ha:LL X.K H a xs) (hb:LL X.K H b ys) (hz:xs.length+ys.length<=sizeLine)
 (q:∀ p,H p=none->Q (.ref p) (upd H p (.lst (xs++ys)))):wpAny (Nv X.prog X.w) X.A (Oj .Add (.ref a) (.ref b)) (EP X pins σ Q) X.xe s:=by
 obtain ⟨z,its,n,r,hl,e⟩:=rdL I ha
 obtain ⟨z2,its2,n2,r2,hl2,e2⟩:=rdL I hb
 refine PySem.P.add_list e e2 ?_ (by rw[M3,M3];lia)
 have ea:its.toArray++its2.toArray=(its++its2).toArray:=by simp
 rw[ea]
 exact ⟨.ref _,_,I.Hj (t':=s.toks) (r.append r2) (by rw[Nl];lia),rfl,q _ I.fresh⟩
theorem vS (I:Inv X pins σ H s) (ha:SqT X.K H a xs) (hb:SqT X.K H b ys) (hz:xs.length+ys.length<=sizeLine)
 (q0:xs=[]->Q (.ref b) H) (q1:ys=[]->Q (.ref a) H) (q:∀ p,H p=none->Q (.ref p) (upd H p (.tup (xs++ys)))):wpAny (Nv X.prog X.w) X.A (Oj .Add (.ref a) (.ref b)) (EP X pins σ Q) X.xe s:=by
 by_cases c:xs=[]
 ·obtain ⟨its,r1,p1,_⟩:=I.tuple ha
  obtain ⟨its2,r2,p2,_⟩:=I.tuple hb
  obtain ⟨⟨cls,dd,data,sl⟩,ho,hc,n,hd⟩:=id p1
  obtain ⟨⟨cls2,dd2,data2,sl2⟩,ho2,hc2,n2,hd2⟩:=id p2
  simp only at hc hd hc2 hd2
  subst hc hd hc2 hd2
  have z:its=[]:=r1.jz.mpr c
  exact concat_meets ⟨_,ho,rfl⟩ ⟨_,ho2,rfl⟩ RL SW P4 P0 (PL _ _)
   (tuple_addW0 a b its.toArray its2.toArray n n2 dd dd2 sl sl2 (by simp[z])) ⟨ho,ho2,⟨.ref b,H,I,rfl,q0 c⟩⟩
 ·exact AH pins s σ H (.ref a) (.ref b) _ _ Q I rfl rfl ⟨a,b,xs,ys,rfl,rfl,ha,hb,c,hz,q1,fun _=>q⟩
theorem iQ (R:RH X.K m H h) (hp:H p=none) (r:RDs X.K m H vs ds) (post:Post X.prog X.w X.K m H (.p (.tup ds)) h Q):Q (.ref p) (upd H p (.tup vs)) :=
 post _ _ m (gH hp) (R.new hp) (.p (.tup (.inl ⟨.inl dR,R.iE hp⟩) (r.ext (gH hp))))
theorem iR (R:RH X.K m H h) (hp:H p=none) (r:RDs X.K m H vs ds) (post:Post X.prog X.w X.K m H (.p (.lst ds)) h Q):Q (.ref p) (upd H p (.lst vs)) :=
 post _ _ m (gH hp) (R.new hp) (.p (.lst (.inl ⟨.inl dR,R.iE hp⟩) (r.ext (gH hp))))
theorem ur (R:RH X.K m H h) (hp:H p=none) (r:RDs X.K m H vs ds) (post:Post X.prog X.w X.K m H (.r h.length) (h++[.l ds]) Q):Q (.ref p) (upd H p (.lst vs)) :=
 post _ _ (m++[p]) (jE hp) (R.LH hp r) (.r (by rw[← R.len];simp))
theorem pF (R:RH X.K m H h) (hp:H p=none) (r:RDs X.K m H vs ds) (post:Post X.prog X.w X.K m H (BT.new mu ds h).1 (BT.new mu ds h).2 Q):Q (.ref p) (upd H p (.lst vs)):=by
 cases mu with
 | false=>exact iR R hp r post
 | true=>exact ur R hp r post
theorem Post.here (R:RH X.K m H h) (post:Post X.prog X.w X.K m H (.p d) h Q) (r:RD X.K m H v d):Q v H:=post v H m (.refl _ _) R (.p r)
theorem pG (hx:PyData.strOk x=true) (hy:PyData.strOk y=true):PyData.strOk (x++y)=true:=by
 show (x.cps++y.cps).all _=true
 rw[QZ]
 simp only[PyData.strOk] at hx hy
 rw[hx,hy];rfl
theorem EF:OpR X (Oj .Add) (rOp X.prog X.w X.K (BT.nF .add)):=by
 intro pins s σ H v u v' u' Q I rv ru h
 obtain ⟨m,h,x,y,z,h',R,rx,ry,e,post⟩:=h
 obtain ⟨d,d',q,e1,e2,e3,rfl,rfl⟩:=iP e
 have r1:=dG R rx e1
 have r2:=dG R ry e2
 cases d<;>cases d'<;>first | exact cR e3 | simp only[BT.qK,BT.jf,BT.lU,BT.lV,BT.lW,BT.qL,BT.lX,BT.lY,BT.lZ,BT.j6,BT.mh] at e3
 ·cases e3
  cases r1.int;cases r2.int
  exact DQ pins s σ H _ _ _ _ Q I rv ru ⟨_,_,rfl,rfl,post.here R (.int _)⟩
 ·obtain ⟨c,e3⟩:=c6 e3
  cases e3
  obtain ⟨ev,ov⟩:=r1.str
  obtain ⟨eu,ou⟩:=r2.str
  subst ev;subst eu
  have:=fh
  exact rS pins s σ H _ _ _ _ Q I rv ru ⟨_,_,rfl,rfl,by lia,post.here R (.str _ (pG ov ou))⟩
 ·obtain ⟨c,e3⟩:=c6 e3
  cases e3
  obtain ⟨a,vs,rfl,ha,ra⟩:=r1.tup
  obtain ⟨b,us,rfl,hb,rb⟩:=r2.tup
  cases rv;cases ru
  have l1:=ra.length
  have l2:=rb.length
  have:=fh
  refine vS I ha hb (by lia) (fun z=>?_) (fun z=>?_) fun p hp=>iQ R hp (ra.append rb) post
  ·subst z;cases ra
   cases r2 with | d r=>exact post.here R r
  ·subst z;cases rb
   rw[Oi] at post
   cases r1 with | d r=>exact post.here R r
 ·obtain ⟨c,e3⟩:=c6 e3
  cases e3
  obtain ⟨a,vs,rfl,ha,ra⟩:=r1.lst
  obtain ⟨b,us,rfl,hb,rb⟩:=r2.lst
  cases rv;cases ru
  have l1:=ra.length
  have l2:=rb.length
  have:=fh
  exact yo I ha hb (by lia) fun p hp=>iR R hp (ra.append rb) post
noncomputable def LJ:BT.Bin->Bool
 | .add=>false
 | .mul=>false
 | _=>true
theorem lu {o:BT.Bin}{d d' z:BT.D} (ho:LJ o=true) (e:BT.je o d d'=some z):∃ i j,d=.int i/\d'=.int j:=by
 cases o<;>first | exact BT.dN ho | (cases d<;>first | exact cR e | (cases d'<;>first | exact cR e | exact ⟨_,_,rfl,rfl⟩))
theorem EG:OpR X (Oj .Sub) (rOp X.prog X.w X.K (BT.nF .sub)):=by
 intro pins s σ H v u v' u' Q I rv ru h
 obtain ⟨m,h,x,y,z,h',R,rx,ry,e,post⟩:=h
 obtain ⟨d,d',q,e1,e2,e3,rfl,rfl⟩:=iP e
 obtain ⟨i,j,rfl,rfl⟩:=lu rfl e3
 rw[BT.lW] at e3
 cases e3
 cases (dG R rx e1).int;cases (dG R ry e2).int
 exact DR pins s σ H _ _ _ _ Q I rv ru ⟨_,_,rfl,rfl,post.here R (.int _)⟩
theorem EI:OpR X (Oj .Mod) (rOp X.prog X.w X.K (BT.nF .mod)):=by
 intro pins s σ H v u v' u' Q I rv ru h
 obtain ⟨m,h,x,y,z,h',R,rx,ry,e,post⟩:=h
 obtain ⟨d,d',q,e1,e2,e3,rfl,rfl⟩:=iP e
 obtain ⟨i,j,rfl,rfl⟩:=lu rfl e3
 rw[BT.lZ] at e3
 obtain ⟨c,e3⟩:=c6 e3
 cases e3
 cases (dG R rx e1).int;cases (dG R ry e2).int
 exact DT pins s σ H _ _ _ _ Q I rv ru ⟨_,_,rfl,rfl,c,post.here R (.int _)⟩
theorem A4:OpR X (Oj .FloorDiv) (rOp X.prog X.w X.K (BT.nF .fdiv)):=by
 intro pins s σ H v u v' u' Q I rv ru h
 obtain ⟨m,h,x,y,z,h',R,rx,ry,e,post⟩:=h
 obtain ⟨d,d',q,e1,e2,e3,rfl,rfl⟩:=iP e
 obtain ⟨i,j,rfl,rfl⟩:=lu rfl e3
 rw[BT.j6] at e3
 obtain ⟨c,e3⟩:=c6 e3
 simp only[M6,decide_eq_true_eq] at c
 cases e3
 cases (dG R rx e1).int;cases (dG R ry e2).int
 exact Aw pins s σ H _ _ _ _ Q I rv ru ⟨_,_,rfl,rfl,⟨c.1,c.2⟩,post.here R (.int _)⟩
theorem pH (h:BT.big i=true):-(2 ^ 64) < i/\i < 2 ^ 64:=by
 unfold BT.big at h
 have:=of_decide_eq_true h
 lia
theorem EJ:OpR X (Oj .Pow) (rOp X.prog X.w X.K (BT.nF .pow)):=by
 intro pins s σ H v u v' u' Q I rv ru h
 obtain ⟨m,h,x,y,z,h',R,rx,ry,e,post⟩:=h
 obtain ⟨d,d',q,e1,e2,e3,rfl,rfl⟩:=iP e
 obtain ⟨i,j,rfl,rfl⟩:=lu rfl e3
 rw[BT.mh] at e3
 obtain ⟨c,e3⟩:=c6 e3
 simp only[M6,decide_eq_true_eq] at c
 cases e3
 cases (dG R rx e1).int;cases (dG R ry e2).int
 refine DU pins s σ H _ _ _ _ Q I rv ru ⟨_,_,rfl,rfl,⟨c.1.1,by lia,?_⟩,post.here R (.int _)⟩
 exact of_decide_eq_true c.2
theorem vU (I:Inv X pins σ H s) (ha:SqT X.K H a xs) (h1:2<=k) (h2:k<=1000) (hne:xs≠[]) (hz:xs.length*k.toNat<=sizeLine)
 (q:∀ p,H p=none->Q (.ref p) (upd H p (.tup (Nn k.toNat xs).flatten))):wpAny (Nv X.prog X.w) X.A (Oj .Mult (.ref a) (.int k t)) (EP X pins σ Q) X.xe s:=by
 obtain ⟨its,r,p,_⟩:=I.tuple ha
 obtain ⟨⟨cls,dd,data,sl⟩,e,hc,n,hd⟩:=id p
 simp only at hc hd
 subst hc hd
 have hl:=r.length
 have hlen:its.toArray.size*k.toNat<=sizeLine:=by rw[M3,← hl];exact hz
 have f0:RQ (fun x1 x2=>x1++x2) #[] (Nn k.toNat its.toArray)=(Nn k.toNat its).flatten.toArray:=by
  have:=foldl_rep its k.toNat []
  rw[O2] at this
  exact this
 have hi:¬ its.toArray.isEmpty=true:=by
  intro z
  have z2:its=[]:=by simpa using z
  exact hne (r.jz.mp z2)
 refine Sx (T:="tuple") (U:="int") (by decide) ⟨_,e,rfl⟩ (fun s'=>typeIs_int s' k t) j7 F.fills_int_mul F.slot_int_rmul pC F.slot_int_index.lookup
  (Os F.slot_int_rmul (typeIs_int s k t) F.entry_int_rmul (F.args_int_rmul_2 _ _) (mC k t a its.toArray n dd sl)
   ⟨e,rfl,⟨_,e,rfl⟩,Os F.slot_tuple_mul ⟨_,e,rfl⟩ F.entry_tuple_mul (F.args_tuple_mul_2 _ _) (sL a its.toArray n dd sl k t (by lia) h2 hi (by lia) (by lia) hlen) ⟨e,?_⟩⟩)
 rw[f0]
 have hf:H s.heap.objs.size=none:=I.hok.fresh (Nb _)
 refine ⟨.ref s.heap.objs.size,_,I.laid (t':=s.toks) (o:=.tup (Nn k.toNat xs).flatten) (fun b ob q=>MY _ q) (Nb _) ?_,rfl,q _ hf⟩
 exact ⟨by rw[len_rep,SA];exact hz,_,r.rep k.toNat,IsTup.new _ _⟩
theorem yp (I:Inv X pins σ H s) (hH:LL X.K H l xs) (h1:-(2 ^ 63)<=k) (h2:k<=1000) (hz:xs.length*k.toNat<=sizeLine)
 (q:∀ p,H p=none->Q (.ref p) (upd H p (.lst (Nn k.toNat xs).flatten))):wpAny (Nv X.prog X.w) X.A (Oj .Mult (.ref l) (.int k t)) (EP X pins σ Q) X.xe s:=by
 have h2':k < 2 ^ 63:=by lia
 obtain ⟨z,its,n,r,hl,e⟩:=rdL I hH
 have hlen:its.toArray.size*k.toNat<=sizeLine:=by rw[M3,← hl];exact hz
 have hcap:¬ its.toArray.size*k.toNat > (2 ^ 63 - 1) / 8:=by
  have:(sizeLine:Nat)<=(2 ^ 63 - 1) / 8:=by decide
  lia
 have hfit:¬ (!Builtin.List.listFitsIndex k)=true:=by
  rw[fitsIndex_both h1 h2']
  exact NN
 have hlong:¬ N7 (its.toArray.size*k.toNat)=true:=by
  rw[lQ hlen]
  exact NN
 have hnew:RQ (fun x1 x2=>x1++x2) #[] (Nn (if its.toArray.isEmpty=true then 0 else k.toNat) its.toArray)=(Nn k.toNat its).flatten.toArray:=by
  have f0:∀ m:Nat,RQ (fun x1 x2=>x1++x2) #[] (Nn m its.toArray)=(Nn m its).flatten.toArray:=fun m=>by
   have:=foldl_rep its m []
   rw[O2] at this
   exact this
  rw[f0]
  cases its with
  | nil=>simp
  | cons a r'=>rw[if_neg (by simp)]
 refine Sx (T:="list") (U:="int") (by decide) ⟨_,e,rfl⟩ (fun s'=>typeIs_int s' k t) noFill_list_mul F.fills_int_mul F.slot_int_rmul repeat_list F.slot_int_index.lookup
  (Os F.slot_int_rmul (typeIs_int s k t) F.entry_int_rmul (F.args_int_rmul_2 _ _) (int___rmul___int_list k t l its.toArray n)
   ⟨e,rfl,⟨_,e,rfl⟩,Os F.slot_list_mul ⟨_,e,rfl⟩ F.entry_list_mul (F.args_list_mul_2 _ _) (AutoListH.list___mul___list_int_3 l its.toArray n k t hfit hcap hlong) ⟨e,?_⟩⟩)
 rw[hnew]
 exact ⟨.ref _,_,I.Hj (t':=s.toks) (r.rep k.toNat) (by rw[len_rep,SA];exact hz),rfl,q _ I.fresh⟩
theorem EK:OpR X (Oj .Mult) (rOp X.prog X.w X.K (BT.nF .mul)):=by
 intro pins s σ H v u v' u' Q I rv ru h
 obtain ⟨m,h,x,y,z,h',R,rx,ry,e,post⟩:=h
 obtain ⟨d,d',q,e1,e2,e3,rfl,rfl⟩:=iP e
 have r1:=dG R rx e1
 have r2:=dG R ry e2
 cases d<;>cases d'<;>first | exact cR e3 | simp only[BT.qK,BT.jf,BT.lU,BT.lV,BT.lW,BT.qL,BT.lX,BT.lY,BT.lZ,BT.j6,BT.mh] at e3
 ·obtain ⟨c,e3⟩:=c6 e3
  cases e3
  cases r1.int;cases r2.int
  refine DS pins s σ H _ _ _ _ Q I rv ru ⟨_,_,rfl,rfl,?_,post.here R (.int _)⟩
  rcases ON _ _ ▸ c with c | c
  ·exact .inl (pH c)
  ·exact .inr (pH c)
 ·obtain ⟨c,e3⟩:=c6 e3
  simp only[M6,decide_eq_true_eq] at c
  cases e3
  obtain ⟨a,vs,rfl,ha,ra⟩:=r1.tup
  cases r2.int
  obtain ⟨t,rfl⟩:=ru
  cases rv
  have l1:=ra.length
  have:=fh
  simp only[Pa,List.isEmpty_eq_false_iff] at c
  refine vU I ha (by lia) (by lia) (fun z=>?_) (by rw[l1];lia) fun p hp=>iQ R hp (ra.rep _) post
  subst z
  cases ra
  exact c.1.2 rfl
 ·obtain ⟨c,e3⟩:=c6 e3
  simp only[M6,decide_eq_true_eq] at c
  cases e3
  obtain ⟨a,vs,rfl,ha,ra⟩:=r1.lst
  cases r2.int
  obtain ⟨t,rfl⟩:=ru
  cases rv
  have l1:=ra.length
  have:=fh
  refine yp I ha (by lia) (by lia) (by rw[l1];lia) fun p hp=>iR R hp (ra.rep _) post
end
mutual
noncomputable def pd:BT.D->PyData
 | .non=>.none
 | .bl b=>.bool b
 | .int i=>.int i
 | .str x=>.str x
 | .tup xs=>.tuple (pds xs)
 | .lst xs=>.list (pds xs)
noncomputable def pds:List BT.D->List PyData
 | []=>[]
 | x :: r=>pd x :: pds r
end
mutual
theorem mD:∀ x y:BT.D,PyData.eqv (pd x) (pd y)=BT.eqv x y
 | .non,.non=>rfl
 | .non,.bl _=>rfl
 | .non,.int _=>rfl
 | .non,.str _=>rfl
 | .non,.tup _=>by simp[pd,PyData.eqv,BT.eqv]
 | .non,.lst _=>by simp[pd,PyData.eqv,BT.eqv]
 | .bl _,.non=>rfl
 | .bl _,.bl _=>rfl
 | .bl _,.int _=>rfl
 | .bl _,.str _=>rfl
 | .bl _,.tup _=>by simp[pd,PyData.eqv,BT.eqv]
 | .bl _,.lst _=>by simp[pd,PyData.eqv,BT.eqv]
 | .int _,.non=>rfl
 | .int _,.bl _=>rfl
 | .int _,.int _=>rfl
 | .int _,.str _=>rfl
 | .int _,.tup _=>by simp[pd,PyData.eqv,BT.eqv]
 | .int _,.lst _=>by simp[pd,PyData.eqv,BT.eqv]
 | .str _,.non=>rfl
 | .str _,.bl _=>rfl
 | .str _,.int _=>rfl
 | .str _,.str _=>rfl
 | .str _,.tup _=>by simp[pd,PyData.eqv,BT.eqv]
 | .str _,.lst _=>by simp[pd,PyData.eqv,BT.eqv]
 | .tup _,.non=>by simp[pd,PyData.eqv,BT.eqv]
 | .tup _,.bl _=>by simp[pd,PyData.eqv,BT.eqv]
 | .tup _,.int _=>by simp[pd,PyData.eqv,BT.eqv]
 | .tup _,.str _=>by simp[pd,PyData.eqv,BT.eqv]
 | .tup xs,.tup ys=>by simp only[pd,PyData.eqv,BT.eqv];exact pI xs ys
 | .tup _,.lst _=>by simp[pd,PyData.eqv,BT.eqv]
 | .lst _,.non=>by simp[pd,PyData.eqv,BT.eqv]
 | .lst _,.bl _=>by simp[pd,PyData.eqv,BT.eqv]
 | .lst _,.int _=>by simp[pd,PyData.eqv,BT.eqv]
 | .lst _,.str _=>by simp[pd,PyData.eqv,BT.eqv]
 | .lst _,.tup _=>by simp[pd,PyData.eqv,BT.eqv]
 | .lst xs,.lst ys=>by simp only[pd,PyData.eqv,BT.eqv];exact pI xs ys
theorem pI:∀ xs ys:List BT.D,PyData.eqvAll (pds xs) (pds ys)=BT.nA xs ys
 | [],[]=>by simp[pds,PyData.eqvAll,BT.nA]
 | [],_ :: _=>by simp[pds,PyData.eqvAll,BT.nA]
 | _ :: _,[]=>by simp[pds,PyData.eqvAll,BT.nA]
 | x :: xs,y :: ys=>by simp only[pds,PyData.eqvAll,BT.nA];rw[mD x y,pI xs ys]
end
theorem iF:∀ {xs:List BT.D},(∀ x∈xs,(pd x).depth<=n)->PyData.depthAll (pds xs)<=n
 | [],_=>by simp[pds,PyData.depthAll]
 | x :: xs,h=>by
  simp only[pds,PyData.depthAll]
  exact Nat.max_le.mpr ⟨h x M5,iF fun y hy=>h y (M1 _ hy)⟩
theorem iS:∀ (n:Nat) (d:BT.D),BT.dok n d=true->(pd d).depth<=n
 | n,.non,_=>by simp[pd,PyData.depth]
 | n,.bl _,_=>by simp[pd,PyData.depth]
 | n,.int _,_=>by simp[pd,PyData.depth]
 | n,.str _,_=>by simp[pd,PyData.depth]
 | 0,.tup _,h=>by simp[BT.dok] at h
 | 0,.lst _,h=>by simp[BT.dok] at h
 | n+1,.tup xs,h=>by
  simp only[pd,PyData.depth]
  rw[BT.o5,NQ] at h
  exact Nat.succ_le_succ (iF fun x hx=>iS n x (h x hx))
 | n+1,.lst xs,h=>by
  simp only[pd,PyData.depth]
  rw[BT.AQ,NQ] at h
  exact Nat.succ_le_succ (iF fun x hx=>iS n x (h x hx))
section
variable {K:MV}
mutual
theorem fP:∀ {v:V}{d:BT.D},RD K m H v d->(pd d).canLay0=true
 | _,_,.non=>rfl
 | _,_,.bl _=>rfl
 | _,_,.int _=>rfl
 | _,_,.str _ h=>by simpa [pd,PyData.canLay0] using h
 | _,_,.tup _ r=>by simp only[pd,PyData.canLay0];exact gI r
 | _,_,.lst _ r=>by simp only[pd,PyData.canLay0];exact gI r
theorem gI:∀ {vs:List V}{ds:List BT.D},RDs K m H vs ds->PyData.canLayAll0 (pds ds)=true
 | _,_,.nil=>by simp[pds,PyData.canLayAll0]
 | _,_,.cons r t=>by simp only[pds,PyData.canLayAll0];rw[fP r,gI t];rfl
end
mutual
theorem iG (I:Inv X pins σ H s):∀ {v:V}{d:BT.D}{u:MZ},RD X.K m H v d->RelV v u->∃ as,Reads s.heap u (pd d) as
 | _,_,_,.non,r=>by cases r;exact ⟨_,.none⟩
 | _,_,_,.bl b,r=>by cases r;exact ⟨_,.bool b⟩
 | _,_,_,.int i,r=>by obtain ⟨t,rfl⟩:=r;exact ⟨_,.int i t⟩
 | _,_,_,.str x _,r=>by obtain ⟨t,rfl⟩:=r;exact ⟨_,.str x t⟩
 | _,_,_,.tup h r,q=>by
  cases q
  obtain ⟨its,r1,⟨o,e1,e2,n,e3⟩,_⟩:=I.tuple (h.elim (fun q=>.inl q.1) (fun ⟨o,its,n,q,_⟩=>.inr ⟨o,its,n,q⟩))
  obtain ⟨as,ra⟩:=iT I r r1
  exact ⟨_,.tuple e1 e2 e3 (by simpa using ra)⟩
 | _,_,_,.lst h r,q=>by
  cases q
  obtain ⟨z,its,n,r1,_,e⟩:=rdL I (h.elim (fun q=>.inl q.1) .inr)
  obtain ⟨as,ra⟩:=iT I r r1
  exact ⟨_,.list e rfl rfl (by simpa using ra)⟩
theorem iT (I:Inv X pins σ H s):∀ {vs:List V}{ds:List BT.D}{us:List MZ},RDs X.K m H vs ds->cX vs us->∃ as,ReadsAll s.heap us (pds ds) as
 | _,_,_,.nil,q=>by cases q;exact ⟨_,.nil⟩
 | _,_,_,.cons r t,q=>by
  cases q with
  | cons q1 q2 =>
   obtain ⟨as,ra⟩:=iG I r q1
   obtain ⟨bs,rb⟩:=iT I t q2
   exact ⟨_,.cons ra rb⟩
end
theorem iH (I:Inv X pins σ H s) (r:RR X.K m H v d) (q:RelV v u):∃ as,Reads s.heap u (pd d) as:=by
 cases r with
 | d r=>exact iG I r q
 | l h r =>
  cases q
  obtain ⟨z,its,n,r1,_,e⟩:=rdL I (.inl (.inl h))
  obtain ⟨as,ra⟩:=iT I r r1
  exact ⟨_,.list e rfl rfl (by simpa using ra)⟩
theorem gr (r:RR K m H v d):(pd d).canLay0=true:=by
 cases r with
 | d r=>exact fP r
 | l h r=>simp only[pd,PyData.canLay0];exact gI r
theorem pJ (h:BT.dW x y=true):min (pd x).depth (pd y).depth<=100:=by
 unfold BT.dW at h
 rcases ON _ _ ▸ h with h | h
 ·have:=iS 100 x h;lia
 ·have:=iS 100 y h;lia
theorem gJ (e:BT.jg o x y h=some (z,h')) :
 (∃ kvs b,y=.k kvs/\BT.inK o x kvs=some b/\z=.p (.bl b)/\h'=h)\/∃ d d' b,BT.rd x h=some d/\BT.rd y h=some d'/\BT.fG o d d'=some b/\z=.p (.bl b)/\h'=h:=by
 unfold BT.jg at e
 split at e
 ·rename_i kvs
  obtain ⟨b,e1,e2⟩:=cY e
  cases e2
  exact .inl ⟨kvs,b,rfl,e1,rfl,rfl⟩
 ·refine .inr ?_
  cases e1:BT.rd x h with
  | none=>rw[e1] at e;exact cR e
  | some d =>
   cases e2:BT.rd y h with
   | none=>rw[e1,e2] at e;exact cR e
   | some d' =>
    rw[e1,e2] at e
    obtain ⟨q,eq,er⟩:=cY e
    cases er
    exact ⟨d,d',q,rfl,rfl,eq,rfl,rfl⟩
theorem IJ (hu:X.A.units+150 < cLine):OpR X (NV .Eq) (rOp X.prog X.w X.K (BT.jg .eq)):=by
 intro pins s σ H v u v' u' Q I rv ru h
 obtain ⟨m,h,x,y,z,h',R,rx,ry,e,post⟩:=h
 rcases gJ e with ⟨kvs,b,rfl,e1,_,_⟩ | ⟨d,d',b,e1,e2,e3,rfl,rfl⟩
 ·exact absurd e1 (BT.mq rfl)
 ·have r1:=dG R rx e1
  have r2:=dG R ry e2
  rw[BT.kY] at e3
  obtain ⟨c,e3⟩:=c6 e3
  cases e3
  obtain ⟨as,ra⟩:=iH I r1 rv
  obtain ⟨bs,rb⟩:=iH I r2 ru
  have:=pJ c
  refine SeqAt.compareEq_reads ra rb (gr r1) (gr r2) (by lia) ?_
  rw[mD]
  exact ⟨.bl _,H,I,rfl,post.here R (.bl _)⟩
theorem IK (hu:X.A.units+150 < cLine):OpR X (NV .NotEq) (rOp X.prog X.w X.K (BT.jg .ne)):=by
 intro pins s σ H v u v' u' Q I rv ru h
 obtain ⟨m,h,x,y,z,h',R,rx,ry,e,post⟩:=h
 rcases gJ e with ⟨kvs,b,rfl,e1,_,_⟩ | ⟨d,d',b,e1,e2,e3,rfl,rfl⟩
 ·exact absurd e1 (BT.mq rfl)
 ·have r1:=dG R rx e1
  have r2:=dG R ry e2
  rw[BT.AS] at e3
  obtain ⟨c,e3⟩:=c6 e3
  cases e3
  obtain ⟨as,ra⟩:=iH I r1 rv
  obtain ⟨bs,rb⟩:=iH I r2 ru
  have:=pJ c
  refine SeqAt.compareNe_reads ra rb (gr r1) (gr r2) (by lia) ?_
  rw[mD]
  exact ⟨.bl _,H,I,rfl,post.here R (.bl _)⟩
noncomputable def IM:BT.Cm->Bool
 | .lt=>true
 | .le=>true
 | .gt=>true
 | .ge=>true
 | _=>false
theorem A5 {o:BT.Cm}{d d':BT.D}{b:Bool} (ho:IM o=true) (e:BT.fG o d d'=some b):∃ i j,d=.int i/\d'=.int j:=by
 cases o<;>first | exact BT.dN ho | (cases d<;>first | exact cR e | (cases d'<;>first | exact cR e | exact ⟨_,_,rfl,rfl⟩))
theorem pK {o:BT.Cm}{c:CmpOp}{f:Int->Int->Bool} (op:OpR X (NV c) (rI0 fun i j=>.bl (f i j))) (ho:IM o=true) (hm:BT.memC o=false) (hf:∀ i j,BT.fG o (.int i) (.int j)=some (f i j)):OpR X (NV c) (rOp X.prog X.w X.K (BT.jg o)):=by
 intro pins s σ H v u v' u' Q I rv ru h
 obtain ⟨m,h,x,y,z,h',R,rx,ry,e,post⟩:=h
 rcases gJ e with ⟨kvs,b,rfl,e1,_,_⟩ | ⟨d,d',b,e1,e2,e3,rfl,rfl⟩
 ·exact absurd e1 (BT.mq hm)
 ·obtain ⟨i,j,rfl,rfl⟩:=A5 ho e3
  rw[hf] at e3
  cases e3
  cases (dG R rx e1).int;cases (dG R ry e2).int
  exact op pins s σ H _ _ _ _ Q I rv ru ⟨_,_,rfl,rfl,post.here R (.bl _)⟩
theorem uv (r:RR K m H v d):decide (v=.non)=BT.iw d:=by
 cases r with
 | d r=>cases r<;>rfl
 | l h r=>rfl
theorem A6 {v:V}{d:BT.D}{u:MZ}{b:Bool} (r:RR K m H v d) (rv:RelV v u):isSame u (.bool b)=pure (BT.o6 b d):=by
 cases r with
 | d r=>cases r<;>first | (cases rv;cases b<;>first | rfl | (rename_i c;cases c<;>rfl)) | (obtain ⟨t,rfl⟩:=rv;cases b<;>rfl)
 | l h r=>cases rv;rfl
theorem EL:OpR X (NV .Is) (rOp X.prog X.w X.K (BT.jg .isN)):=by
 intro pins s σ H v u v' u' Q I rv ru h
 obtain ⟨m,h,x,y,z,h',R,rx,ry,e,post⟩:=h
 rcases gJ e with ⟨kvs,b,rfl,e1,_,_⟩ | ⟨d,d',b,e1,e2,e3,rfl,rfl⟩
 ·exact absurd e1 (BT.mq rfl)
 ·have r1:=dG R rx e1
  have r2:=dG R ry e2
  cases d'<;>first | exact cR e3 | simp only[BT.kZ,BT.k8,BT.k9,BT.lg,BT.jC,BT.iN,BT.dZ,BT.gD,BT.fX,BT.fY] at e3
  cases e3
  cases r2.non
  refine DV pins s σ H _ _ _ _ Q I rv ru ⟨rfl,?_⟩
  rw[uv r1]
  exact post.here R (.bl _)
theorem A7:OpR X (NV .IsNot) (rOp X.prog X.w X.K (BT.jg .notN)):=by
 intro pins s σ H v u v' u' Q I rv ru h
 obtain ⟨m,h,x,y,z,h',R,rx,ry,e,post⟩:=h
 rcases gJ e with ⟨kvs,b,rfl,e1,_,_⟩ | ⟨d,d',b,e1,e2,e3,rfl,rfl⟩
 ·exact absurd e1 (BT.mq rfl)
 ·have r1:=dG R rx e1
  have r2:=dG R ry e2
  cases d'<;>first | exact cR e3 | simp only[BT.kZ,BT.k8,BT.k9,BT.lg,BT.jC,BT.iN,BT.vN,BT.dZ,BT.gD,BT.fX,BT.fY] at e3
  ·cases e3
   cases r2.non
   refine Ax pins s σ H _ _ _ _ Q I rv ru ⟨rfl,?_⟩
   rw[uv r1]
   exact post.here R (.bl _)
  ·cases e3
   cases r2.bl
   cases ru
   exact MW (wpAny_of_eq (A6 r1 rv) (wpAny_pure ⟨.bl _,H,I,rfl,post.here R (.bl _)⟩))
open Classical in
noncomputable def eg (h:Heap) (dx:PyData) (y:MZ):Bool:=if q:∃ db as,Reads h y db as/\db.canLay0=true then PyData.eqv (Classical.choose q) dx else false
theorem sM (r:Reads h y db as) (c:db.canLay0=true):eg h dx y=PyData.eqv db dx:=by
 have q:∃ db as,Reads h y db as/\db.canLay0=true:=⟨db,as,r,c⟩
 unfold eg
 rw[dif_pos q]
 obtain ⟨as',r',c'⟩:=Classical.choose_spec q
 rw[SeqAt.Reads.unique _ _ _ _ _ c r r']
theorem jF (I:Inv X pins σ H s):∀ {vs:List V}{ds:List BT.D}{us:List MZ},RDs X.K m H vs ds->cX vs us->us.any (eg s.heap (pd d))=ds.any fun y=>BT.eqv y d
 | _,_,_,.nil,q=>by cases q;rfl
 | _,_,_,.cons r t,q=>by
  cases q with
  | cons q1 q2 =>
   obtain ⟨as,ra⟩:=iG I r q1
   rw[List.any_cons,List.any_cons,jF I t q2,sM ra (fP r),mD]
theorem f7 (hu:X.A.units+150 < cLine) (I:Inv X pins σ H s) (rx:RR X.K m H v d) (rv:RelV v u):∀ {vs:List V}{ds:List BT.D}{us:List MZ},RDs X.K m H vs ds->cX vs us->(ds.all fun y=>BT.dW y d)=true →
 ∀ y∈us,SeqAt.EqAt X.A.in1 s y u (eg s.heap (pd d) y)
 | _,_,_,.nil,q,_=>by cases q;intro y hy;simp at hy
 | _,_,_,.cons r t,q,c=>by
  cases q with
  | cons q1 q2 =>
   rw[RX,M6] at c
   intro y hy
   rcases List.mem_cons.mp hy with rfl | hy
   ·obtain ⟨as,ra⟩:=iG I r q1
    obtain ⟨bs,rb⟩:=iH I rx rv
    rw[sM ra (fP r)]
    have:=pJ c.1
    refine SeqAt.eqAt_reads _ _ _ _ _ _ _ _ ra rb (fP r) (gr rx) ?_
    show X.A.units+1+_ < _
    lia
   ·exact f7 hu I rx rv t q2 c.2 y hy
theorem EM (hu:X.A.units+150 < cLine) (hk:∀ {kvs:BT.Kd}{x:BT.W}{b:Bool}{m:List M9}{H:Hp}{v u:V}{v' u':MZ}{pins σ s Q},Inv X pins σ H s->RelV v v'->RelV u u'->RW X.prog X.w X.K m H v x->RW X.prog X.w X.K m H u (.k kvs)->BT.inK .mem x kvs=some b->Q (V.bl b) H →
 wpAny (Nv X.prog X.w) X.A (NV .In v' u') (EP X pins σ Q) X.xe s):OpR X (NV .In) (rOp X.prog X.w X.K (BT.jg .mem)):=by
 intro pins s σ H v u v' u' Q I rv ru h
 obtain ⟨m,h,x,y,z,h',R,rx,ry,e,post⟩:=h
 rcases gJ e with ⟨kvs,b,rfl,e1,rfl,rfl⟩ | ⟨d,d',b,e1,e2,e3,rfl,rfl⟩
 ·exact hk I rv ru rx ry e1 (post.here R (.bl _))
 ·have r1:=dG R rx e1
  have r2:=dG R ry e2
  cases d'<;>first | exact cR e3 | simp only[BT.kZ,BT.k8,BT.k9,BT.lg,BT.jC,BT.iN,BT.dZ,BT.gD,BT.fX,BT.fY] at e3
  ·obtain ⟨c,e3⟩:=c6 e3
   cases e3
   obtain ⟨a,vs,rfl,ha,ra⟩:=r2.tup
   cases ru
   obtain ⟨its,q1,q2,_⟩:=I.tuple ha
   refine SeqAt.in_tupleAt (eg s.heap (pd d)) q2 (fun y hy=>f7 hu I r1 rv ra q1 c y (by simpa using hy)) ⟨.bl _,H,I,rfl,?_⟩
   rw[show its.toArray.any (eg s.heap (pd d))=its.any (eg s.heap (pd d)) by simp,jF I ra q1]
   exact post.here R (.bl _)
  ·obtain ⟨c,e3⟩:=c6 e3
   cases e3
   obtain ⟨a,vs,rfl,ha,ra⟩:=r2.lst
   cases ru
   obtain ⟨z,its,n,q1,_,q2⟩:=rdL I ha
   refine SeqAt.in_listAt (eg s.heap (pd d)) ⟨_,q2,rfl,_,rfl⟩ (fun y hy=>f7 hu I r1 rv ra q1 c y (by simpa using hy)) ⟨.bl _,H,I,rfl,?_⟩
   rw[show its.toArray.any (eg s.heap (pd d))=its.any (eg s.heap (pd d)) by simp,jF I ra q1]
   exact post.here R (.bl _)
theorem A8 (hu:X.A.units+150 < cLine) (hk:∀ {kvs:BT.Kd}{x:BT.W}{b:Bool}{m:List M9}{H:Hp}{v u:V}{v' u':MZ}{pins σ s Q},Inv X pins σ H s->RelV v v'->RelV u u'->RW X.prog X.w X.K m H v x->RW X.prog X.w X.K m H u (.k kvs)->BT.inK .nmem x kvs=some b->Q (V.bl b) H →
 wpAny (Nv X.prog X.w) X.A (NV .NotIn v' u') (EP X pins σ Q) X.xe s):OpR X (NV .NotIn) (rOp X.prog X.w X.K (BT.jg .nmem)):=by
 intro pins s σ H v u v' u' Q I rv ru h
 obtain ⟨m,h,x,y,z,h',R,rx,ry,e,post⟩:=h
 rcases gJ e with ⟨kvs,b,rfl,e1,rfl,rfl⟩ | ⟨d,d',b,e1,e2,e3,rfl,rfl⟩
 ·exact hk I rv ru rx ry e1 (post.here R (.bl _))
 ·have r1:=dG R rx e1
  have r2:=dG R ry e2
  cases d'<;>first | exact cR e3 | simp only[BT.kZ,BT.k8,BT.k9,BT.lg,BT.jC,BT.iN,BT.dZ,BT.gD,BT.fX,BT.fY] at e3
  ·obtain ⟨c,e3⟩:=c6 e3
   cases e3
   obtain ⟨a,vs,rfl,ha,ra⟩:=r2.tup
   cases ru
   obtain ⟨its,q1,q2,_⟩:=I.tuple ha
   refine SeqAt.notIn_tupleAt (eg s.heap (pd d)) q2 (fun y hy=>f7 hu I r1 rv ra q1 c y (by simpa using hy)) ⟨.bl _,H,I,rfl,?_⟩
   rw[show its.toArray.any (eg s.heap (pd d))=its.any (eg s.heap (pd d)) by simp,jF I ra q1]
   exact post.here R (.bl _)
  ·obtain ⟨c,e3⟩:=c6 e3
   cases e3
   obtain ⟨a,vs,rfl,ha,ra⟩:=r2.lst
   cases ru
   obtain ⟨z,its,n,q1,_,q2⟩:=rdL I ha
   refine SeqAt.notIn_listAt (eg s.heap (pd d)) ⟨_,q2,rfl,_,rfl⟩ (fun y hy=>f7 hu I r1 rv ra q1 c y (by simpa using hy)) ⟨.bl _,H,I,rfl,?_⟩
   rw[show its.toArray.any (eg s.heap (pd d))=its.any (eg s.heap (pd d)) by simp,jF I ra q1]
   exact post.here R (.bl _)
end
section
variable {P:Nk}{w:Nz}{K:MV}{m m':List M9}{H H':Hp}
theorem vV (e:p.1=k):BT.eW (p :: r) k=some p.2:=by simp[BT.eW,O6,e]
theorem vW (e:¬ p.1=k):BT.eW (p :: r) k=BT.eW r k:=by simp[BT.eW,O6,e]
theorem RKs.get (r:RKs K m H vs kvs) (k:Key):(BT.eW kvs k=none/\qE vs k=none)\/∃ v d,BT.eW kvs k=some d/\qE vs k=some v/\RD K m H v d:=by
 induction r with
 | nil=>exact .inl ⟨rfl,rfl⟩
 | @cons j v d vs kvs hk r t ih =>
  by_cases c:j=k
  ·exact .inr ⟨v,d,vV c,qF c,r⟩
  ·rw[vW (p:=(j,d)) c,qG (p:=(j,v)) c];exact ih
theorem yq (r:RD K m H v d) (e:BT.nB d=some k):v=kV k:=by
 cases r<;>cases e<;>rfl
inductive yr (X:Cx) (m:List M9) (H:Hp) (s:M0) (a:M9) (kvs:List (BT.Ky×BT.D)) (k:Key):Prop where
 | no (vs:List (Key×MZ)) (d:s.heap.DictOf (c9 X.prog X.w) a vs) (n:(a==OU)=false) (e1:BT.eW kvs k=none) (e2:valueAt vs k=none):yr X m H s a kvs k
 | is (vs:List (Key×MZ)) (d:s.heap.DictOf (c9 X.prog X.w) a vs) (n:(a==OU)=false) (x:BT.D) (v:V) (u:MZ) (e1:BT.eW kvs k=some x) (e2:valueAt vs k=some u) (r:RelV v u) (q:RD X.K m H v x):yr X m H s a kvs k
theorem sN (I:Inv X pins σ H s) (h:Rd H a (.dK ws)) (rk:RKs X.K m H ws kvs) (k:Key):yr X m H s a kvs k:=by
 obtain ⟨z,hd,vs,rel,dd⟩:=Hq I.hok h
 have rv:=rel.val k
 rcases rk.get k with ⟨g1,g2⟩ | ⟨v,d,g1,g2,g3⟩
 ·rw[g2] at rv
  cases e:valueAt vs k with
  | none=>exact .no vs dd hd g1 e
  | some u=>rw[e] at rv;exact rv.elim
 ·rw[g2] at rv
  cases e:valueAt vs k with
  | none=>rw[e] at rv;exact rv.elim
  | some u=>rw[e] at rv;exact .is vs dd hd d v u g1 e rv g3
end
section
theorem RDs.atI {K:MV} (r:RDs K m H vs ds) (e:BT.atP ds i=some d):∃ v,L2.atI vs i=some v/\RD K m H v d:=by
 unfold BT.atP at e
 unfold L2.atI
 obtain ⟨j,h1,h2⟩:=Option.bind_eq_some_iff.mp e
 obtain ⟨v,q1,q2⟩:=r.get h2
 refine ⟨v,?_,q2⟩
 rw[r.length]
 show ((BT.place ds.length i).bind fun j=>vs[j]?)=some v
 rw[h1]
 exact q1
theorem A9 {x y:BT.W}{h:BT.HH}{z:BT.W}{h':BT.HH} (e:BT.AU x y h=some (z,h')) :
 (∃ kvs k d,x=.k (.t kvs)/\y=.p (.str k)/\BT.dD k kvs=some d/\z=.p d/\h'=h)\/(∃ kvs e k d,x=.k (.l kvs)/\y=.p e/\BT.nB e=some k/\BT.eW kvs k=some d/\z=.p d/\h'=h)\/∃ d d' b,BT.rd x h=some d/\BT.rd y h=some d'/\BT.fc d d'=some b/\z=.p b/\h'=h:=by
 unfold BT.AU at e
 split at e
 ·rename_i kvs
  obtain ⟨b,e1,e2⟩:=cY e
  cases e2
  cases kvs with
  | t kvs =>
   cases y with
   | p d =>
    cases d with
    | str x=>exact .inl ⟨kvs,_,b,rfl,rfl,e1,rfl,rfl⟩
    | _=>exact cR e1
   | _=>exact cR e1
  | l kvs =>
   cases y with
   | p d =>
    obtain ⟨k,g1,g2⟩:=Option.bind_eq_some_iff.mp (show (BT.nB d).bind (BT.eW kvs)=some b from e1)
    exact .inr (.inl ⟨kvs,d,k,b,rfl,rfl,g1,g2,rfl,rfl⟩)
   | _=>exact cR e1
 ·refine .inr (.inr ?_)
  cases e1:BT.rd x h with
  | none=>rw[e1] at e;exact cR e
  | some d =>
   cases e2:BT.rd y h with
   | none=>rw[e1,e2] at e;exact cR e
   | some d' =>
    rw[e1,e2] at e
    obtain ⟨q,eq,er⟩:=cY e
    cases er
    exact ⟨d,d',q,rfl,rfl,eq,rfl,rfl⟩
theorem yt {K:MV}:∀ {es:List (Str×V)}{kvs:List (Str×BT.D)}{vs:List (Key×MZ)},RDk K es kvs->KV (es.map fun q=>((Sum.inr q.1:Key),q.2)) vs->BT.dD k kvs=some d →
 ∃ u v,valueAt vs (Sum.inr k)=some u/\RelV v u/\∀ m H,RD K m H v d
 | _,_,_,.nil,_,e=>by simp[BT.dD] at e
 | _,_,_,@RDk.cons _ x v dd es kvs r t,q,e=>by
  cases q with
  | @cons p z l1 l2 q1 q2 =>
   obtain ⟨z1,z2⟩:=z
   obtain ⟨q11,q12⟩:=q1
   simp only at q11 q12
   subst q11
   rw[BT.dD] at e
   by_cases c:k=x
   ·rw[if_pos c] at e
    cases e
    subst c
    exact ⟨z2,v,by simp[valueAt],q12,r⟩
   ·rw[if_neg c] at e
    obtain ⟨u,v',h1,h2,h3⟩:=yt t q2 e
    refine ⟨u,v',?_,h2,h3⟩
    have ne:¬ ((Sum.inr x:Key)=Sum.inr k):=fun z=>c (Sum.inr.inj z).symm
    simp only[valueAt] at h1 ⊢
    rw[Qf (by simpa using ne)]
    exact h1
theorem j8 (h:PyData.strOk x=true) (hc:c∈x.cps.toList):PyData.strOk ⟨#[c]⟩=true:=by
 simp only[PyData.strOk,Array.all_eq_true_iff_forall_mem] at h ⊢
 intro y hy
 simp at hy
 subst hy
 exact h y (by simpa using hc)
theorem EO:IxR X (rOp X.prog X.w X.K BT.AU):=by
 intro value slice pins s σ H v u v' u' Q I rv ru h hs
 obtain ⟨m,h,x,y,z,h',R,rx,ry,e,post⟩:=h
 rcases A9 e with ⟨kvs,k,d,rfl,rfl,e1,rfl,rfl⟩ | ⟨kvs,e',k,d,rfl,rfl,e0,e1,rfl,rfl⟩ | ⟨d,d',b,e1,e2,e3,rfl,rfl⟩
 ·cases rx with
  | @k a es _ kd rk =>
   cases rv
   cases ry with
   | p ry =>
    cases ry with
    | str _ ok =>
     obtain ⟨t,rfl⟩:=ru
     obtain ⟨hm,vs,kv,dd⟩:=kd
     obtain ⟨w',z,h1,h2,h3⟩:=yt rk kv e1
     have D:=dd s.heap I.kIn
     refine RU (ops:=[.ref a,.str k t]) D.typeIs slot_dict_getitem.lookup ?_ hs
     exact wpAny_getItem_of (knd:=c9 X.prog X.w) (eV _ _ k t) D.mapOf h1 ⟨z,H,I.tok _,h2,post.here R (h3 _ _)⟩
 ·cases rx with
  | @kl a ob ws _ hh rk =>
   cases rv
   cases ry with
   | p ry =>
    have ek:=yq ry e0
    subst ek
    cases sN I (.inr ⟨_,hh.1⟩) rk k with
    | no _ _ _ g1 _=>rw[g1] at e1;exact cR e1
    | is vs dd n x v1 u1 g1 g2 g3 g4 =>
     rw[g1] at e1
     cases e1
     refine RU (ops:=[.ref a,u']) dd.typeIs slot_dict_getitem.lookup ?_ hs
     exact wpAny_getItem_of (knd:=c9 X.prog X.w) (xP ru) dd.mapOf g2 ⟨v1,H,I.tok _,g3,post.here R g4⟩
 ·have r1:=dG R rx e1
  have r2:=dG R ry e2
  cases d<;>cases d'<;>first | exact cR e3 | simp only[BT.mj,BT.eB,BT.iz] at e3
  ·split at e3
   ·rename_i c
    obtain ⟨cc,e4,e5⟩:=cY e3
    subst e5
    obtain ⟨rfl,ok⟩:=r1.str
    cases r2.int
    have:=fh
    refine D5 value slice pins s σ H _ _ _ _ Q I rv ru ⟨_,_,cc,rfl,rfl,by lia,e4,post.here R (.str _ (j8 ok ?_))⟩ hs
    obtain ⟨j,h1,h2⟩:=Option.bind_eq_some_iff.mp e4
    exact Np h2
   ·exact cR e3
  ·obtain ⟨a,vs,rfl,ha,ra⟩:=r1.tup
   cases r2.int
   obtain ⟨z,q1,q2⟩:=ra.atI e3
   exact D4 value slice pins s σ H _ _ _ _ Q I rv ru ⟨a,vs,_,z,rfl,rfl,ha,q1,post.here R q2⟩ hs
  ·obtain ⟨a,vs,rfl,ha,ra⟩:=r1.lst
   cases r2.int
   obtain ⟨z,q1,q2⟩:=ra.atI e3
   exact AI value slice pins s σ H _ _ _ _ Q I rv ru ⟨a,vs,_,z,rfl,rfl,ha.sq,q1,post.here R q2⟩ hs
theorem jG (n d:Nat) (o:Option Int):BT.clip n d o=HT.sIx n d o:=by
 cases o with
 | none=>rfl
 | some v =>
  simp only[BT.clip,HT.sIx]
  split
  ·rfl
  ·split
   ·lia
   ·lia
theorem nI {E:MZ->M0->Prop}{lo:Option Int} (ht:IsTup s.heap t items) (hs:s.heap.IsSliceOf sl vl vu .none) (pl:RK vl lo) (pu:RK vu hi)
 (hw:HT.sIx items.size 0 lo=0/\HT.sIx items.size items.size hi=items.size) (h:Q (.ref t) s):wpAny (Nv prog w) A (Qm (.ref t) (.ref sl)) Q E s:=by
 obtain ⟨os,hos,hcs,hds⟩:=id hs
 have hTs:s.TypeIs (.ref sl) "slice":=⟨os,hos,hcs⟩
 unfold Qm
 try with_reducible refine Pc ?_
 first | refine MW (wpAny_pure ?_) | skip
 refine MW (Rm ht.typeIs (by decide) ?_)
 refine MW (N3 (name:=M4 "__getitem__") ht.typeIs NO
  (OH NO ht.typeIs QT ?_ (Q9 _ _)))
 show wpAny _ _ (Pi (.ref t) >>= _) _ _ s
 refine MW (SV ht ?_)
 refine MW (Rx hTs ?_)
 rw[if_pos (by decide)]
 refine MW (HT.gm hs pl pu ?_)
 have hno:(((HT.sIx items.size 0 lo:Nat):Int)==0&&(1:Int)==1&&(HT.sIx items.size items.size hi - HT.sIx items.size 0 lo)==items.size)=true:=by
  rw[hw.1,hw.2];simp
 show wpAny _ _ (if (((HT.sIx items.size 0 lo:Nat):Int)==0&&(1:Int)==1&&(HT.sIx items.size items.size hi - HT.sIx items.size 0 lo)==items.size)=true then _ else _) _ _ s
 rw[if_pos hno]
 unfold Builtin.Tuple.tupleIsExact
 refine MW (MW (Rx ht.typeIs (wpAny_pure ?_)))
 rw[if_pos (by decide)]
 refine MW (SG ?_)
 first
  | exact wpAny_pure ⟨_,rfl,wpAny_pure h⟩
  | exact wpAny_pure ⟨_,rfl,h⟩
  | exact MW (wpAny_pure (wpAny_pure ⟨_,rfl,wpAny_pure h⟩))
inductive rSl (P:Nk) (w:Nz) (K:MV) (v:V) (lo hi:Option Int) (H:Hp) (Q:VK):Prop where
 | mk (m:List M9) (h:BT.HH) (x:BT.W) (d b:BT.D) (R:RH K m H h) (rx:RW P w K m H v x) (e:BT.rd x h=some d) (e2:BT.nC d lo hi=some b) (p:Post P w K m H (.p b) h Q):rSl P w K v lo hi H Q
theorem RDs.cut {K:MV} (r:RDs K m H vs ds) (lo hi:Option Int):RDs K m H (qC vs lo hi) (BT.cut ds lo hi):=by
 unfold qC BT.cut
 rw[jG,jG,r.length]
 exact (r.drop _).take _
theorem vX {lo:Option Int} (h1:HT.sIx ds.length 0 lo=0) (h2:HT.sIx ds.length ds.length hi=ds.length):BT.cut ds lo hi=ds:=by
 unfold BT.cut
 rw[jG,jG,h1,h2]
 simp
theorem osl:SlR X (rSl X.prog X.w X.K):=by
 intro pins s σ H v v' vl vu lo hi sl Q I rv hs pl pu h
 obtain ⟨m,h,x,d,b,R,rx,e1,e2,post⟩:=h
 have r1:=dG R rx e1
 cases d<;>simp only[BT.nC] at e2<;>try contradiction
 ·cases e2
  obtain ⟨a,vs,rfl,ha,ra⟩:=r1.tup
  cases rv
  by_cases c:HT.sIx vs.length 0 lo=0/\HT.sIx vs.length vs.length hi=vs.length
  ·obtain ⟨its,q1,q2,_⟩:=I.tuple ha
   have hl:its.toArray.size=vs.length:=by rw[M3];exact q1.length.symm
   refine ⟨"tuple",_,PyProof.Rows.slot_tuple_getitem.lookup,q2.typeIs,nI q2 hs pl pu (by rw[hl];exact c) ⟨.ref a,H,I,rfl,?_⟩⟩
   cases r1 with
   | d r =>
    refine post.here R ?_
    rw[vX (by rw[← ra.length];exact c.1) (by rw[← ra.length];exact c.2)]
    exact r
  ·exact D3 pins s σ H (.ref a) (.ref a) vl vu lo hi sl Q I rfl hs pl pu ⟨a,vs,rfl,ha,c,fun p hp=>iQ R hp (ra.cut lo hi) post⟩
 ·cases e2
  obtain ⟨a,vs,rfl,ha,ra⟩:=r1.lst
  exact AJ pins s σ H _ _ vl vu lo hi sl Q I rv hs pl pu ⟨a,vs,rfl,ha.sq,fun p hp=>iR R hp (ra.cut lo hi) post⟩
end
theorem qU (m:BT.Me) (d:BT.D) (as:List BT.W) (h:BT.HH):BT.meW m (.p d) as h=(match BT.dm as with | some ds=>(BT.meD m d ds).map fun x=>(.p x,h) | none=>none):=by cases m<;>rfl
section
inductive rMe (P:Nk) (w:Nz) (K:MV) (me:BT.Me) (v:V) (vs:List V) (H:Hp) (Q:VK):Prop where
 | mk (m:List M9) (h:BT.HH) (x:BT.W) (ws:List BT.W) (z:BT.W) (h':BT.HH) (R:RH K m H h) (rx:RW P w K m H v x) (rs:RWs P w K m H vs ws) (e:BT.meW me x ws h=some (z,h')) (p:Post P w K m H z h' Q):rMe P w K me v vs H Q
theorem getD_some {α:Type}{xs:List α}{n:Nat}{a:α} (h:xs[n]?=some a):n < xs.length:=by
 rcases N1 n xs.length with z | z
 ·exact z
 ·rw[Nr z] at h;exact cR h
theorem vY:MtR X "list.append" (rMe X.prog X.w X.K .append):=by
 intro pins s σ H v vs v' us Q I rv rus h
 obtain ⟨m,h,x,ws,z,h',R,rx,rws,e,post⟩:=h
 cases x with
 | p d=>cases ws with
  | nil=>exact cR e
  | cons _ _=>rw[qU] at e;split at e<;>(try exact cR e)
 | k kvs=>(first | exact cR e | simp[BT.meW] at e)
 | c _ _=>(first | exact cR e | simp[BT.meW] at e)
 | x _=>(first | exact cR e | simp[BT.meW] at e)
 | o kvs=>(first | exact cR e | simp[BT.meW] at e)
 | r n =>
  cases rws with
  | nil=>(first | exact cR e | simp[BT.meW] at e)
  | @cons y wy _ _ ry t =>
   cases t with
   | cons _ _=>cases ry<;>(first | exact cR e | simp[BT.meW] at e)
   | nil =>
    cases ry with
    | r _=>(first | exact cR e | simp[BT.meW] at e)
    | k _ _=>(first | exact cR e | simp[BT.meW] at e)
    | kl _ _=>(first | exact cR e | simp[BT.meW] at e)
    | c _ _=>(first | exact cR e | simp[BT.meW] at e)
    | x _=>(first | exact cR e | simp[BT.meW] at e)
    | g _ _=>(first | exact cR e | simp[BT.meW] at e)
    | o _=>(first | exact cR e | simp[BT.meW] at e)
    | p ry =>
     rw[BT.sf] at e
     cases g:BT.lat h n with
     | none=>rw[g] at e;exact cR e
     | some xs =>
      rw[g] at e
      simp only at e
      obtain ⟨c,e⟩:=c6 e
      cases e
      cases rx with
      | @r a _ hn =>
       obtain ⟨us',hH,r⟩:=R.cell n a xs hn g
       have:=fh
       have hl:=r.length
       exact vJ pins s σ H _ _ _ _ Q I rv rus ⟨a,us',y,rfl,rfl,hH,by lia,post _ _ m (gq (Np hn) hH) (R.set hn hH (r.append (.cons ry .nil))) (.p .non)⟩
theorem yu {α:Type}{xs:List α}{d:α} (h:xs.getLast?=some d):xs[xs.length - 1]?=some d:=by rw[← List.getLast?_eq_getElem?];exact h
theorem ER:MtR X "list.pop" (rMe X.prog X.w X.K .pop):=by
 intro pins s σ H v vs v' us Q I rv rus h
 obtain ⟨m,h,x,ws,z,h',R,rx,rws,e,post⟩:=h
 cases x with
 | p d=>cases ws with
  | nil=>exact cR e
  | cons _ _=>rw[qU] at e;split at e<;>(try exact cR e)
 | k kvs=>(first | exact cR e | simp[BT.meW] at e)
 | c _ _=>(first | exact cR e | simp[BT.meW] at e)
 | x _=>(first | exact cR e | simp[BT.meW] at e)
 | o kvs=>(first | exact cR e | simp[BT.meW] at e)
 | r n =>
  cases rws with
  | cons _ _=>(first | exact cR e | simp[BT.meW] at e)
  | nil =>
   rw[BT.AR] at e
   cases g:BT.lat h n with
   | none=>rw[g] at e;exact cR e
   | some xs =>
    rw[g] at e
    simp only at e
    cases gl:xs.getLast? with
    | none=>rw[gl] at e;exact cR e
    | some d =>
     rw[gl] at e
     cases e
     cases rx with
     | @r a _ hn =>
      obtain ⟨us',hH,r⟩:=R.cell n a xs hn g
      have hl:=r.length
      obtain ⟨y,hy,ry⟩:=r.get (yu gl)
      have x1:Ext m H m (upd H a (.lst us'.dropLast)):=gq (Np hn) hH
      exact D8 pins s σ H _ _ _ _ Q I rv rus ⟨a,us',y,rfl,rfl,hH,by rw[hl];exact hy,post _ _ m x1 (R.set hn hH r.dropLast) (.p (ry.ext x1))⟩
theorem yv (I:Inv X pins σ H s) (hH:H l=some (.lst xs)) (hB:LL X.K H b zs) (hz:xs.length+zs.length<=sizeLine) (q:Q .non (upd H l (.lst (xs++zs)))) :
 wpAny (Nv X.prog X.w) X.A (call (.builtin "list.extend") [.ref l,.ref b]) (EP X pins σ Q) X.xe s:=by
 obtain ⟨z,its,n,r,hl,e⟩:=I.AL hH
 obtain ⟨z2,its2,n2,r2,hl2,e2⟩:=rdL I hB
 have hsz:its.toArray.size+its2.toArray.size<=sizeLine:=by rw[M3,M3];lia
 have hlong:¬ (!its.toArray.isEmpty&&N7 (its.toArray.size+its2.toArray.size))=true:=by
  rw[lQ hsz,Bool.and_false]
  exact NN
 refine Os F.slot_list_extend ⟨_,e,rfl⟩ F.entry_list_extend (F.args_list_extend_2 _ _)
  (AutoSeq1.list_extend_list_list_0 l its.toArray n b its2.toArray n2 hlong (by rw[M3];lia) (by lia)) ⟨e,e2,?_⟩
 refine ⟨.non,_,I.AK (its':=its++its2) hH e (by simp) (r.append r2) ?_,rfl,q⟩
 rw[Nl]
 lia
theorem Ba (I:Inv X pins σ H s) (hH:H l=some (.lst xs)) (hB:SqT X.K H b zs) (hz:xs.length+zs.length<=sizeLine) (q:Q .non (upd H l (.lst (xs++zs)))) :
 wpAny (Nv X.prog X.w) X.A (call (.builtin "list.extend") [.ref l,.ref b]) (EP X pins σ Q) X.xe s:=by
 obtain ⟨z,its,n,r,hl,e⟩:=I.AL hH
 obtain ⟨its2,r2,p2,_⟩:=I.tuple hB
 obtain ⟨⟨cls,dd,data,sl⟩,e2,hc,n2,hd⟩:=id p2
 simp only at hc hd
 subst hc hd
 have hl2:=r2.length
 have hsz:its.toArray.size+its2.toArray.size<=sizeLine:=by rw[M3,M3];lia
 have hlong:¬ (!its.toArray.isEmpty&&N7 (its.toArray.size+its2.toArray.size))=true:=by
  rw[lQ hsz,Bool.and_false]
  exact NN
 refine Os F.slot_list_extend ⟨_,e,rfl⟩ F.entry_list_extend (F.args_list_extend_2 _ _)
  (kT l its.toArray n b its2.toArray n2 dd sl hlong (by rw[M3];lia) (by lia)) ⟨e,e2,?_⟩
 refine ⟨.non,_,I.AK (its':=its++its2) hH e (by simp) (r.append r2) ?_,rfl,q⟩
 rw[Nl]
 lia
theorem vZ:MtR X "list.extend" (rMe X.prog X.w X.K .extend):=by
 intro pins s σ H v vs v' us Q I rv rus h
 obtain ⟨m,h,x,ws,z,h',R,rx,rws,e,post⟩:=h
 cases x with
 | p d=>cases ws with
  | nil=>exact cR e
  | cons _ _=>rw[qU] at e;split at e<;>(try exact cR e)
 | k kvs=>(first | exact cR e | simp[BT.meW] at e)
 | c _ _=>(first | exact cR e | simp[BT.meW] at e)
 | x _=>(first | exact cR e | simp[BT.meW] at e)
 | o kvs=>(first | exact cR e | simp[BT.meW] at e)
 | r n =>
  cases rws with
  | nil=>(first | exact cR e | simp[BT.meW] at e)
  | @cons y wy _ _ ry t =>
   cases t with
   | cons _ _=>(first | exact cR e | simp[BT.meW] at e)
   | nil =>
    rw[BT.sj] at e
    cases g:BT.lat h n with
    | none=>rw[g] at e;exact cR e
    | some xs =>
     cases g2:(BT.rd wy h).bind BT.o7 with
     | none=>rw[g,g2] at e;exact cR e
     | some ys =>
      rw[g,g2] at e
      simp only at e
      obtain ⟨c,e⟩:=c6 e
      cases e
      obtain ⟨d,e1,e2⟩:=Option.bind_eq_some_iff.mp g2
      have r2:=dG R ry e1
      cases rx with
      | @r a _ hn =>
       obtain ⟨us',hH,r⟩:=R.cell n a xs hn g
       cases rv
       obtain ⟨u,rfl,ru⟩:=rus.one
       have:=fh
       have hl:=r.length
       cases d<;>simp only[BT.o7] at e2<;>try contradiction
       ·cases e2
        obtain ⟨b,vb,rfl,hb,rb⟩:=r2.tup
        cases ru
        have hl2:=rb.length
        exact Ba I hH hb (by lia) (post _ _ m (gq (Np hn) hH) (R.set hn hH (r.append rb)) (.p .non))
       ·cases e2
        obtain ⟨b,vb,rfl,hb,rb⟩:=r2.lst
        cases ru
        have hl2:=rb.length
        exact yv I hH hb (by lia) (post _ _ m (gq (Np hn) hH) (R.set hn hH (r.append rb)) (.p .non))
theorem RWs.pure {K:MV}:∀ {vs:List V}{ws:List BT.W}{ds:List BT.D},RWs P w K m H vs ws->BT.dm ws=some ds->RDs K m H vs ds:=by
 intro vs ws
 induction ws generalizing vs with
 | nil =>
  intro ds r e
  cases r
  cases e
  exact .nil
 | cons x ws ih =>
  intro ds r e
  cases r with
  | cons r t =>
   cases r with
   | p r =>
    simp only[BT.dm] at e
    obtain ⟨q,e1,e2⟩:=cY e
    subst e2
    exact .cons r (ih t e1)
   | _=>exact cR e
theorem jm:∀ {ds:List BT.D}{k j:Nat},BT.iy x ds k=some j->∃ i,j=k+i/\∃ (hi:i < ds.length),BT.eqv ds[i] x=true/\∀ m (hm:m < ds.length),m < i->BT.eqv ds[m] x=false
 | [],_,_,e=>by exact cR e
 | y :: r,k,j,e=>by
  simp only[BT.iy] at e
  split at e
  ·rename_i c
   cases e
   exact ⟨0,rfl,by simp,c,fun m _ h=>by lia⟩
  ·rename_i c
   obtain ⟨i,rfl,hi,h1,h2⟩:=jm e
   refine ⟨i+1,by lia,by simp;lia,by simpa using h1,fun m hm hlt=>?_⟩
   cases m with
   | zero=>simpa using c
   | succ m=>simpa using h2 m (by simpa using hm) (by lia)
theorem iU (I:Inv X pins σ H s):∀ {vs:List V}{ds:List BT.D}{us:List MZ},RDs X.K m H vs ds->cX vs us->∀ (i:Nat) (h1:i < us.length) (h2:i < ds.length),eg s.heap (pd d) us[i]=BT.eqv ds[i] d
 | _,_,_,.nil,q=>by cases q;intro i h1;simp at h1
 | _,_,_,.cons r t,q=>by
  cases q with
  | cons q1 q2 =>
   intro i h1 h2
   cases i with
   | zero =>
    obtain ⟨as,ra⟩:=iG I r q1
    simp only[List.getElem_cons_zero]
    rw[sM ra (fP r),mD]
   | succ i=>simpa using iU I t q2 i (by simpa using h1) (by simpa using h2)
theorem v7 (hu:X.A.units+150 < cLine):MtR X "tuple.index" (rMe X.prog X.w X.K .tindex):=by
 intro pins s σ H v vs v' us Q I rv rus h
 obtain ⟨m,h,x,ws,z,h',R,rx,rws,e,post⟩:=h
 cases x with
 | r n=>cases ws with
  | nil=>(first | exact cR e | simp[BT.meW] at e)
  | cons _ _=>(first | exact cR e | simp[BT.meW] at e)
 | k kvs=>(first | exact cR e | simp[BT.meW] at e)
 | c _ _=>(first | exact cR e | simp[BT.meW] at e)
 | x _=>(first | exact cR e | simp[BT.meW] at e)
 | o kvs=>(first | exact cR e | simp[BT.meW] at e)
 | p d =>
  rw[BT.lS] at e
  cases g:BT.dm ws with
  | none=>rw[g] at e;exact cR e
  | some ds =>
   rw[g] at e
   obtain ⟨b,e1,e2⟩:=cY e
   cases e2
   have rds:=rws.pure g
   cases d<;>first | exact cR e1 | skip
   rename_i xs
   cases ds with
   | nil=>exact cR e1
   | cons d0 dr =>
    cases dr with
    | cons _ _=>exact cR e1
    | nil =>
     rw[BT.Ed] at e1
     split at e1
     ·rename_i c
      obtain ⟨j,e3,e4⟩:=cY e1
      subst e4
      obtain ⟨i,rfl,hi,h1,h2⟩:=jm e3
      cases rds with
      | cons r0 rn =>
       cases rn
       obtain ⟨u,rfl,ru⟩:=rus.one
       cases rx with
       | p rx =>
        obtain ⟨a,vt,rfl,ha,ra⟩:=RR.tup (.d rx)
        cases rv
        obtain ⟨its,q1,q2,_⟩:=I.tuple ha
        obtain ⟨⟨cls,dd,data,sl⟩,ho,hc,n,hd⟩:=id q2
        simp only at hc hd
        subst hc hd
        have hl:=q1.length
        have hl2:=ra.length
        have hi':i < its.toArray.size:=by rw[M3];lia
        refine Os F.slot_tuple_index ⟨_,ho,rfl⟩ F.entry_tuple_index (F.args_tuple_index_2 _ _)
         (nH a its.toArray n dd sl u (eg s.heap (pd d0)) i hi' ?_ ?_) ⟨ho,?_,?_⟩
        ·rw[show its.toArray[i]=its[i]'(by lia) by simp,iU I ra q1 i (by lia) hi];exact h1
        ·intro k hk hlt
         have hk':k < its.length:=by simpa using hk
         rw[show its.toArray[k]=its[k]'hk' by simp,iU I ra q1 k hk' (by lia)];exact h2 k (by lia) hlt
        ·intro y hy
         exact f7 hu I (.d r0) ru ra q1 c y (by simpa using hy)
        ·refine ⟨.int (((0+i:Nat):Nat):Int),H,I.tok _,⟨s.toks,?_⟩,post.here R (.int _)⟩
         simp
     ·exact cR e1
theorem v8:MtR X "str.index" (rMe X.prog X.w X.K .sindex):=by
 intro pins s σ H v vs v' us Q I rv rus h
 obtain ⟨m,h,x,ws,z,h',R,rx,rws,e,post⟩:=h
 cases x with
 | r n=>cases ws with
  | nil=>(first | exact cR e | simp[BT.meW] at e)
  | cons _ _=>(first | exact cR e | simp[BT.meW] at e)
 | k kvs=>(first | exact cR e | simp[BT.meW] at e)
 | c _ _=>(first | exact cR e | simp[BT.meW] at e)
 | x _=>(first | exact cR e | simp[BT.meW] at e)
 | o kvs=>(first | exact cR e | simp[BT.meW] at e)
 | p d =>
  rw[BT.lT] at e
  cases g:BT.dm ws with
  | none=>rw[g] at e;exact cR e
  | some ds =>
   rw[g] at e
   obtain ⟨b,e1,e2⟩:=cY e
   cases e2
   have rds:=rws.pure g
   cases d<;>first | exact cR e1 | skip
   cases ds with
   | nil=>exact cR e1
   | cons d0 dr =>
    cases dr with
    | cons _ _=>cases d0<;>exact cR e1
    | nil =>
     cases d0<;>first | exact cR e1 | skip
     rename_i x y
     rw[BT.Ef] at e1
     cases ho:Ob x y 0 x.length 1 with
     | nil=>rw[ho] at e1;exact cR e1
     | cons j rest =>
      rw[ho] at e1
      cases e1
      cases rds with
      | cons r0 rn =>
       cases rn
       cases r0
       obtain ⟨u,rfl,t0,rfl⟩:=rus.one
       cases rx with
       | p rx =>
        cases rx
        obtain ⟨t,rfl⟩:=rv
        exact call_gives F.slot_str_index (typeIs_str s x t) F.entry_str_index (F.args_str_index_2 _ _) (gives_str_index x y t t0 j rest ho) ⟨.int j,H,I.tok _,⟨_,rfl⟩,post.here R (.int _)⟩
end
section
inductive rBi (P:Nk) (w:Nz) (K:MV) (b:BT.Bi) (mu:Bool) (vs:List V) (H:Hp) (Q:VK):Prop where
 | mk (m:List M9) (h:BT.HH) (ws:List BT.W) (z:BT.W) (h':BT.HH) (R:RH K m H h) (rs:RWs P w K m H vs ws) (e:BT.kBi b mu ws h=some (z,h')) (p:Post P w K m H z h' Q):rBi P w K b mu vs H Q
inductive RRs (K:MV) (m:List M9) (H:Hp):List V->List BT.D->Prop where
 | nil:RRs K m H [] []
 | cons {v:V}{d:BT.D}{vs:List V}{ds:List BT.D} (r:RR K m H v d) (t:RRs K m H vs ds):RRs K m H (v :: vs) (d :: ds)
theorem fD {K:MV} (R:RH K m H h):∀ {vs:List V}{ws:List BT.W}{ds:List BT.D},RWs P w K m H vs ws->BT.rds ws h=some ds->RRs K m H vs ds
 | _,_,_,.nil,e=>by cases e;exact .nil
 | _,_,_,.cons r t,e=>by
  simp only[BT.rds] at e
  obtain ⟨d,e1,e2⟩:=Option.bind_eq_some_iff.mp e
  obtain ⟨q,e3,e4⟩:=cY e2
  subst e4
  exact .cons (dG R r e1) (fD R t e3)
inductive BiI (b:BT.Bi) (mu:Bool) (ws:List BT.W) (h:BT.HH) (z:BT.W) (h':BT.HH):Prop where
 | mk (ds:List BT.D) (d:BT.D) (h1:BT.rds ws h=some ds) (h2:BT.biD b ds=some d) (h3:(mu=false/\z=.p d/\h'=h)\/∃ xs,mu=true/\d=.lst xs/\z=.r h.length/\h'=h++[.l xs]):BiI b mu ws h z h'
theorem jn (e:BT.kBi b mu ws h=some (z,h')):BiI b mu ws h z h':=by
 unfold BT.kBi at e
 cases e1:BT.rds ws h with
 | none=>rw[e1] at e;exact cR e
 | some ds =>
  rw[e1] at e
  simp only at e
  cases e2:BT.biD b ds with
  | none=>rw[e2] at e;exact cR e
  | some d =>
   rw[e2] at e
   simp only at e
   cases mu with
   | false=>cases e;exact ⟨ds,d,e1,e2,.inl ⟨rfl,rfl,rfl⟩⟩
   | true =>
    simp only[if_true] at e
    cases d<;>simp only at e<;>try contradiction
    cases e
    exact ⟨ds,_,e1,e2,.inr ⟨_,rfl,rfl,rfl,rfl⟩⟩
theorem RRs.one {K:MV}{m:List M9}{H:Hp}{vs:List V}{d:BT.D} (r:RRs K m H vs [d]):∃ v,vs=[v]/\RR K m H v d:=by
 cases r with
 | cons r t=>cases t;exact ⟨_,rfl,r⟩
theorem ES:ef X (.builtin "len") (rBi X.prog X.w X.K .len false):=by
 intro pins s σ H vs us Q I rus h
 obtain ⟨m,h,ws,z,h',R,rws,e,post⟩:=h
 obtain ⟨ds,d,e1,e2,⟨_,rfl,rfl⟩ | ⟨_,q,_⟩⟩:=jn e
 ·have rr:=fD R rws e1
  match ds,e2 with
  | [.tup xs],e2 =>
   cases e2
   obtain ⟨v,rfl,r⟩:=rr.one
   obtain ⟨a,vt,rfl,ha,ra⟩:=r.tup
   exact jA pins s σ H _ us Q I rus ⟨a,vt,rfl,.inr ha,by rw[ra.length];exact post.here R (.int _)⟩
  | [.lst xs],e2 =>
   cases e2
   obtain ⟨v,rfl,r⟩:=rr.one
   obtain ⟨a,vt,rfl,ha,ra⟩:=r.lst
   exact jA pins s σ H _ us Q I rus ⟨a,vt,rfl,.inl ha.sq,by rw[ra.length];exact post.here R (.int _)⟩
  | [.str x],e2 =>
   rw[BT.vO] at e2
   split at e2
   ·rename_i c
    cases e2
    obtain ⟨v,rfl,r⟩:=rr.one
    obtain ⟨rfl,_⟩:=r.str
    have:=fh
    exact oZ pins s σ H _ us Q I rus ⟨x,rfl,by lia,post.here R (.int _)⟩
   ·exact cR e2
 ·exact BT.dN q
theorem ET:ef X (.builtin "abs") (rBi X.prog X.w X.K .abs false):=by
 intro pins s σ H vs us Q I rus h
 obtain ⟨m,h,ws,z,h',R,rws,e,post⟩:=h
 obtain ⟨ds,d,e1,e2,⟨_,rfl,rfl⟩ | ⟨_,q,_⟩⟩:=jn e
 ·have rr:=fD R rws e1
  match ds,e2 with
  | [.int i],e2 =>
   cases e2
   obtain ⟨v,rfl,r⟩:=rr.one
   cases r.int
   exact xy pins s σ H _ us Q I rus ⟨i,rfl,post.here R (.int _)⟩
 ·exact BT.dN q
theorem EU:ef X (.type "int") (rBi X.prog X.w X.K .int false):=by
 intro pins s σ H vs us Q I rus h
 obtain ⟨m,h,ws,z,h',R,rws,e,post⟩:=h
 obtain ⟨ds,d,e1,e2,⟨_,rfl,rfl⟩ | ⟨_,q,_⟩⟩:=jn e
 ·have rr:=fD R rws e1
  match ds,e2 with
  | [.int i],e2 =>
   cases e2
   obtain ⟨v,rfl,r⟩:=rr.one
   cases r.int
   exact nU pins s σ H _ us Q I rus (.inl ⟨i,rfl,post.here R (.int _)⟩)
  | [.bl i],e2 =>
   cases e2
   obtain ⟨v,rfl,r⟩:=rr.one
   cases r.bl
   exact nU pins s σ H _ us Q I rus (.inr ⟨i,rfl,post.here R (.int _)⟩)
 ·exact BT.dN q
theorem uw:ef X (.type "list") (rBi X.prog X.w X.K .list mu):=by
 intro pins s σ H vs us Q I rus h
 obtain ⟨m,h,ws,z,h',R,rws,e,post⟩:=h
 obtain ⟨ds,d,e1,e2,hz⟩:=jn e
 have rr:=fD R rws e1
 have fin:∀ {p:M9}{vt:List V}{xs:List BT.D},d=.lst xs->H p=none->RDs X.K m H vt xs->Q (.ref p) (upd H p (.lst vt)):=by
  intro p vt xs ed hp r
  rcases hz with ⟨_,rfl,rfl⟩ | ⟨ys,_,e3,rfl,rfl⟩
  ·subst ed;exact iR R hp r post
  ·rw[ed] at e3;cases e3;exact ur R hp r post
 match ds,e2 with
 | [.tup xs],e2 =>
  cases e2
  obtain ⟨v,rfl,r⟩:=rr.one
  obtain ⟨a,vt,rfl,ha,ra⟩:=r.tup
  exact jB pins s σ H _ us Q I rus ⟨a,vt,rfl,.inr ha,fun p hp=>fin rfl hp ra⟩
 | [.lst xs],e2 =>
  cases e2
  obtain ⟨v,rfl,r⟩:=rr.one
  obtain ⟨a,vt,rfl,ha,ra⟩:=r.lst
  exact jB pins s σ H _ us Q I rus ⟨a,vt,rfl,.inl ha.sq,fun p hp=>fin rfl hp ra⟩
theorem jH {K:MV}:∀ {ns:List Int}{vs:List V},RDs K m H vs (ns.map BT.D.int)->vs=ns.map V.int
 | [],vs,r=>by cases r;rfl
 | n :: ns,vs,r=>by
  cases r with
  | cons r t=>cases r;rw[jH t];rfl
theorem yw:ef X (.type "tuple") (rBi X.prog X.w X.K .tuple false):=by
 intro pins s σ H vs us Q I rus h
 obtain ⟨m,h,ws,z,h',R,rws,e,post⟩:=h
 obtain ⟨ds,d,e1,e2,⟨_,rfl,rfl⟩ | ⟨_,q,_⟩⟩:=jn e
 ·have rr:=fD R rws e1
  match ds,e2 with
  | [.tup xs],e2 =>
   cases e2
   obtain ⟨v,rfl,r⟩:=rr.one
   obtain ⟨a,vt,rfl,ha,ra⟩:=r.tup
   refine ja pins s σ H _ us Q I rus ⟨a,vt,rfl,.inr ⟨ha,?_⟩⟩
   cases r with
   | d r=>exact post.here R r
  | [.lst xs],e2 =>
   cases e2
   obtain ⟨v,rfl,r⟩:=rr.one
   obtain ⟨a,vt,rfl,ha,ra⟩:=r.lst
   exact ja pins s σ H _ us Q I rus ⟨a,vt,rfl,.inl ⟨ha.sq,fun p hp=>iQ R hp ra post⟩⟩
 ·exact BT.dN q
noncomputable def tyD:BT.D->String
 | .non=>"NoneType"
 | .bl _=>"bool"
 | .int _=>"int"
 | .str _=>"str"
 | .tup _=>"tuple"
 | .lst _=>"list"
theorem Bb {E:MZ->M0->Prop}
 (I:Inv X pins σ H s) (r:RR X.K m H v d) (rv:RelV v u) (e:On X.K (.type (tyD d)) (.type c)=some b) (h:∀ tk,Q (.bool b) { s with toks:=tk }) :
 wpAny (Nv X.prog X.w) A (call (.builtin "isinstance") [u,.type c]) Q E s:=by
 cases d with
 | non=>cases r.non;cases rv;exact OZ PySem.W.kitx_none I.kIn OY e (fun z=>nomatch z) h
 | bl y=>cases r.bl;cases rv;exact OZ PySem.W.kitx_bool I.kIn OY e (fun z=>nomatch z) h
 | int i=>cases r.int;obtain ⟨t,rfl⟩:=rv;exact OZ PySem.W.kitx_int I.kIn OY e (fun z=>nomatch z) h
 | str y=>obtain ⟨rfl,_⟩:=r.str;obtain ⟨t,rfl⟩:=rv;exact OZ PySem.W.kitx_str I.kIn OY e (fun z=>nomatch z) h
 | tup xs =>
  obtain ⟨a,vt,rfl,ha,_⟩:=r.tup
  cases rv
  obtain ⟨its,_,⟨o,h1,h2,_⟩,_⟩:=I.tuple ha
  exact OZ PySem.W.kitx_tuple I.kIn ⟨o,h1,h2⟩ e (fun z=>nomatch z) h
 | lst xs =>
  obtain ⟨a,vt,rfl,ha,_⟩:=r.lst
  cases rv
  obtain ⟨_,its,n,_,_,h1⟩:=rdL I ha
  exact OZ PySem.W.kitx_list I.kIn ⟨_,h1,rfl⟩ e (fun z=>nomatch z) h
theorem yx (K:MV) (t:String):On K (.type t) (.type t)=some true:=by
 unfold On
 rw[if_pos (by simp)]
theorem yy (h:qP b=some (c,f)) (d:BT.D):BT.biD b [d]=some (.bl (f d)):=by
 cases b<;>simp only[qP] at h<;>try contradiction
 all_goals (cases h;rfl)
theorem yz (h:qP b=some (c,f)) (K:MV) (d:BT.D):On K (.type (tyD d)) (.type c)=some (f d):=by
 cases b<;>simp only[qP] at h<;>try contradiction
 all_goals (cases h;cases d)
 all_goals first
  | exact yx K _
  | (simp only[tyD];unfold On;rw[if_neg (by decide)];unfold PySem.W.kitCls;first | rfl | kernel_rfl | decide +kernel)
end
end BS
end
section
namespace BX
open PySem PySem.Spec PyProof.Rows
section
variable {prog:Nk}{w:Nz}{A:NT}{R:Result->M0->Prop}{I:M9}{fp wr:List M9}{n:Nat}{P:Nat->MZ->Prop}{St:Nat->Heap->Prop}{kw:List (Str×MZ)}
end
end BX
end
section
namespace BS
open PySem PySem.Spec PyProof.Rows L2
noncomputable abbrev FT:=BT.FK->List BT.W->BT.HH->Option (BT.W×BT.HH)
inductive spF (P:Nk) (w:Nz) (K:MV) (g:List BT.W->BT.HH->Option (BT.W×BT.HH)) (vs:List V) (H:Hp) (Q:VK) (E:XK):Prop where
 | mk (m:List M9) (ws:List BT.W) (h:BT.HH) (z:BT.W) (h':BT.HH) (R:RH K m H h) (r:RWs P w K m H vs ws) (e:g ws h=some (z,h')) (p:Post P w K m H z h' Q):spF P w K g vs H Q E
inductive tD (X:Cx) (F:FT) (G:Str->Option BT.W) (e:BT.E) (σ:L2.St) (H:Hp) (Q:VK):Prop where
 | mk (m:List M9) (s:BT.Sl) (h:BT.HH) (z:BT.W) (h':BT.HH) (R:RH X.K m H h) (S:RS X.prog X.w X.K m H σ s) (q:BT.ev F G e s h=some (z,h')) (p:Post X.prog X.w X.K m H z h' Q):tD X F G e σ H Q
inductive tDs (X:Cx) (F:FT) (G:Str->Option BT.W) (es:BT.Es) (σ:L2.St) (H:Hp) (Q:List V->Hp->Prop):Prop where
 | mk (m:List M9) (s:BT.Sl) (h:BT.HH) (zs:List BT.W) (h':BT.HH) (R:RH X.K m H h) (S:RS X.prog X.w X.K m H σ s) (q:BT.evs F G es s h=some (zs,h')) (p:∀ vs H' m',Ext m H m' H'->RH X.K m' H' h'->RWs X.prog X.w X.K m' H' vs zs->Q vs H'):tDs X F G es σ H Q
inductive tDT (X:Cx) (F:FT) (G:Str->Option BT.W) (e:BT.E) (σ:L2.St) (H:Hp) (Q:Bool->Hp->Prop):Prop where
 | mk (m:List M9) (s:BT.Sl) (h:BT.HH) (b:Bool) (h':BT.HH) (R:RH X.K m H h) (S:RS X.prog X.w X.K m H σ s) (q:BT.ev F G e s h=some (.p (.bl b),h')) (p:∀ H' m',Ext m H m' H'->RH X.K m' H' h'->Q b H'):tDT X F G e σ H Q
noncomputable def qV (P:Nk) (w:Nz) (K:MV) (mg:Str->Option MZ) (base:Heap) (k L:Nat) (g:List BT.W->BT.HH->Option (BT.W×BT.HH)):Prop :=
 ∀ (A:NT) (outer:List Env) (s:M0) (H:Hp) (f:M9) (us:List MZ) (vs cvs:List V) (m:List M9) (ws:List BT.W) (cs:List BT.Cp) (h:BT.HH) (z:BT.W) (h':BT.HH) (Q:VK) (E:XK),eH k A->oV P w K mg base A outer s H->cX vs us →
  RH K m H h->RWs P w K m H vs ws->BT.noC ws=true->jD m H f L cvs->RCs K m H cvs cs->g (ws++cs.map BT.Cp.w) h=some (z,h')->Post P w K m H z h' Q->codeAny (Nv P w) A (.call (.ref f) ⟨us,[]⟩) (CR CX0 outer P w H s Q E) s
structure LX (X:Cx) (x:Str):Prop where
 mem:x∈BT.fZ
 ex:∃ c P,Om X.K x=some (c,P)/\X.env.code=.ref c/\PySem.W.CodeHd X.base c P/\∀ y∈BT.fZ,∀ c2,Om X.K y=some (c2,P)->y=x
 ql:X.env.qual=x++".<locals>."
 bm:∃ bm ob,X.mg "__builtins__"=some (.ref bm)/\bm≠O7/\X.base.get? bm=some ob/\ob.cls=.type "module"/\ob.dict=some O7/\ob.data=.plain
noncomputable def IP:List Str:=["len","abs","int","list","tuple","isinstance","str","bool","range","reversed","enumerate","zip","min","max","sorted","sum","all","any","set","ValueError","dict"]
inductive OkC (P:Nk) (w:Nz) (K:MV) (mg:Str->Option MZ) (base:Heap) (A:NT) (f:Str) (sp:Sp):Prop where
 | mk (fa:M9) (fd:Oz) (ps:List Str) (k:Nat) (h1:mg f=some (.ref fa)) (h2:N6 K (.ref fa)=true) (h3:Binds K fd ps []) (h4:eH k A) (h5:gB P w K mg base CX0 k fa fd ps sp):OkC P w K mg base A f sp
inductive OkM (P:Nk) (w:Nz) (K:MV) (mg:Str->Option MZ) (base:Heap) (A:NT) (CX:CXT) (c m:Str) (sp:Sp):Prop where
 | mk (C g:M9) (fd:Oz) (ps:List Str) (k:Nat) (h1:oj K c C) (h2:xC K C m g) (h3:Binds K fd ps []) (h4:eH k A) (h5:gB P w K mg base CX k g fd ps sp):OkM P w K mg base A CX c m sp
inductive OkN (P:Nk) (w:Nz) (K:MV) (mg:Str->Option MZ) (base:Heap) (A:NT) (c:Str) (sp:Sp):Prop where
 | mk (C g:M9) (fd:Oz) (ps:List Str) (k:Nat) (h1:oj K c C) (h2:mg c=some (.ref C)) (h3:Mk K C g) (h4:Binds K fd ps []) (h5:eH (k+1) A) (h6:gB P w K mg base CX0 k g fd ps sp):OkN P w K mg base A c sp
structure Ok (X:Cx) (F:FT) (G:Str->Option BT.W) (sc:NY) (N:List Str):Prop where
 hsc:X.env.scope=sc
 hN:X.N=N
 nd:X.N.Nodup
 calm:f6 N=true->X.calm=true
 hu:X.A.units+150 < cLine
 own:PassesOwn (Nv X.prog X.w) X.A X.env X.xe
 glob:∀ x z,G x=some z->∃ u v,X.mg x=some u/\RelV v u/\∀ m H,RW X.prog X.w X.K m H v z
 call:∀ (f:Str) ws h r,F (.f f) ws h=some r->OkC X.prog X.w X.K X.mg X.base X.A f (spF X.prog X.w X.K (F (.f f)))
 meth:∀ (c m:Str) ws h r,F (.m c m) ws h=some r->OkM X.prog X.w X.K X.mg X.base X.A CX0 c m (spF X.prog X.w X.K (F (.m c m)))
 mkc:∀ (c:Str) ws h r,F (.m c "__init__") ws h=some r->OkN X.prog X.w X.K X.mg X.base X.A c (spF X.prog X.w X.K (F (.m c "__init__")))
 blt:∀ x∈IP,X.mg x=none
 lam:∀ (L:Nat) ws h r,F (.l L) ws h=some r->∃ k,eH k X.A/\qV X.prog X.w X.K X.mg X.base k L (F (.l L))
 lamx:(∀ x,X.fn x=true)->∀ x,N.contains (BT.fR x)=true->LX X x
theorem PE.weak (h:PE X e t) (q:∀ σ H Q,t' σ H Q->t σ H Q):PE X e t':=fun pins s σ H Q I hw=>h pins s σ H Q I (q _ _ _ hw)
theorem PT.weak (h:PT X e t) (q:∀ σ H Q,t' σ H Q->t σ H Q):PT X e t':=fun pins s σ H Q I hw=>h pins s σ H Q I (q _ _ _ hw)
theorem PW.weak (h:PW X e t) (q:∀ σ H Q,t' σ H Q->t σ H Q):PW X e t':=fun wh pins s σ H Q I hw=>h wh pins s σ H Q I (q _ _ _ hw)
theorem PA.weak (h:PA X es t) (q:∀ σ H Q,t' σ H Q->t σ H Q):PA X es t':=fun pos pins s σ H Q I hw=>h pos pins s σ H Q I (q _ _ _ hw)
theorem cV (h:noStar e=true):NG (e :: es) env=(false,eval e env) :: NG es env:=by
 cases e<;>first | rfl | exact BT.dN h
theorem yC (h:lq b=true):ue b:=fun o i=>by
 cases b<;>first | rfl | exact BT.dN h
theorem jI (h:dj o=true):Qn o name env (eval o env)=eval o env:=by
 cases o with
 | Call fn as ks p =>
  cases fn with
  | Attribute _ _ _=>rfl
  | _=>exact BT.dN h
 | _=>first | rfl | exact cR h
noncomputable def cU:List M7->Bool
 | []=>true
 | e :: es=>noStar e&&cU es
theorem dw:∀ {es:List M7},cU es=true->(Po pos (NG es env)).any (·.1)=false
 | [],_=>rfl
 | e :: es,h=>by
  simp only[cU,M6] at h
  rw[cV h.1]
  show (false||(Po pos (NG es env)).any (·.1))=false
  rw[dw h.2];rfl
theorem iI:∀ {es:List M7},cU es=true->(Po pos (NG es env)).all (fun x=>!x.1)=true
 | [],_=>rfl
 | e :: es,h=>by
  simp only[cU,M6] at h
  rw[cV h.1]
  show (!false&&(Po pos (NG es env)).all (fun x=>!x.1))=true
  rw[iI h.2];rfl
noncomputable def IQ:Tq->Prop
 | .es _ xs=>cU xs=true
 | _=>True
theorem yD (h:CQ sc N t):IQ t:=by
 induction h with
 | es_nil=>exact rfl
 | es_cons hs _ _ _ ih =>
  show (noStar _&&cU _)=true
  rw[M6];exact ⟨hs,ih⟩
 | _=>exact OY
theorem gu (h:CEs sc N as es):cU es=true:=yD h
noncomputable def noM:Tq->Prop
 | .es (.cons _ _) []=>False
 | _=>True
theorem EV (h:CQ sc N t):noM t:=by
 induction h with
 | _=>exact OY
theorem mE (h:CEs sc N (.cons a r) []):False:=EV h
section
theorem pL (he:∀ s h,BT.ev F G e s h=BT.bnd (BT.ev F G a s h) (BT.k2 (BT.ev F G b s) f)) (σ:L2.St) (H:Hp) (Q:VK) (q:tD X F G e σ H Q) :
 tOp (rOp X.prog X.w X.K f) (tD X F G a) (tD X F G b) σ H Q:=by
 obtain ⟨m,s,h,z,h',R,S,ee,post⟩:=q
 rw[he] at ee
 obtain ⟨x,h1,e1,e2⟩:=cT ee
 simp only[BT.k2] at e2
 obtain ⟨y,h2,e3,e4⟩:=cT e2
 refine ⟨m,s,h,x,h1,R,S,e1,fun v H1 m1 x1 R1 r1=>?_⟩
 refine ⟨m1,s,h1,y,h2,R1,S.ext x1,e3,fun u H2 m2 x2 R2 r2=>?_⟩
 exact ⟨m2,h2,x,y,z,h',R2,r1.ext x2,r2,e4,fun w' H3 m3 x3 R3 r3=>post w' H3 m3 ((x1.trans x2).trans x3) R3 r3⟩
theorem mF (h:∀ σ H Q,tD X F G e σ H Q->t σ H Q) (σ:L2.St) (H:Hp) (Q:Bool->Hp->Prop) (q:tDT X F G e σ H Q):xr t σ H Q:=by
 obtain ⟨m,s,h0,b,h',R,S,ee,post⟩:=q
 refine h σ H _ ⟨m,s,h0,_,h',R,S,ee,fun v H' m' x R' r=>?_⟩
 cases r with
 | p r=>cases r;exact ⟨b,rfl,post H' m' x R'⟩
theorem opB (h:C9 o op=true):OpR X (Oj op) (rOp X.prog X.w X.K (BT.nF o)):=by
 rw[of_decide_eq_true h]
 cases o
 ·exact EF
 ·exact EG
 ·exact EK
 ·exact EI
 ·exact A4
 ·exact EJ
theorem Dg:∀ {es:List (Str×V)}{kvs:List (Str×BT.D)}{K:MV},RDk K es kvs->KV (es.map fun q=>((Sum.inr q.1:Key),q.2)) vs->(valueAt vs (Sum.inr k)).isSome=(BT.dD k kvs).isSome:=by
 intro es
 induction es generalizing vs with
 | nil =>
  intro kvs K r q
  cases r
  cases q
  rfl
 | cons p es ih =>
  intro kvs K r q
  cases r with
  | @cons x v dd _ kvs r t =>
   cases q with
   | @cons p z l1 l2 q1 q2 =>
    obtain ⟨z1,z2⟩:=z
    obtain ⟨q11,q12⟩:=q1
    simp only at q11 q12
    subst q11
    rw[BT.dD]
    by_cases c:k=x
    ·subst c
     simp[valueAt]
    ·rw[if_neg c]
     have ne:¬ ((Sum.inr x:Key)=Sum.inr k):=fun z=>c (Sum.inr.inj z).symm
     have:=ih t q2
     simp only[valueAt] at this ⊢
     rw[Qf (by simpa using ne)]
     exact this
theorem opC (O:Ok X F G sc N) (h:A2 o op=true):OpR X (NV op) (rOp X.prog X.w X.K (BT.jg o)):=by
 rw[of_decide_eq_true h]
 cases o
 ·exact IJ O.hu
 ·exact IK O.hu
 ·exact pK G1 rfl rfl fun _ _=>rfl
 ·exact pK G2 rfl rfl fun _ _=>rfl
 ·exact pK G3 rfl rfl fun _ _=>rfl
 ·exact pK G4 rfl rfl fun _ _=>rfl
 ·exact EL
 ·exact A7
 ·refine EM O.hu ?_
  intro kvs x b m H v u v' u' pins σ s Q I rv ru rx rk e q
  cases kvs with
  | t kvs =>
   cases x with
   | p d =>
    cases d<;>first | exact cR e | skip
    obtain rfl:=Nc e
    cases rk with
    | @k a es _ kd rk =>
     cases ru
     cases rx with
     | p rx =>
      cases rx with
      | str x ok =>
       obtain ⟨t,rfl⟩:=rv
       obtain ⟨hm,vs,kv,dd⟩:=kd
       have D:=dd s.heap I.kIn
       refine wpAny_in_of (knd:=c9 X.prog X.w) (eV _ _ _ t) hm D.mapOf ?_
       rw[Dg rk kv]
       exact ⟨.bl _,H,I.tok _,rfl,q⟩
   | _=>exact cR e
  | l kvs =>
   cases x with
   | p d =>
    obtain ⟨k,g1,g2⟩:=cY (show (BT.nB d).map (fun k=>(BT.eW kvs k).isSome)=some b from e)
    subst g2
    cases rk with
    | @kl a ob ws _ hh rk =>
     cases ru
     cases rx with
     | p rx =>
      have ek:=yq rx g1
      subst ek
      cases sN I (.inr ⟨_,hh.1⟩) rk k with
      | no vs dd n g1 g2 =>
       refine wpAny_in_of (knd:=c9 X.prog X.w) (xP rv) n dd.mapOf ?_
       rw[g2]
       exact ⟨.bl _,H,I.tok _,rfl,by rw[g1] at q;exact q⟩
      | is vs dd n x v1 u1 g1 g2 g3 g4 =>
       refine wpAny_in_of (knd:=c9 X.prog X.w) (xP rv) n dd.mapOf ?_
       rw[g2]
       exact ⟨.bl _,H,I.tok _,rfl,by rw[g1] at q;exact q⟩
   | _=>exact cR e
 ·refine A8 O.hu ?_
  intro kvs x b m H v u v' u' pins σ s Q I rv ru rx rk e q
  cases kvs with
  | t kvs =>
   cases x with
   | p d =>
    cases d<;>first | exact cR e | skip
    obtain rfl:=Nc e
    cases rk with
    | @k a es _ kd rk =>
     cases ru
     cases rx with
     | p rx =>
      cases rx with
      | str x ok =>
       obtain ⟨t,rfl⟩:=rv
       obtain ⟨hm,vs,kv,dd⟩:=kd
       have D:=dd s.heap I.kIn
       refine wpAny_notIn_of (knd:=c9 X.prog X.w) (eV _ _ _ t) hm D.mapOf ?_
       rw[Dg rk kv]
       exact ⟨.bl _,H,I.tok _,rfl,q⟩
   | _=>exact cR e
  | l kvs=>exact cR e
end
section
variable {X:Cx}{F:FT}{G:Str->Option BT.W}{sc:NY}{N:List Str}
theorem Bc (O:Ok X F G sc N) (x:Str):X.env.kindOf x=sc.names.lookup x:=by rw[← O.hsc];rfl
theorem fS (h:ff x=true):(x==("__debug__":Str))=false/\(x==("__classdict__":Str))=false/\x≠"__name__":=by
 simp only[ff,M6,Pa] at h
 exact ⟨h.1.1,h.1.2,fun e=>by rw[e] at h;simp at h⟩
theorem dS (O:Ok X F G sc N) (h:dQ sc x=true):Gl X x:=by
 show X.env.kindOf x=_
 rw[Bc O]
 exact eq_of_beq h
theorem EW (O:Ok X F G sc N) (h:qQ sc x=true):Vis X.env.scope x:=by
 rw[O.hsc]
 unfold qQ at h
 unfold Vis
 cases e:sc.names.lookup x with
 | none=>rw[e] at h;exact BT.dN h
 | some k=>rw[e] at h;cases k<;>first | (exact .inl rfl) | (exact .inr (.inl rfl)) | (exact .inr (.inr rfl)) | exact BT.dN h
theorem ux (O:Ok X F G sc N) (h2:N[i]?=some y) (h3:qQ sc y=true) (h4:ff y=true):PE X (.Name y pos) (tD X F G (.var i)):=by
 obtain ⟨d1,d2,_⟩:=fS h4
 refine PE.weak (Dz (i:=i) (by rw[O.hN];exact h2) (EW O h3) d1 d2) fun σ H Q q=>?_
 obtain ⟨m,s,h,z,h',R,S,ee,post⟩:=q
 simp only[BT.ev] at ee
 split at ee
 ·rename_i w e
  cases ee
  obtain ⟨v,hv,r⟩:=S.get i _ e
  exact ⟨v,hv,post v H m (.refl _ _) R r⟩
 ·exact cR ee
theorem Bd (h:Dc d c=true):PE X (.Constant c k pos) (tD X F G (.cst d)):=by
 have fin:∀ {v:V},(∀ m H,RD X.K m H v d)->∀ σ H Q,tD X F G (.cst d) σ H Q->tC v σ H Q:=fun r σ H Q q=>by
  obtain ⟨m,s,h,z,h',R,S,ee,post⟩:=q
  simp only[BT.ev] at ee
  cases ee
  exact post _ H m (.refl _ _) R (.p (r m H))
 cases d<;>cases c<;>first | exact BT.dN h | skip
 ·exact PE.weak DA (fin fun _ _=>.non)
 ·cases eq_of_beq h;exact PE.weak GI (fin fun _ _=>.bl _)
 ·cases eq_of_beq h;exact PE.weak oQ (fin fun _ _=>.int _)
 ·have h:=Bool.and_eq_true_iff.mp h
  cases eq_of_beq h.1;exact PE.weak DB (fin fun _ _=>.str _ h.2)
theorem Be (O:Ok X F G sc N) (h2:dQ sc y=true) (h3:ff y=true):PE X (.Name y pos) (tD X F G (.glo y)):=by
 obtain ⟨d1,d2,_⟩:=fS h3
 intro pins s σ H Q I q
 obtain ⟨m,s',h,z,h',R,S,ee,post⟩:=q
 simp only[BT.ev] at ee
 obtain ⟨w,e1,e2⟩:=cY ee
 cases e2
 obtain ⟨u,v,hm,r,rw⟩:=O.glob _ _ e1
 exact tT (dS O h2) hm r d1 pins s σ H Q I (post v H m (.refl _ _) R (rw m H))
theorem Dh (he:∀ s h,BT.ev F G e s h=BT.bnd (BT.ev F G a s h) k) (q:tD X F G e σ H Q)
 (h1:∀ m h x z h' v H1,RH X.K m H1 h->RW X.prog X.w X.K m H1 v x->k x h=some (z,h')->Post X.prog X.w X.K m H1 z h' Q->R' v H1):tD X F G a σ H R':=by
 obtain ⟨m,s,h,z,h',R,S,ee,post⟩:=q
 rw[he] at ee
 obtain ⟨x,g,e1,e2⟩:=cT ee
 exact ⟨m,s,h,x,g,R,S,e1,fun v H1 m1 x1 R1 r1=>h1 m1 g x z h' v H1 R1 r1 e2 fun w' H3 m3 x3 R3 r3=>post w' H3 m3 (x1.trans x3) R3 r3⟩
theorem jJ (he:∀ s h,BT.ev F G e s h=BT.bnd (BT.evs F G as s h) k) (q:tD X F G e σ H Q)
 (h1:∀ m h xs z h' vs H1,RH X.K m H1 h->RWs X.prog X.w X.K m H1 vs xs->k xs h=some (z,h')->Post X.prog X.w X.K m H1 z h' Q->R' vs H1):tDs X F G as σ H R':=by
 obtain ⟨m,s,h,z,h',R,S,ee,post⟩:=q
 rw[he] at ee
 obtain ⟨x,g,e1,e2⟩:=cT ee
 exact ⟨m,s,h,x,g,R,S,e1,fun v H1 m1 x1 R1 r1=>h1 m1 g x z h' v H1 R1 r1 e2 fun w' H3 m3 x3 R3 r3=>post w' H3 m3 (x1.trans x3) R3 r3⟩
theorem ty_list (R:RH X.K m H h) (r:RW X.prog X.w X.K m H v (.r n)) (ok:BT.nG (.r n) h=true):tyV X.K "list" v H:=by
 cases r with
 | @r a _ hn =>
  obtain ⟨xs,e⟩:=Option.isSome_iff_exists.mp ok
  obtain ⟨vs,e,_⟩:=R.cell n a xs hn e
  exact .inl ⟨rfl,vs,.inl (.inl e)⟩
theorem uy (e:BT.kMe m ea x h=some r):BT.nG x h=true/\BT.bnd (ea h) (BT.meW m x)=some r:=by
 unfold BT.kMe at e
 split at e
 ·rename_i c;exact ⟨c,e⟩
 ·exact cR e
theorem LK (hm:m=.append\/m=.pop\/m=.extend) (e:BT.meW m x ws h=some (z,h')):∃ n,x=.r n:=by
 cases x with
 | r n=>exact ⟨n,rfl⟩
 | p d =>
  rcases hm with rfl | rfl | rfl<;>cases ws<;>rw[qU] at e<;>(split at e<;>(try exact cR e))<;>exact cR e
 | k q =>
  rcases hm with rfl | rfl | rfl<;>cases ws<;>(first | exact cR e | simp[BT.meW] at e)
 | x _ =>
  rcases hm with rfl | rfl | rfl<;>cases ws<;>(first | exact cR e | simp[BT.meW] at e)
 | c _ _ =>
  rcases hm with rfl | rfl | rfl<;>cases ws<;>(first | exact cR e | simp[BT.meW] at e)
 | o q =>
  rcases hm with rfl | rfl | rfl<;>cases ws<;>(first | exact cR e | simp[BT.meW] at e)
end
section
theorem pM {X:Cx}{e a:BT.E}{k:BT.Sl->BT.W->BT.HH->Option (BT.W×BT.HH)} (he:∀ s h,BT.ev F G e s h=BT.bnd (BT.ev F G a s h) (k s)) {σ:L2.St}{H:Hp}{Q:VK} (q:tD X F G e σ H Q) {R':V->Hp->Prop}
 (h1:∀ m s h x z h' v H1,RH X.K m H1 h->RS X.prog X.w X.K m H1 σ s->RW X.prog X.w X.K m H1 v x->k s x h=some (z,h')->Post X.prog X.w X.K m H1 z h' Q->R' v H1):tD X F G a σ H R':=by
 obtain ⟨m,s,h,z,h',R,S,ee,post⟩:=q
 rw[he] at ee
 obtain ⟨x,g,e1,e2⟩:=cT ee
 exact ⟨m,s,h,x,g,R,S,e1,fun v H1 m1 x1 R1 r1=>h1 m1 s g x z h' v H1 R1 (S.ext x1) r1 e2 fun w' H3 m3 x3 R3 r3=>post w' H3 m3 (x1.trans x3) R3 r3⟩
theorem EX {X:Cx}{e a:BT.E}{k:BT.Sl->Bool->BT.HH->Option (BT.W×BT.HH)}{kk:BT.Sl->BT.W->BT.HH->Option (BT.W×BT.HH)} (he:∀ s h,BT.ev F G e s h=BT.bnd (BT.ev F G a s h) (kk s))
 (hk:∀ s x h r,kk s x h=some r->∃ b,x=.p (.bl b)/\k s b h=some r) {σ:L2.St}{H:Hp}{Q:VK} (q:tD X F G e σ H Q) {R':Bool->Hp->Prop}
 (h1:∀ m s h b z h' H1,RH X.K m H1 h->RS X.prog X.w X.K m H1 σ s->k s b h=some (z,h')->Post X.prog X.w X.K m H1 z h' Q->R' b H1):tDT X F G a σ H R':=by
 obtain ⟨m,s,h,z,h',R,S,ee,post⟩:=q
 rw[he] at ee
 obtain ⟨x,g,e1,e2⟩:=cT ee
 obtain ⟨b,rfl,e3⟩:=hk _ _ _ _ e2
 exact ⟨m,s,h,b,g,R,S,e1,fun H1 m1 x1 R1=>h1 m1 s g b z h' H1 R1 (S.ext x1) e3 fun w' H3 m3 x3 R3 r3=>post w' H3 m3 (x1.trans x3) R3 r3⟩
theorem j9 {K:MV} (r:RW P w K m H v (.p (.bl b))):v=.bl b:=by
 cases r with | p r=>cases r;rfl
theorem uz (e:BT.AX eb x h=some r):∃ b,x=.p (.bl b)/\(if b=true then eb h else some (.p (.bl false),h))=some r:=by
 cases x with
 | p d =>
  cases d<;>simp only[BT.AX] at e<;>try contradiction
  exact ⟨_,rfl,e⟩
 | r n=>exact cR e
 | k q=>exact cR e
 | c _ _=>exact cR e
 | x _=>exact cR e
 | o q=>exact cR e
theorem yE (e:BT.kOr eb x h=some r):∃ b,x=.p (.bl b)/\(if b=true then some (.p (.bl true),h) else eb h)=some r:=by
 cases x with
 | p d =>
  cases d<;>simp only[BT.kOr] at e<;>try contradiction
  exact ⟨_,rfl,e⟩
 | r n=>exact cR e
 | k q=>exact cR e
 | c _ _=>exact cR e
 | x _=>exact cR e
 | o q=>exact cR e
theorem Bf (e:BT.AY ea eb x h=some r):∃ b,x=.p (.bl b)/\(if b=true then ea h else eb h)=some r:=by
 cases x with
 | p d =>
  cases d<;>simp only[BT.AY] at e<;>try contradiction
  exact ⟨_,rfl,e⟩
 | r n=>exact cR e
 | k q=>exact cR e
 | c _ _=>exact cR e
 | x _=>exact cR e
 | o q=>exact cR e
theorem uA (e:BT.AW x h=some r):∃ b,x=.p (.bl b)/\r=(.p (.bl (!b)),h):=by
 cases x with
 | p d =>
  cases d<;>simp only[BT.AW] at e<;>try contradiction
  cases e;exact ⟨_,rfl,rfl⟩
 | r n=>exact cR e
 | k q=>exact cR e
 | c _ _=>exact cR e
 | x _=>exact cR e
 | o q=>exact cR e
theorem Bg (e:BT.AV x h=some r):∃ i,x=.p (.int i)/\r=(.p (.int (-i)),h):=by
 cases x with
 | p d =>
  cases d<;>simp only[BT.AV] at e<;>try contradiction
  cases e;exact ⟨_,rfl,rfl⟩
 | r n=>exact cR e
 | k q=>exact cR e
 | c _ _=>exact cR e
 | x _=>exact cR e
 | o q=>exact cR e
theorem uB {X:Cx}{a b:BT.E} (σ:L2.St) (H:Hp) (Q:VK) (q:tD X F G (.and a b) σ H Q):CU (tD X F G a) (tD X F G b) σ H Q:=by
 refine pM (k:=fun s=>BT.AX (BT.ev F G b s)) (fun s h=>by simp only[BT.ev]) q fun m s h x z h' v H1 R S r e post=>?_
 obtain ⟨c,rfl,e2⟩:=uz e
 refine ⟨c,j9 r,?_⟩
 cases c with
 | true=>rw[if_pos rfl] at e2 ⊢;exact ⟨m,s,h,z,h',R,S,e2,post⟩
 | false=>rw[if_neg (by decide)] at e2 ⊢;cases e2;exact post.here R (.bl _)
theorem yF {X:Cx}{a b:BT.E} (σ:L2.St) (H:Hp) (Q:VK) (q:tD X F G (.or a b) σ H Q):GL (tD X F G a) (tD X F G b) σ H Q:=by
 refine pM (k:=fun s=>BT.kOr (BT.ev F G b s)) (fun s h=>by simp only[BT.ev]) q fun m s h x z h' v H1 R S r e post=>?_
 obtain ⟨c,rfl,e2⟩:=yE e
 refine ⟨c,j9 r,?_⟩
 cases c with
 | true=>rw[if_pos rfl] at e2 ⊢;cases e2;exact post.here R (.bl _)
 | false=>rw[if_neg (by decide)] at e2 ⊢;exact ⟨m,s,h,z,h',R,S,e2,post⟩
theorem uC (σ:L2.St) (H:Hp) (Q:Bool->Hp->Prop) (q:tDT X F G (.and a b) σ H Q):GJ (tDT X F G a) (tDT X F G b) σ H Q:=by
 obtain ⟨m,s,h,c,h',R,S,ee,post⟩:=q
 simp only[BT.ev] at ee
 obtain ⟨x,g,e1,e2⟩:=cT ee
 obtain ⟨d,rfl,e3⟩:=uz e2
 refine ⟨m,s,h,d,g,R,S,e1,fun H1 m1 x1 R1=>?_⟩
 cases d with
 | true=>rw[if_pos rfl] at e3 ⊢;exact ⟨m1,s,g,c,h',R1,S.ext x1,e3,fun H2 m2 x2 R2=>post H2 m2 (x1.trans x2) R2⟩
 | false=>rw[if_neg (by decide)] at e3 ⊢;cases e3;exact post H1 m1 x1 R1
theorem yG (σ:L2.St) (H:Hp) (Q:Bool->Hp->Prop) (q:tDT X F G (.or a b) σ H Q):tOr (tDT X F G a) (tDT X F G b) σ H Q:=by
 obtain ⟨m,s,h,c,h',R,S,ee,post⟩:=q
 simp only[BT.ev] at ee
 obtain ⟨x,g,e1,e2⟩:=cT ee
 obtain ⟨d,rfl,e3⟩:=yE e2
 refine ⟨m,s,h,d,g,R,S,e1,fun H1 m1 x1 R1=>?_⟩
 cases d with
 | true=>rw[if_pos rfl] at e3 ⊢;cases e3;exact post H1 m1 x1 R1
 | false=>rw[if_neg (by decide)] at e3 ⊢;exact ⟨m1,s,g,c,h',R1,S.ext x1,e3,fun H2 m2 x2 R2=>post H2 m2 (x1.trans x2) R2⟩
theorem Bh (σ:L2.St) (H:Hp) (Q:Bool->Hp->Prop) (q:tDT X F G (.not a) σ H Q):GK (tDT X F G a) σ H Q:=by
 obtain ⟨m,s,h,c,h',R,S,ee,post⟩:=q
 simp only[BT.ev] at ee
 obtain ⟨x,g,e1,e2⟩:=cT ee
 obtain ⟨d,rfl,e3⟩:=uA e2
 cases e3
 exact ⟨m,s,h,d,h',R,S,e1,fun H1 m1 x1 R1=>post H1 m1 x1 R1⟩
theorem Bj {X:Cx}{a:BT.E} (σ:L2.St) (H:Hp) (Q:VK) (q:tD X F G (.not a) σ H Q):CV (tD X F G a) σ H Q:=by
 refine pM (k:=fun s=>BT.AW) (fun s h=>by simp only[BT.ev]) q fun m s h x z h' v H1 R S r e post=>?_
 obtain ⟨c,rfl,e2⟩:=uA e
 cases e2
 exact ⟨c,j9 r,post.here R (.bl _)⟩
theorem EY {X:Cx}{c a b:BT.E} (σ:L2.St) (H:Hp) (Q:VK) (q:tD X F G (.ite c a b) σ H Q):tIf (tDT X F G c) (tD X F G a) (tD X F G b) σ H Q:=by
 refine EX (k:=fun s t h=>if t=true then BT.ev F G a s h else BT.ev F G b s h) (kk:=fun s=>BT.AY (BT.ev F G a s) (BT.ev F G b s)) (fun s h=>by simp only[BT.ev]) (fun s x h r e=>Bf e) q fun m s h t z h' H1 R S e post=>?_
 cases t with
 | true=>rw[if_pos rfl] at e ⊢;exact ⟨m,s,h,z,h',R,S,e,post⟩
 | false=>rw[if_neg (by decide)] at e ⊢;exact ⟨m,s,h,z,h',R,S,e,post⟩
theorem EZ {X:Cx}{a:BT.E} (σ:L2.St) (H:Hp) (Q:VK) (q:tD X F G (.neg a) σ H Q):tUn (rU fun i=>.int (-i)) (tD X F G a) σ H Q:=by
 refine pM (k:=fun s=>BT.AV) (fun s h=>by simp only[BT.ev]) q fun m s h x z h' v H1 R S r e post=>?_
 obtain ⟨c,rfl,e2⟩:=Bg e
 cases e2
 cases r with | p r=>cases r;exact ⟨c,rfl,post.here R (.int _)⟩
theorem qW (σ:L2.St) (H:Hp) (Q:VK) (q:tD X F G (.chain o o' a b c) σ H Q) :
 rR (rOp X.prog X.w X.K (BT.jg o)) (rOp X.prog X.w X.K (BT.jg o')) (tD X F G a) (tD X F G b) (tD X F G c) σ H Q:=by
 obtain ⟨m,s,h,z,h',R,S,ee,post⟩:=q
 simp only[BT.ev] at ee
 obtain ⟨x,h1,e1,e2⟩:=cT ee
 simp only[BT.k2] at e2
 obtain ⟨y,h2,e3,e4⟩:=cT e2
 refine ⟨m,s,h,x,h1,R,S,e1,fun v H1 m1 x1 R1 r1=>?_⟩
 refine ⟨m1,s,h1,y,h2,R1,S.ext x1,e3,fun u H2 m2 x2 R2 r2=>?_⟩
 unfold BT.oCh at e4
 cases g1:BT.rd x h2 with
 | none=>rw[g1] at e4;exact cR e4
 | some d =>
  cases y with
  | r _=>rw[g1] at e4;exact cR e4
  | k _=>rw[g1] at e4;exact cR e4
  | c _ _=>rw[g1] at e4;exact cR e4
  | x _=>rw[g1] at e4;exact cR e4
  | o _=>rw[g1] at e4;exact cR e4
  | p d' =>
   rw[g1] at e4
   simp only at e4
   have ho:∀ (o:BT.Cm) (x':BT.W) (hh:BT.HH) dd,BT.rd x' hh=some dd->∀ y' dd',BT.rd y' hh=some dd'->BT.jg o x' y' hh=(BT.fG o dd dd').map fun z=>(.p (.bl z),hh):=by
    intro o x' hh dd q1 y' dd' q2
    unfold BT.jg
    cases y' with
    | p _=>simp only[q1,q2]
    | r _=>simp only[q1,q2]
    | k _=>exact cR q2
    | c _ _=>exact cR q2
    | x _=>exact cR q2
    | o _=>exact cR q2
   cases g3:BT.fG o d d' with
   | none=>rw[g3] at e4;exact cR e4
   | some t =>
    rw[g3] at e4
    refine ⟨m2,h2,x,.p d',.p (.bl t),h2,R2,r1.ext x2,r2,by rw[ho o x h2 d g1 (.p d') d' rfl,g3];rfl,fun v3 H3 m3 x3 R3 r3=>⟨t,j9 r3,?_⟩⟩
    cases t with
    | false =>
     rw[if_neg (by decide)]
     cases e4
     exact post _ H3 m3 ((x1.trans x2).trans x3) R3 (.p (.bl _))
    | true =>
     rw[if_pos rfl]
     obtain ⟨w3,h3,e5,e6⟩:=cT e4
     refine ⟨m3,s,h2,w3,h3,R3,((S.ext x1).ext x2).ext x3,e5,fun v4 H4 m4 x4 R4 r4=>?_⟩
     unfold BT.HU at e6
     cases g4:BT.rd w3 h3 with
     | none=>rw[g4] at e6;exact cR e6
     | some f =>
      rw[g4] at e6
      simp only at e6
      refine ⟨m4,h3,.p d',w3,z,h',R4,(r2.ext x3).ext x4,r4,by rw[ho o' (.p d') h3 d' rfl w3 f g4];exact e6,fun v5 H5 m5 x5 R5 r5=>post v5 H5 m5 ((((x1.trans x2).trans x3).trans x4).trans x5) R5 r5⟩
theorem E1 {lo:BT.Es} (hl:∀ σ H (Q:Option Int->Hp->Prop),(∃ m s h l zs h',RH X.K m H h/\RS X.prog X.w X.K m H σ s/\BT.evs F G lo s h=some (zs,h')/\(BT.dm zs).bind BT.o4=some l/\∀ H' m',Ext m H m' H'->RH X.K m' H' h'->Q l H')->tl σ H Q)
 (hh:∀ σ H (Q:Option Int->Hp->Prop),(∃ m s h l zs h',RH X.K m H h/\RS X.prog X.w X.K m H σ s/\BT.evs F G hi s h=some (zs,h')/\(BT.dm zs).bind BT.o4=some l/\∀ H' m',Ext m H m' H'->RH X.K m' H' h'->Q l H')->th σ H Q)
 (σ:L2.St) (H:Hp) (Q:VK) (q:tD X F G (.slc a lo hi) σ H Q):tSl (rSl X.prog X.w X.K) (tD X F G a) tl th σ H Q:=by
 obtain ⟨m,s,h,z,h',R,S,ee,post⟩:=q
 simp only[BT.ev] at ee
 obtain ⟨x,h1,e1,e2⟩:=cT ee
 simp only[BT.HX] at e2
 obtain ⟨ls,h2,e3,e4⟩:=cT e2
 simp only[BT.HW] at e4
 obtain ⟨us,h3,e5,e6⟩:=cT e4
 unfold BT.HV at e6
 cases g1:BT.rd x h3 with
 | none=>rw[g1] at e6;exact cR e6
 | some d =>
  cases g2:(BT.dm ls).bind BT.o4 with
  | none=>rw[g1,g2] at e6;exact cR e6
  | some l =>
   cases g3:(BT.dm us).bind BT.o4 with
   | none=>rw[g1,g2,g3] at e6;exact cR e6
   | some u =>
    rw[g1,g2,g3] at e6
    simp only at e6
    obtain ⟨b,e7,e8⟩:=cY e6
    cases e8
    refine ⟨m,s,h,x,h1,R,S,e1,fun v H1 m1 x1 R1 r1=>hl σ H1 _ ⟨m1,s,h1,l,ls,h2,R1,S.ext x1,e3,g2,fun H2 m2 x2 R2=>hh σ H2 _ ⟨m2,s,h2,u,us,h',R2,(S.ext x1).ext x2,e5,g3,fun H3 m3 x3 R3=>?_⟩⟩⟩
    exact ⟨m3,h',x,d,b,R3,(r1.ext x2).ext x3,g1,e7,fun v5 H5 m5 x5 R5 r5=>post v5 H5 m5 (((x1.trans x2).trans x3).trans x5) R5 r5⟩
end
section
theorem uD (hs:sp=spF X.prog X.w X.K (F (.f f))) (q:tD X F G (.call f as) σ H Q):xE sp [] E0 (tDs X F G as) σ H Q:=by
 subst hs
 refine jJ (k:=fun ws h=>F (.f f) ws h) (fun s h=>by simp only[BT.ev]) q fun m h xs z h' vs H1 R r e post=>?_
 rw[Oi]
 exact ⟨m,xs,h,z,h',R,r,e,post⟩
theorem iV (q:tDs X F G .nil σ H Q):xD σ H Q:=by
 obtain ⟨m,s,h,zs,h',R,S,ee,post⟩:=q
 simp only[BT.evs] at ee
 cases ee
 exact post [] H m (.refl _ _) R .nil
theorem yH (O:Ok X F G sc N) (hg:dQ sc f=true) (hn:ff f=true) (hc:CEs sc N as es) (ha:PA X es (tDs X F G as)) :
 PE X (.Call (.Name f p) es [] pos) (tD X F G (.call f as)):=by
 have hst:=gu hc
 intro pins s σ H Q I q
 have q0:=q
 obtain ⟨m,s',h,z,h',R,S,ee,post⟩:=q
 simp only[BT.ev] at ee
 obtain ⟨ws,h1,e1,e2⟩:=cT ee
 obtain ⟨fa,fd,ps,k,hm,hk,hb,hr,ok⟩:=O.call _ _ _ _ e2
 cases es with
 | nil =>
  cases as with
  | cons a r=>exact (mE hc).elim
  | nil=>exact (PE.weak (xH ok hr (dS O hg) hm hk hb .nil n5 (fS hn).1) (fun σ H Q z=>iV (uD (X:=X) rfl z))) pins s σ H Q I q0
 | cons e es =>
  simp only[cU,M6] at hst
  exact (PE.weak (AA ok hr (dS O hg) hm hk hb .nil n5 ha (fS hn).1 (cV hst.1) (dw hst.2)) (fun σ H Q z=>uD rfl z)) pins s σ H Q I q0
theorem kg {id:String} (pa:SN T) (slot:Slot T name id)
 (hty:typeOf (.builtin id)=pure (.type "method_descriptor")) (hm:MtR X id (rMe X.prog X.w X.K me)) (hb:dj oe=true) (hl:(apos.endLine==cpos.line)=true) (hlen:es.length < 20) (ho:PE X oe (tD X F G o)) (hc:CEs sc N as es) (ha:PA X es (tDs X F G as))
 (ty:∀ (m:List M9) (h h2:BT.HH) (H:Hp) (v:V) (x:BT.W) ws r,RH X.K m H h->RW X.prog X.w X.K m H v x->BT.nG x h=true->BT.meW me x ws h2=some r->(∃ σ s,RS X.prog X.w X.K m H σ s/\∃ h0,BT.ev F G o s h0=some (x,h))->tyV X.K T v H) :
 PE X (.Call (.Attribute oe name apos) es [] cpos) (tD X F G (.me me o as)):=by
 have hst:=gu hc
 have key:∀ σ H Q,tD X F G (.me me o as) σ H Q->tBM X.K T (rMe X.prog X.w X.K me) (tD X F G o) (tDs X F G as) σ H Q:=by
  intro σ H Q q
  obtain ⟨m,s,h,z,h',R,S,ee,post⟩:=q
  simp only[BT.ev] at ee
  obtain ⟨x,h1,e1,e2⟩:=cT ee
  obtain ⟨ok,e2⟩:=uy e2
  obtain ⟨ws,h2,e3,e4⟩:=cT e2
  refine ⟨m,s,h,x,h1,R,S,e1,fun v H1 m1 x1 R1 r1=>⟨ty m1 h1 h2 H1 v x ws _ R1 r1 ok e4 ⟨σ,s,S.ext x1,h,e1⟩,m1,s,h1,ws,h2,R1,S.ext x1,e3,fun vs H2 m2 x2 R2 r2=>?_⟩⟩
  exact ⟨m2,h2,x,ws,z,h',R2,r1.ext x2,r2,e4,fun v5 H5 m5 x5 R5 r5=>post v5 H5 m5 ((x1.trans x2).trans x5) R5 r5⟩
 cases es with
 | nil =>
  cases as with
  | cons a r=>exact (mE hc).elim
  | nil =>
   refine PE.weak (D7 pa slot hty hm ho (jI hb) hl) fun σ H Q q=>?_
   obtain ⟨m,s,h,z,h',R,S,ee,post⟩:=key σ H Q q
   exact ⟨m,s,h,z,h',R,S,ee,fun v H1 m1 x1 R1 r1=>⟨(post v H1 m1 x1 R1 r1).1,iV (post v H1 m1 x1 R1 r1).2⟩⟩
 | cons e es =>
  simp only[cU,M6] at hst
  refine PE.weak (C1 pa slot hty hm ho ha (jI hb) ?_ hl (cV hst.1) (dw hst.2)) key
  rw[iI (es:=e :: es) (by simp only[cU,M6];exact hst)]
  have h30:decide ((e :: es).length+([]:List PJ).length+(if ([]:List PJ).isEmpty then 0 else 1) < 30)=true:=decide_eq_true (by
   simp only[Ni,Px,Q2,if_true] at hlen ⊢;lia)
  rw[h30];rfl
theorem kJ (q:tD X F G (.bi b mu as) σ H Q):tCB (rBi X.prog X.w X.K b mu) (tDs X F G as) σ H Q:=by
 refine jJ (k:=fun ws h=>BT.kBi b mu ws h) (fun s h=>by simp only[BT.ev]) q fun m h xs z h' vs H1 R r e post=>?_
 exact ⟨m,h,xs,z,h',R,r,e,post⟩
theorem E2 (O:Ok X F G sc N) (hu:f6 N=true) (hb:Dd b mu x=true) (hg:dQ sc x=true) (hst:cU (e :: es)=true) (ha:PA X (e :: es) (tDs X F G as)) :
 PE X (.Call (.Name x p) (e :: es) [] pos) (tD X F G (.bi b mu as)):=by
 simp only[cU,M6] at hst
 have hx:yh b mu=some x:=eq_of_beq hb
 have hB:=O.blt
 cases b<;>cases mu<;>first | exact cR hx | (change some _=some _ at hx)
 all_goals (cases hx)
 ·exact PE.weak (gk ES (dS O hg) (hB _ (by decide)) PySem.boot_len ha (by decide) (by decide) (cV hst.1) (dw hst.2)) (fun σ H Q z=>kJ z)
 ·exact PE.weak (gk ET (dS O hg) (hB _ (by decide)) (by decide +kernel) ha (by decide) (by decide) (cV hst.1) (dw hst.2)) (fun σ H Q z=>kJ z)
 ·exact PE.weak (fO EU (dS O hg) (hB _ (by decide)) (by decide +kernel) ha (by decide) (by decide) (cV hst.1) (dw hst.2)) (fun σ H Q z=>kJ z)
 ·exact PE.weak (fO uw (dS O hg) (hB _ (by decide)) (by decide +kernel) ha (by decide) (by decide) (cV hst.1) (dw hst.2)) (fun σ H Q z=>kJ z)
 ·exact PE.weak (fO uw (dS O hg) (hB _ (by decide)) (by decide +kernel) ha (by decide) (by decide) (cV hst.1) (dw hst.2)) (fun σ H Q z=>kJ z)
 ·exact PE.weak (fO yw (dS O hg) (hB _ (by decide)) (by decide +kernel) ha (by decide) (by decide) (cV hst.1) (dw hst.2)) (fun σ H Q z=>kJ z)
theorem v9 (hb:qP b=some (c,f)):ef X (.builtin "isinstance") (fun vs H Q=>∃ v,vs=[v,.ty c]/\rBi X.prog X.w X.K b false [v] H Q):=by
 intro pins s σ H vs us Q I rus h
 obtain ⟨v,rfl,m,h,ws,z,h',R,rws,e,post⟩:=h
 obtain ⟨u,u2,rfl,ru,ru2⟩:=rus.two
 cases ru2
 obtain ⟨ds,d,e1,e2,⟨_,rfl,rfl⟩ | ⟨_,q,_⟩⟩:=jn e
 ·have rr:=fD R rws e1
  cases rr with
  | cons r t =>
   cases t
   rw[yy hb] at e2
   cases e2
   exact Bb I r ru (yz hb X.K _) fun tk=>⟨.bl _,H,I.tok tk,rfl,post.here R (.bl _)⟩
 ·exact BT.dN q
theorem yI (O:Ok X F G sc N) (hb:qP b=some (c,f)) (hg:dQ sc "isinstance"=true) (hg2:dQ sc (M4 c)=true) (hst:noStar e=true) (ha:PE X e (tD X F G a)) :
 PE X (.Call (.Name "isinstance" p) [e,.Name (M4 c) p2] [] pos) (tD X F G (.bi b false (.cons a .nil))):=by
 have hB:=O.blt
 have hc:PE X (.Name (M4 c) p2) (tC (.ty c)):=by
  cases b<;>simp only[qP] at hb<;>try contradiction
  all_goals (cases hb)
  ·exact jw (dS O hg2) (hB _ (by decide)) (u:=.type "int") (by decide +kernel) rfl (by decide) (by decide)
  ·exact jw (dS O hg2) (hB _ (by decide)) (u:=.type "bool") (by decide +kernel) rfl (by decide) (by decide)
  ·exact jw (dS O hg2) (hB _ (by decide)) (u:=.type "str") (by decide +kernel) rfl (by decide) (by decide)
  ·exact jw (dS O hg2) (hB _ (by decide)) (u:=.type "tuple") (by decide +kernel) rfl (by decide) (by decide)
  ·exact jw (dS O hg2) (hB _ (by decide)) (u:=.type "list") (by decide +kernel) rfl (by decide) (by decide)
 refine PE.weak (gk (v9 hb) (dS O hg) (hB _ (by decide)) (by decide +kernel) (gA ha (gA hc oU) (cV hst)) (by decide) (by decide) (cV hst) rfl) fun σ H Q q=>?_
 obtain ⟨m,s,h,z,h',R,S,ee,post⟩:=q
 simp only[BT.ev,BT.evs] at ee
 obtain ⟨ws,h1,e1,e2⟩:=cT ee
 obtain ⟨x,h2,e3,e4⟩:=cT e1
 simp only[BT.mw,BT.dh,BT.gF] at e4
 cases e4
 refine ⟨m,s,h,x,h1,R,S,e3,fun v H1 m1 x1 R1 r1=>?_⟩
 exact ⟨v,rfl,m1,h1,[x],z,h',R1,.cons r1 .nil,e2,fun v5 H5 m5 x5 R5 r5=>post v5 H5 m5 (x1.trans x5) R5 r5⟩
theorem E3 (σ:L2.St) (H:Hp) (Q:VK) (q:tD X F G (.tup as) σ H Q):G7 (tDs X F G as) σ H Q:=by
 refine jJ (k:=fun ws h=>BT.Em ws h) (fun s h=>by simp only[BT.ev]) q fun m h xs z h' vs H1 R r e post=>?_
 unfold BT.Em at e
 cases g:BT.dm xs with
 | none=>rw[g] at e;exact cR e
 | some ds =>
  rw[g] at e
  simp only at e
  obtain ⟨c,e⟩:=c6 e
  cases e
  have rd:=r.pure g
  have:=fh
  have hl:=rd.length
  exact ⟨by lia,fun p hp=>iQ R hp rd post⟩
theorem E4 (σ:L2.St) (H:Hp) (Q:VK) (q:tD X F G (.lst mu as) σ H Q):G8 (tDs X F G as) σ H Q:=by
 refine jJ (k:=fun ws h=>BT.En mu ws h) (fun s h=>by simp only[BT.ev]) q fun m h xs z h' vs H1 R r e post=>?_
 unfold BT.En at e
 cases g:BT.dm xs with
 | none=>rw[g] at e;exact cR e
 | some ds =>
  rw[g] at e
  simp only at e
  split at e
  ·rename_i c
   have rd:=r.pure g
   have:=fh
   have hl:=rd.length
   have ez:BT.new mu ds h=(z,h'):=Nc e
   exact ⟨by lia,fun p hp=>pF (mu:=mu) R hp rd (by rw[ez];exact post)⟩
  ·exact cR e
theorem cons_of (σ:L2.St) (H:Hp) (Q:List V->Hp->Prop) (q:tDs X F G (.cons a as) σ H Q):CY (tD X F G a) (tDs X F G as) σ H Q:=by
 obtain ⟨m,s,h,zs,h',R,S,ee,post⟩:=q
 simp only[BT.evs] at ee
 obtain ⟨x,h1,e1,e2⟩:=cT ee
 simp only[BT.mw] at e2
 obtain ⟨xs,h2,e3,e4⟩:=cT e2
 simp only[BT.gF] at e4
 cases e4
 exact ⟨m,s,h,x,h1,R,S,e1,fun v H1 m1 x1 R1 r1=>⟨m1,s,h1,xs,h',R1,S.ext x1,e3,fun vs H2 m2 x2 R2 r2=>post _ H2 m2 (x1.trans x2) R2 (.cons (r1.ext x2) r2)⟩⟩
end
section
variable {K:MV}
theorem RFs.get:∀ {vs:List (Str×V)}{fs:List (Str×BT.W)},RFs K m H vs fs->BT.gZ f fs=some x->∃ v,vs.lookup f=some v/\RA K m H v x
 | _,_,.nil,e=>by exact cR e
 | _,_,.cons (f:=g) r t,e=>by
  rw[BT.n8] at e
  by_cases c:f=g
  ·rw[if_pos c] at e;cases e;subst c;exact ⟨_,by simp,r⟩
  ·rw[if_neg c] at e
   obtain ⟨v,h1,h2⟩:=RFs.get t e
   exact ⟨v,by rw[OB];rw[beq_false_of_ne c];exact h1,h2⟩
theorem RFs.none:∀ {vs:List (Str×V)}{fs:List (Str×BT.W)},RFs K m H vs fs->(BT.gZ f fs).isNone=true->vs.lookup f=none
 | _,_,.nil,_=>rfl
 | _,_,.cons (f:=g) r t,e=>by
  rw[BT.n8] at e
  by_cases c:f=g
  ·rw[if_pos c] at e;exact BT.dN e
  ·rw[if_neg c] at e
   rw[OB,beq_false_of_ne c]
   exact RFs.none t e
theorem RFs.put (q:RA K m H v x):∀ {vs:List (Str×V)}{fs:List (Str×BT.W)},RFs K m H vs fs->RFs K m H (L2.d8 f v vs) (BT.d8 f x fs)
 | _,_,.nil=>.cons q .nil
 | _,_,.cons (f:=g) r t=>by
  rw[L2.d8,BT.vR]
  by_cases c:f=g
  ·rw[if_pos c,if_pos c.symm];subst c;exact .cons q t
  ·rw[if_neg c,if_neg (Qe c)];exact .cons r (RFs.put q t)
theorem RFs.length:∀ {vs:List (Str×V)}{fs:List (Str×BT.W)},RFs K m H vs fs->vs.length=fs.length
 | _,_,.nil=>rfl
 | _,_,.cons _ t=>by rw[Ni,Ni,RFs.length t]
end
section
theorem Bk (e:BT.AZ f x h=some r):∃ n c fs w,x=.o n/\BT.oat h n=some (c,fs)/\BT.gZ f fs=some w/\r=(w,h):=by
 cases x with
 | o n =>
  rw[BT.Ep] at e
  cases g:BT.oat h n with
  | none=>rw[g] at e;exact cR e
  | some q =>
   obtain ⟨c,fs⟩:=q
   rw[g] at e
   obtain ⟨w,e1,e2⟩:=cY e
   exact ⟨n,c,fs,w,rfl,g,e1,e2.symm⟩
 | p d=>exact cR e
 | r n=>exact cR e
 | k q=>exact cR e
 | c _ _=>exact cR e
 | x _=>exact cR e
theorem Bl {sc:NY}{N:List Str} (hb:dj x=true) (hf:attrName f=true) (ha:PE X x (tD X F G a)):PE X (.Attribute x f p) (tD X F G (.fld a f)):=by
 refine PE.weak (DW ha (jI hb)) fun σ H Q q=>?_
 refine Dh (k:=BT.AZ f) (fun s h=>by simp only[BT.ev]) q fun m h x z h' v H1 R r e post=>?_
 obtain ⟨n,c,fs,w,rfl,e1,e2,e3⟩:=Bk e
 cases e3
 cases r with
 | o hn =>
  obtain ⟨C,dx,vs,h1,h2,h3⟩:=R.qT _ _ _ _ hn e1
  obtain ⟨u,l,ra⟩:=h3.get e2
  exact ⟨_,C,dx,vs,u,rfl,h1,h2.cls,h2.no f hf,l,post u H1 m (.refl _ _) R ra.rw⟩
theorem oq (hb:dj o=true) (hst:cU args=true) (hlen:args.length < 20) (hl:(apos.endLine==pos.line)=true) :
 eval (.Call (.Attribute o m apos) args [] pos) env=(do
  let ov ← eval o env
  RZ apos.atName
  let (f,first) ← Ql [ov] (R0 ov m (do return (← importBound o env).getD true))
  callWith pos f first (Po pos (NG args env)) (Q8 pos (PX [] env))):=by
 have hf:methodCallForm (args.length+([]:List PJ).length) (Po pos (NG args env)) (Q8 pos (PX [] env))=true:=by
  unfold methodCallForm
  have h30:decide (args.length+([]:List PJ).length+(if (Q8 pos (PX [] env)).isEmpty then 0 else 1) < 30)=true:=decide_eq_true (by
   show args.length+0+0 < 30
   lia)
  rw[h30,iI hst];rfl
 rw[arm_eval_Call,jI hb]
 unfold methodCall
 rw[hf]
 have hp:methodCallPos true o env apos pos=pure pos:=by
  unfold methodCallPos
  rw[hl];rfl
 rw[hp]
 rfl
theorem yJ (e:BT.xV F m ea x h=some r) :
 ∃ n c fs ws g,x=.o n/\BT.oat h n=some (c,fs)/\(BT.gZ m fs).isNone=true/\ea h=some (ws,g)/\F (.m c m) (.o n :: ws) g=some r:=by
 cases x with
 | o n =>
  rw[BT.A0] at e
  cases g:BT.oat h n with
  | none=>rw[g] at e;exact cR e
  | some q =>
   obtain ⟨c,fs⟩:=q
   rw[g] at e
   simp only at e
   split at e
   ·rename_i c1
    obtain ⟨ws,g2,e1,e2⟩:=cT e
    exact ⟨n,c,fs,ws,g2,rfl,g,c1,e1,e2⟩
   ·exact cR e
 | p d=>exact cR e
 | r n=>exact cR e
 | k q=>exact cR e
 | c _ _=>exact cR e
 | x _=>exact cR e
theorem yK (O:Ok X F G sc N) (hb:dj oe=true) (hl:(apos.endLine==cpos.line)=true) (hlen:es.length < 20) (ho:PE X oe (tD X F G o)) (hc:CEs sc N as es) (ha:PA X es (tDs X F G as)) :
 PE X (.Call (.Attribute oe m apos) es [] cpos) (tD X F G (.meth o m as)):=by
 have hst:=gu hc
 intro pins s σ H Q I q
 obtain ⟨m0,s',h,z,h',R,S,ee,post⟩:=q
 simp only[BT.ev] at ee
 obtain ⟨x,h1,e1,e2⟩:=cT ee
 obtain ⟨n,c,fs,ws,g,rfl,e3,e4,e5,e6⟩:=yJ e2
 obtain ⟨C,ga,fd,ps,k,hC,hM,hB,hR,ok⟩:=O.meth _ _ _ _ _ e6
 have key:xF C m (spF X.prog X.w X.K (F (.m c m))) [] E0 (tD X F G o) (tDs X F G as) σ H Q:=by
  refine ⟨m0,s',h,.o n,h1,R,S,e1,fun v H1 m1 x1 R1 r1=>?_⟩
  cases r1 with
  | @o a _ hn =>
   obtain ⟨C',dx,vs,q1,q2,q3⟩:=R1.qT _ _ _ _ hn e3
   cases q2.cn.inj hC.cn
   refine ⟨a,dx,vs,rfl,q1,q3.none e4,m1,s',h1,ws,g,R1,S.ext x1,e5,fun us H2 m2 x2 R2 r2=>?_⟩
   show spF X.prog X.w X.K (F (.m c m)) (V.ref a :: (us++[])) H2 Q E0
   rw[Oi]
   exact ⟨m2,.o n :: ws,g,z,h',R2,.cons (.o (x2.ix hn)) r2,e6,fun v5 H5 m5 x5 R5 r5=>post v5 H5 m5 ((x1.trans x2).trans x5) R5 r5⟩
 cases es with
 | nil =>
  cases as with
  | cons a r=>exact (mE hc).elim
  | nil =>
   refine xJ ho hC.cls hM ok hR hB .nil n5 (oq hb hst hlen hl) pins s σ H Q I ?_
   obtain ⟨m,s,h,z,h',R,S,ee,post⟩:=key
   refine ⟨m,s,h,z,h',R,S,ee,fun v H1 m1 x1 R1 r1=>?_⟩
   obtain ⟨a,dx,fs,q1,q2,q3,q4⟩:=post v H1 m1 x1 R1 r1
   exact ⟨a,dx,fs,q1,q2,q3,iV q4⟩
 | cons e es =>
  have hst':=hst
  simp only[cU,M6] at hst'
  exact AB ho hC.cls hM ok hR hB .nil n5 ha (cV hst'.1) (dw hst'.2) (oq hb hst hlen hl) pins s σ H Q I key
theorem yL (O:Ok X F G sc N) (hg:dQ sc c=true) (hn:ff c=true) (hc:CEs sc N as es) (ha:PA X es (tDs X F G as)) :
 PE X (.Call (.Name c p) es [] pos) (tD X F G (.make c as)):=by
 have hst:=gu hc
 intro pins s σ H Q I q
 obtain ⟨m0,s',h,z,h',R,S,ee,post⟩:=q
 simp only[BT.ev] at ee
 obtain ⟨ws,h1,e1,e2⟩:=cT ee
 rw[BT.xW] at e2
 obtain ⟨y,h2,e3,e4⟩:=cT e2
 have e5:y=.p .non/\(z,h')=(.o h1.length,h2):=by
  cases y with
  | p d=>cases d<;>simp[BT.um] at e4;exact ⟨rfl,by rw[e4.1,e4.2]⟩
  | r n=>exact cR e4
  | k q=>exact cR e4
  | c _ _=>exact cR e4
  | x _=>exact cR e4
  | o n=>exact cR e4
 obtain ⟨rfl,e5⟩:=e5
 cases e5
 obtain ⟨C,ga,fd,ps,k,hC,hmg,hM,hB,hR,ok⟩:=O.mkc _ _ _ _ e3
 have key:xG C (spF X.prog X.w X.K (F (.m c "__init__"))) [] E0 (tDs X F G as) σ H Q:=by
  refine ⟨m0,s',h,ws,h1,R,S,e1,fun us H1 m1 x1 R1 r1 x dx nx ndx ne=>?_⟩
  rw[Oi]
  have xa:Ext m1 H1 m1 (upd H1 dx (.own x)):=gH ndx
  have Ra:RH X.K m1 (upd H1 dx (.own x)) h1:=R1.new ndx
  have nx':upd H1 dx (.own x) x=none:=by rw[c5 (Qe ne)];exact nx
  have xb:Ext m1 (upd H1 dx (.own x)) (m1++[x]) (upd (upd H1 dx (.own x)) x (.ins C dx [])):=jE nx'
  have Rb:RH X.K (m1++[x]) (upd (upd H1 dx (.own x)) x (.ins C dx [])) (h1++[.o c []]):=Ra.IF nx' ⟨C,dx,[],dR,hC,.nil⟩
  have ix:(m1++[x])[h1.length]?=some x:=by rw[← R1.len];simp
  refine ⟨m1++[x],.o h1.length :: ws,h1++[.o c []],.p .non,h',Rb,.cons (.o ix) (r1.ext (xa.trans xb)),e3,fun v H2 m2 x2 R2 r2=>?_⟩
  cases r2 with
  | p r2 =>
   cases r2
   exact ⟨rfl,post _ H2 m2 (((x1.trans xa).trans xb).trans x2) R2 (.o (x2.ix ix))⟩
 cases es with
 | nil =>
  cases as with
  | cons a r=>exact (mE hc).elim
  | nil =>
   refine xK hM ok hR (dS O hg) hmg hB .nil n5 (fS hn).1 pins s σ H Q I ?_
   exact iV key
 | cons e es =>
  simp only[cU,M6] at hst
  exact AC hM ok hR (dS O hg) hmg hB .nil n5 ha (fS hn).1 (cV hst.1) (dw hst.2) pins s σ H Q I key
noncomputable def E5 (o:BT.Bin):TIp:=fun x y H Q=>∃ i j z,x=.int i/\y=.int j/\BT.lR o (.int i) (.int j)=some (.int z)/\Q (.int z) H
noncomputable def yM:BT.Bin->P8->Bool
 | .add,.Add=>true
 | .sub,.Sub=>true
 | .mul,.Mult=>true
 | _,_=>false
theorem uE (h:yM o op=true):PIp X op (E5 o):=by
 rintro pins s σ H x y u v Q I rx ry ⟨i,j,z,rfl,rfl,e,q⟩
 obtain ⟨t,rfl⟩:=(show ∃ t,u=QB i t from rx)
 obtain ⟨t',rfl⟩:=(show ∃ t',v=QB j t' from ry)
 cases o<;>cases op<;>cases h
 ·cases e;exact PyProof.Rows.iadd_int ⟨.int (i+j),H,I.tok _,⟨_,rfl⟩,q⟩
 ·cases e;exact PyProof.Rows.isub_int ⟨.int (i - j),H,I.tok _,⟨_,rfl⟩,q⟩
 ·rw[BT.qJ] at e
  obtain ⟨c,e⟩:=c6 e
  cases e
  have hc:Av i j:=by
   rcases ON _ _ ▸ c with c | c
   ·exact .inl (pH c)
   ·exact .inr (pH c)
  exact PyProof.Rows.imul_int ⟨.int (i*j),H,I.tok _,⟨_,rfl⟩,q⟩ hc.ok
theorem uF (h:BT.lR o d e=some z):∃ i j k,d=.int i/\e=.int j/\z=.int k:=by
 cases d with
 | int i =>
  cases e with
  | int j =>
   refine ⟨i,j,?_⟩
   cases o with
   | add=>exact ⟨_,rfl,rfl,(Nc h).symm⟩
   | sub=>exact ⟨_,rfl,rfl,(Nc h).symm⟩
   | mul =>
    rw[BT.qJ] at h
    split at h
    ·exact ⟨_,rfl,rfl,(Nc h).symm⟩
    ·exact cR h
   | _=>exact cR h
  | _=>cases o<;>exact cR h
 | _=>cases o<;>exact cR h
end
section
variable {K:MV}
end
theorem kh (r:cX vs us):∀ l:List Nat,cX (l.filterMap fun i=>vs[i]?) (l.filterMap fun i=>us[i]?)
 | []=>.nil
 | i :: l=>by
  rw[N8,N8]
  cases g:vs[i]? with
  | none =>
   have:us[i]?=none:=by
    have h:=r.length
    rw[RI] at g ⊢
    lia
   rw[this]
   exact kh r l
  | some d =>
   obtain ⟨v,e,q⟩:=r.get g
   rw[e]
   exact .cons q (kh r l)
noncomputable def qX (k:Int) (xs:List V):List V:=(SI (NS none none (some k) xs.length).1 (NS none none (some k) xs.length).2.1 (NS none none (some k) xs.length).2.2).filterMap fun i=>xs[i]?
section
theorem E6 (hk:k≠0) (he:PE X e te) (hs:PE X se (tC (.int k))) :
 PE X (.Subscript e (.Slice none none (some se) p2) pos) (fun σ H Q=>te σ H fun x H1=>∃ a xs,x=.ref a/\SqL X.K H1 a xs/\∀ p,H1 p=none->Q (.ref p) (upd H1 p (.lst (qX k xs)))):=by
 intro pins s σ H Q I h
 refine SJ (thn (he pins s σ H _ I h) fun v s1 zq=>?_)
 obtain ⟨x,H1,I1,r1,a,xs,ex,hx,q⟩:=zq
 subst ex
 cases r1
 refine wpAny_Slice ?_
 rw[Q6]
 refine wpAny_pure (wpAny_pure ?_)
 rw[SY]
 refine thn (hs pins s1 σ H1 (fun v H'=>v=.int k/\H'=H1) I1 ⟨rfl,rfl⟩) fun vs s3 zq=>?_
 obtain ⟨y,H3,I3,r3,hy,hh⟩:=zq
 subst hy hh
 obtain ⟨t,rfl⟩:=r3
 have I4:Inv X pins σ H3 { s3 with heap:=s3.heap.push { cls:=.type "slice",data:=.fields #[.none,.none,.int k t] } }:=I3.kept (t':=s3.toks) fun b ob q=>MY _ q
 obtain ⟨its,rv,p,hz⟩:=I4.list hx
 have hg:wpAny (Nv X.prog X.w) X.A (Qm (.ref a) (.ref s3.heap.objs.size)) (EP X pins σ Q) X.xe { s3 with heap:=s3.heap.push { cls:=.type "slice",data:=.fields #[.none,.none,.int k t] } }:=by
  have hlen:=rv.length
  refine SH p.isList (Qa ..) .none .none (.int k t) (by intro z;exact hk (Nc z)) ?_ (by rw[M3];lia)
  have hp:slicePick its.toArray none none (some k)=((SI (NS none none (some k) xs.length).1 (NS none none (some k) xs.length).2.1 (NS none none (some k) xs.length).2.2).filterMap fun i=>its[i]?).toArray:=by
   unfold slicePick
   rw[M3,← hlen]
   simp
  rw[hp]
  have hq:=kh rv (SI (NS none none (some k) xs.length).1 (NS none none (some k) xs.length).2.1 (NS none none (some k) xs.length).2.2)
  have hz':(qX k xs).length<=xs.length:=by
   have:=slicePick_size_le its.toArray none none (some k)
   rw[hp,M3,M3] at this
   have e:=hq.length
   unfold qX
   lia
  refine ⟨.ref (s3.heap.push { cls:=.type "slice",data:=.fields #[.none,.none,.int k t] }).objs.size,_,I4.laid (t':=s3.toks) (o:=.lst (qX k xs)) (fun b ob q=>MY _ q) (Nb _) ?_,rfl,q _ (I4.hok.fresh (Nb _))⟩
  exact ⟨by lia,_,0,hq,Nh _ rfl⟩
 show wpAny (Nv X.prog X.w) X.A (Q5 e (.Slice none none (some se) p2) (.ref a) (.ref s3.heap.objs.size)) (EP X pins σ Q) X.xe { s3 with heap:=s3.heap.push { cls:=.type "slice",data:=.fields #[.none,.none,.int k t] } }
 exact RU (ops:=[.ref a,.ref s3.heap.objs.size]) p.isList.typeIs slot_list_getitem.lookup hg (by with_unfolding_all rfl)
theorem uG (h:(A3 e).bind cInt=some k):∃ a b,e=.Constant (.int k) a b:=by
 cases e with
 | Constant c a b =>
  cases c with
  | int j=>cases h;exact ⟨a,b,rfl⟩
  | _=>exact absurd (show (none:Option Int)=some _ from h) (fun z=>nomatch z)
 | _=>exact absurd (show (none:Option Int)=some _ from h) (fun z=>nomatch z)
theorem yN (h:pB k e=true):(∃ a b,e=.Constant (.int k) a b/\0 < k)\/∃ j a b p,e=.UnaryOp .USub (.Constant (.int j) a b) p/\k=-j/\0 < j:=by
 unfold pB at h
 rw[ON,M6,M6,decide_eq_true_eq,decide_eq_true_eq] at h
 rcases h with ⟨h1,h2⟩ | ⟨h1,h2⟩
 ·obtain ⟨a,b,e1⟩:=uG (eq_of_beq h1)
  exact .inl ⟨a,b,e1,h2⟩
 ·have h1:=eq_of_beq h1
  cases e with
  | UnaryOp o e p =>
   by_cases c:o=.USub
   ·subst c
    have h3:(A3 e).bind cInt=some (-k):=h1
    obtain ⟨a,b,rfl⟩:=uG h3
    exact .inr ⟨-k,a,b,p,rfl,by lia,by lia⟩
   ·have:unE (.UnaryOp o e p)=none:=if_neg c
    rw[this] at h1
    exact cR h1
  | _=>exact absurd (show (none:Option Int)=some _ from h1) (fun z=>nomatch z)
theorem Bm (hk:pB k se=true) (ha:PE X x (tD X F G a)):PE X (.Subscript x (.Slice none none (some se) p2) p) (tD X F G (.stp mu k a)):=by
 have hs:k≠0/\PE X se (tC (.int k)):=by
  rcases yN hk with ⟨a,b,rfl,h⟩ | ⟨j,a,b,p,rfl,rfl,h⟩
  ·exact ⟨by lia,oQ⟩
  ·exact ⟨by lia,PE.weak (xo rQ oQ) fun σ H Q q=>⟨_,rfl,q⟩⟩
 refine PE.weak (E6 hs.1 ha hs.2) fun σ H Q q=>?_
 refine Dh (k:=BT.Eo mu k) (fun s h=>by simp only[BT.ev]) q fun m h x z h' v H1 R r e post=>?_
 unfold BT.Eo at e
 cases g:BT.rd x h with
 | none=>rw[g] at e;exact cR e
 | some d =>
  rw[g] at e
  cases d with
  | lst xs =>
   simp only at e
   have r1:=dG R r g
   obtain ⟨a,vs,rfl,hl,rr⟩:=r1.lst
   have ez:BT.new mu (BT.xU k xs) h=(z,h'):=Nc e
   refine ⟨a,vs,rfl,hl.sq,fun p hp=>pF (mu:=mu) R hp ?_ (by rw[ez];exact post)⟩
   unfold qX BT.xU
   rw[rr.length]
   exact RDs.pick rr _
  | _=>exact cR e
theorem yO {X:Cx}{b:BT.Bi}{g:Int->Int->Int} (hb:∀ ds d,BT.biD b ds=some d->∃ i j,ds=[.int i,.int j]/\d=.int (g i j)) {id:String} (hc:ef X (.builtin id) (fun xs H Q=>∃ i j,xs=[.int i,.int j]/\Q (.int (g i j)) H)):ef X (.builtin id) (rBi X.prog X.w X.K b false):=by
 intro pins s σ H vs us Q I rus h
 obtain ⟨m,h,ws,z,h',R,rws,e,post⟩:=h
 obtain ⟨ds,d,e1,e2,⟨_,rfl,rfl⟩ | ⟨_,q,_⟩⟩:=jn e
 ·have rr:=fD R rws e1
  obtain ⟨i,j,rfl,rfl⟩:=hb _ _ e2
  cases rr with
  | cons r t =>
   cases t with
   | cons r' t' =>
    cases t'
    cases r.int
    cases r'.int
    exact hc pins s σ H _ us Q I rus ⟨i,j,rfl,post.here R (.int _)⟩
 ·exact BT.dN q
theorem Bo {X:Cx}{sc:NY}{N:List Str} (O:Ok X F G sc N) (hu:f6 N=true) {b:BT.Bi}{as:BT.Es}{x:Str}{e:M7}{es:List M7}{p pos:Pos} (hb:yi b x=true) (hg:dQ sc x=true) (hst:cU (e :: es)=true) (ha:PA X (e :: es) (tDs X F G as)) :
 PE X (.Call (.Name x p) (e :: es) [] pos) (tD X F G (.bi b false as)):=by
 simp only[cU,M6] at hst
 have hB:=O.blt
 cases b<;>first | exact BT.dN hb | (replace hb:=eq_of_beq hb)
 ·subst hb
  refine PE.weak (gk (yO (b:=.min2) (g:=fun i j=>if j < i then j else i) (fun ds d h=>?_) (vE (O.calm hu))) (dS O hg) (hB _ (by decide +kernel)) (by decide +kernel) ha (by decide) (by decide) (cV hst.1) (dw hst.2)) (fun σ H Q z=>kJ z)
  match ds,h with
  | [.int i,.int j],h=>exact ⟨i,j,rfl,(Nc h).symm⟩
 ·subst hb
  refine PE.weak (gk (yO (b:=.max2) (g:=fun i j=>if j > i then j else i) (fun ds d h=>?_) (vD (O.calm hu))) (dS O hg) (hB _ (by decide +kernel)) (by decide +kernel) ha (by decide) (by decide) (cV hst.1) (dw hst.2)) (fun σ H Q z=>kJ z)
  match ds,h with
  | [.int i,.int j],h=>exact ⟨i,j,rfl,(Nc h).symm⟩
end
section
variable {K:MV}
noncomputable def nJ (H H':Hp):Prop:=(∀ a vs,Rd H a (.tup vs)->Rd H' a (.tup vs))/\∀ a vs,Rd H a (.lst vs)->Rd H' a (.lst vs)
mutual
theorem RD.tr (q:nJ H H'):∀ {v:V}{d:BT.D},RD K m H v d->RD K m H' v d
 | _,_,.non=>.non
 | _,_,.bl b=>.bl b
 | _,_,.int i=>.int i
 | _,_,.str y h=>.str y h
 | _,_,.tup h r=>.tup (h.elim (fun z=>.inl ⟨q.1 _ _ z.1,z.2⟩) .inr) (RDs.tr q r)
 | _,_,.lst h r=>.lst (h.elim (fun z=>.inl ⟨q.2 _ _ z.1,z.2⟩) .inr) (RDs.tr q r)
theorem RDs.tr (q:nJ H H'):∀ {vs:List V}{ds:List BT.D},RDs K m H vs ds->RDs K m H' vs ds
 | _,_,.nil=>.nil
 | _,_,.cons r t=>.cons (RD.tr q r) (RDs.tr q t)
end
theorem RA.tr (q:nJ H H') (r:RA K m H v x):RA K m H' v x:=by
 cases r with
 | p r=>exact .p (r.tr q)
 | r h=>exact .r h
 | o h=>exact .o h
theorem RFs.tr (q:nJ H H') (r:RFs K m H vs fs):RFs K m H' vs fs:=by
 induction r with
 | nil=>exact .nil
 | cons r t ih=>exact .cons (r.tr q) ih
theorem RCs.tr (q:nJ H H') (r:RCs K m H vs cs):RCs K m H' vs cs:=by
 induction r with
 | nil=>exact .nil
 | cons r t ih=>exact .cons (r.tr q) ih
theorem RWs.tr (q:nJ H H') (r:RWs P w K m H vs ws) (n:BT.noC ws=true):RWs P w K m H' vs ws:=by
 induction r with
 | nil=>exact .nil
 | cons r t ih =>
  cases r with
  | p r=>exact .cons (.p (r.tr q)) (ih n)
  | r h=>exact .cons (.r h) (ih n)
  | k _ _=>exact BT.dN n
  | kl _ _=>exact BT.dN n
  | o h=>exact .cons (.o h) (ih n)
  | c _ _=>exact BT.dN n
  | x _=>exact BT.dN n
  | g _ _=>exact BT.dN n
theorem RCs.ws (r:RCs K m H vs cs):RWs P w K m H vs (cs.map BT.Cp.w):=by
 induction r with
 | nil=>exact .nil
 | cons r t ih=>exact .cons r.rw ih
theorem RWs.app (r:RWs P w K m H vs ws) (t:RWs P w K m H us zs):RWs P w K m H (vs++us) (ws++zs):=by
 induction r with
 | nil=>exact t
 | cons r _ ih=>exact .cons r ih
theorem RKs.tr (q:nJ H H') (r:RKs K m H vs kvs):RKs K m H' vs kvs:=by
 induction r with
 | nil=>exact .nil
 | cons hk r t ih=>exact .cons (hk.tr q) (r.tr q) ih
theorem RH.tr (R:RH K m H h) (q:nJ H H') (k:∀ a∈m,H' a=H a) (tb:TB K H'):RH K m H' h:=by
 refine ⟨R.nd,R.len,fun i a c e1 e2=>?_,tb⟩
 have z:=R.cl i a c e1 e2
 have e:=k a (Np e1)
 cases c with
 | l xs=>obtain ⟨vs,h1,h2⟩:=z;exact ⟨vs,e.trans h1,h2.tr q⟩
 | o c fs=>obtain ⟨C,dx,vs,h1,h2,h3⟩:=z;exact ⟨C,dx,vs,e.trans h1,h2,h3.tr q⟩
 | d kvs=>obtain ⟨vs,h1,h2⟩:=z;exact ⟨vs,e.trans h1,h2.tr q⟩
 | z=>obtain ⟨ob,vs,h1⟩:=z;exact ⟨ob,vs,e.trans h1⟩
theorem Le.sq (q:Le H H'):nJ H H':=⟨fun a vs r=>r.elim (fun z=>.inl (q _ _ z)) fun ⟨o,z⟩=>.inr ⟨o,q _ _ z⟩,fun a vs r=>r.elim (fun z=>.inl (q _ _ z)) fun ⟨o,z⟩=>.inr ⟨o,q _ _ z⟩⟩
theorem RH.le (R:RH K m H h) (q:Le H H'):RH K m H' h:=R.tr q.sq (fun a ha=>by
 obtain ⟨o,e,_⟩:=R.mu ha
 rw[e];exact q _ _ e) (q.tb R.tb)
theorem iB.le (q:Le H H') (r:iB m H cl xs vs):iB m H' cl xs vs:=by
 induction r with
 | nil=>exact .nil
 | cons h1 h2 h3 r t ih=>exact .cons h1 ⟨q _ _ h2.1,h2.2⟩ h3 r ih
theorem jD.le (q:Le H H') (h:jD m H f L vs):jD m H' f L vs:=by
 obtain ⟨bt,ps,fs,pa,be,sc,cl,pm,ctv,c',oc,os,t,ql,h0,h1,h2,h3,h4,h5,h6,h7,h8,h9,h10⟩:=h
 exact ⟨bt,ps,fs,pa,be,sc,cl,pm,ctv,c',oc,os,t,ql,h0,h1,h2,h3,h4,h5,⟨q _ _ h6.1,h6.2⟩,⟨q _ _ h7.1,h7.2⟩,h8,h9,h10.le q⟩
theorem RW.le (q:Le H H') {v:V}{x:BT.W} (r:RW P w K m H v x):RW P w K m H' v x:=by
 cases r with
 | p r=>exact .p (r.tr q.sq)
 | r h=>exact .r h
 | k h r=>exact .k h r
 | kl h r=>exact .kl ⟨q _ _ h.1,h.2⟩ (r.tr q.sq)
 | o h=>exact .o h
 | c h r=>exact .c (h.le q) (r.tr q.sq)
 | x h n xt=>exact .x (q _ _ h) n xt
 | g h r=>exact .g h r
end
noncomputable def eY (cl:List (Str×M9)) (H:Hp):Prop:=∀ x c,cl.lookup x=some c->∃ o u,H c=some (.frz o (.own 0))/\o.data=.cell u
open Classical in
noncomputable def hid (cl:List (Str×M9)) (H:Hp):Hp:=fun b=>if ∃ x,cl.lookup x=some b then none else H b
open Classical in
noncomputable def ret (cl:List (Str×M9)) (H0 H:Hp):Hp:=fun b=>if ∃ x,cl.lookup x=some b then H0 b else H b
section
theorem yP (e:cl.lookup x=some b):hid cl H b=none:=if_pos ⟨x,e⟩
theorem iW (e:¬ ∃ x,cl.lookup x=some b):hid cl H b=H b:=if_neg e
theorem gv (e:H b=none):hid cl H b=none:=by
 unfold hid;split<;>first | rfl | exact e
theorem mG (e:cl.lookup x=some b):ret cl H H' b=H b:=if_pos ⟨x,e⟩
theorem fJ (e:¬ ∃ x,cl.lookup x=some b):ret cl H H' b=H' b:=if_neg e
theorem E7 (e:hid cl H b=some u):H b=some u/\¬ ∃ x,cl.lookup x=some b:=by
 unfold hid at e
 split at e
 ·exact BT.jd e
 ·rename_i c;exact ⟨e,c⟩
noncomputable def jK:HO->Bool
 | .frz o (.own _)=>match o.data with | .cell _=>true | _=>false
 | _=>false
theorem IR {o:HO} (z:ED o=true):jK o=false:=by
 cases o with
 | frz ob u=>cases u<;>first | rfl | exact BT.dN z
 | _=>first | rfl | exact BT.dN z
theorem eY.out (C:eY cl H) (e:H b=some u) (n:jK u=false):¬ ∃ x,cl.lookup x=some b:=fun ⟨x,q⟩=>by
 obtain ⟨o,v,h1,h2⟩:=C x b q
 rw[e] at h1;cases h1
 simp[jK,h2] at n
theorem eY.hid (C:eY cl H) (e:H b=some u) (n:jK u=false):BS.hid cl H b=some u:=by rw[iW (C.out e n)];exact e
theorem eY.sq (C:eY cl H):nJ H (BS.hid cl H):=⟨fun a vs r=>r.elim (fun z=>.inl (C.hid z rfl)) fun ⟨o,z⟩=>.inr ⟨o,C.hid z rfl⟩,fun a vs r=>r.elim (fun z=>.inl (C.hid z rfl)) fun ⟨o,z⟩=>.inr ⟨o,C.hid z rfl⟩⟩
theorem eY.tb (C:eY cl H) {K:MV} (t:TB K H):TB K (BS.hid cl H):=t.mono (fun P ps e=>C.hid e rfl) fun a o vs d e=>C.hid e (by simp[jK,d])
theorem eY.rh (C:eY cl H) {K:MV} (R:RH K m H h):RH K m (BS.hid cl H) h:=R.tr C.sq (fun a ha=>by
 obtain ⟨o,e,z⟩:=R.mu ha
 rw[e];exact C.hid e (IR z)) (C.tb R.tb)
theorem E8 (N:∀ x c,cl.lookup x=some c->H' c=none):Le H' (ret cl H H'):=fun a u e=>by
 rw[fJ (fun ⟨x,q⟩=>by rw[N x a q] at e;exact BT.jd e)];exact e
theorem eY.E9 (C:eY cl H) (N:∀ x c,cl.lookup x=some c->H' c=none) {K:MV} (x:Ext m (BS.hid cl H) m' H') (R:RH K m' H' h'):Ext m H m' (ret cl H H'):=by
 obtain ⟨e,hm,he⟩:=x.pre
 refine ⟨⟨e,hm,fun a ha=>?_⟩,fun a o h n t=>?_,fun a h=>?_,fun a ob vs h=>?_⟩
 ·have z:=he a ha
  have hne:¬ ∃ y,cl.lookup y=some a:=fun ⟨y,q⟩=>by
   obtain ⟨o,e1,_⟩:=R.mu (a:=a) (by rw[hm];exact ND _ ha)
   rw[N y a q] at e1;exact BT.jd e1
  rw[iW hne] at z;exact z
 ·by_cases c:∃ y,cl.lookup y=some a
  ·obtain ⟨y,q⟩:=c;rw[mG q];exact h
  ·rw[fJ c];exact x.keep a o (by rw[iW c];exact h) n t
 ·by_cases c:∃ y,cl.lookup y=some a
  ·obtain ⟨y,q⟩:=c;rw[mG q] at h;exact h
  ·rw[fJ c] at h;have z:=x.live a h;rw[iW c] at z;exact z
 ·by_cases c:∃ y,cl.lookup y=some a
  ·obtain ⟨y,q⟩:=c;rw[mG q];exact h
  ·rw[fJ c];exact x.frz a ob vs (by rw[iW c];exact h)
end
theorem iB.get (r:iB m H cl fs vs):∀ {i:Nat}{x:Str},fs[i]?=some x->∃ c o u v,cl.lookup x=some c/\Tr m H c o/\o.data=.cell (some u)/\vs[i]?=some v/\RelV v u:=by
 induction r with
 | nil=>intro i x e;simp at e
 | cons h1 h2 h3 r t ih =>
  intro i x e
  cases i with
  | zero=>simp at e;subst e;exact ⟨_,_,_,_,h1,h2,h3,rfl,r⟩
  | succ i=>simpa using ih (by simpa using e)
theorem iB.len (r:iB m H cl fs vs):vs.length=fs.length:=by
 induction r with
 | nil=>rfl
 | cons h1 h2 h3 r t ih=>simp[ih]
theorem iB.cells (r:iB m H cl fs vs) (hf:∀ x c,cl.lookup x=some c->x∈fs):eY cl H:=fun x c e=>by
 obtain ⟨i,hi⟩:=Ot (hf x c e)
 obtain ⟨c',o,u,v,h1,h2,h3,_⟩:=r.get hi
 rw[e] at h1;cases h1
 exact ⟨o,_,h2.1,h3⟩
theorem Bp (hp:LPa pa ps) (hl:us.length=ps.length):S7 (PySem.W.kla_fn name q pa be sc cl pm cdv ctv) ⟨us,[]⟩=pure (ps.zip us):=by
 cases hp with
 | one=>match us,hl with | [_],_=>rfl
 | two=>match us,hl with | [_,_],_=>rfl
theorem Fb (hp:LPa pa ps) (nd:ps.Nodup) (hl:us.length=ps.length) {i:Nat} (e:ps[i]?=some x):∃ u,us[i]?=some u/\(ps.zip us).reverse.lookup x=some u:=by
 cases hp with
 | one =>
  match us,hl,i,e with
  | [u],_,0,e=>simp at e;subst e;exact ⟨u,rfl,by simp⟩
  | [u],_,i+1,e=>simp at e
 | two =>
  match us,hl,i,e with
  | [u,v],_,0,e =>
   simp at e;subst e
   simp at nd
   exact ⟨u,rfl,by simp[OB,beq_false_of_ne nd]⟩
  | [u,v],_,1,e=>simp at e;subst e;exact ⟨v,rfl,by simp⟩
  | [u,v],_,i+2,e=>simp at e
structure LF (ps fs:List Str) (sc:NY):Prop where
 kd:sc.kind=.function
 co:sc.isCoroutine=false
 ge:sc.isGenerator=false
 cell:∀ y∈sc.names,y.2≠.cell
 loc:∀ x∈ps,sc.names.lookup x=some .local
 fre:∀ x∈fs,sc.names.lookup x=some .free/\(x,N5)∈sc.names
 all:∀ y∈sc.names,y.2=.free->y.1∈fs
 nd:(ps++fs).Nodup
theorem mH:∀ {l:List Str},jj l=true->l.Nodup
 | [],_=>RG
 | x :: r,h=>by
  simp only[jj,M6,Pa] at h
  refine List.nodup_cons.mpr ⟨fun z=>?_,mH h.2⟩
  have:=h.1
  simp[z] at this
theorem LM (h:qS ps fs sc=true):LF ps fs sc:=by
 simp only[qS,M6,Pa] at h
 obtain ⟨⟨⟨⟨⟨⟨⟨h1,h2⟩,h3⟩,h4⟩,h5⟩,h6⟩,h7⟩,h8⟩:=h
 rw[NQ] at h4 h5 h6 h7
 refine ⟨eq_of_beq h1,h2,h3,fun y hy e=>?_,fun x hx=>eq_of_beq (h5 x hx),fun x hx=>?_,fun y hy e=>?_,mH h8⟩
 ·have:=h4 y hy;rw[e] at this;exact BT.dN this
 ·have:=h6 x hx
  simp only[M6] at this
  exact ⟨eq_of_beq this.1,by simpa using this.2⟩
 ·have:=h7 y hy
  rw[e] at this
  simpa using this
noncomputable def yQ (P:Nk) (w:Nz) (K:MV) (mg:Str->Option MZ) (base:Heap) (N:List Str) (q:Str) (sc:NY) (cl:List (Str×M9)) (f c':M9) (A:NT) (outer:List Env) (s:M0) (H:Hp):Cx where
 prog:=P
 w:=w
 K:=K
 mg:=mg
 base:=base
 A:=A.deeper (Pv q sc s.heap.objs.size f (.ref c') cl)
 N:=N
 s₀:=s
 H₀:=hid cl H
 env:=Pv q sc s.heap.objs.size f (.ref c') cl
 outer:=outer
 stack:=Pv q sc s.heap.objs.size f (.ref c') cl :: outer
 ex:=[]
 calm:=true
 fn:=fun _=>false
 pn:=[]
 xe:=fun _ _=>False
theorem Bq (C:eY cl H) (ok:HOk P w H h) (k:∀ b o,h.get? b=some o->h1.get? b=some o):HOk P w (hid cl H) h1:=fun b u e=>by
 obtain ⟨e1,_⟩:=E7 e
 exact (ok b u e1).stay (fun c o _ q=>k c o q) (fun c q=>C.hid q rfl) fun c xs q=>C.hid q rfl
theorem Br {K:MV}
 (hp:LPa pa ps) (F:LF ps fs sc) (inj:∀ x y c,cl.lookup x=some c->cl.lookup y=some c->x=y) (hfs:∀ x c,cl.lookup x=some c->x∈fs) (cp:iB m H cl fs cvs) (hd:A.handled=none) (e0:oV P w K mg base A outer s H) (r:cX vs us) (hl:us.length=ps.length)
 (hns:h1.Ns s.heap.objs.size (fun y=>(ps.zip us).reverse.lookup y)) (hk1:∀ b o,s.heap.get? b=some o->h1.get? b=some o) :
 Inv (yQ P w K mg base (ps++fs) q sc cl f c' A outer s H) [] (vs.map some++cvs.map some) (hid cl H) { s with heap:=h1,toks:=tk }:=by
 have C:=cp.cells hfs
 have lv:vs.length=ps.length:=r.length.trans hl
 have lc:=cp.len
 have noA:∀ b:M9,b∉(yQ P w K mg base (ps++fs) q sc cl f c' A outer s H).ex:=fun b z=>absurd (show b∈([]:List M9) from z) (by simp)
 have cel:∀ x c,cl.lookup x=some c->∃ u,s.heap.IsCell c (some u):=fun x c e=>by
  obtain ⟨i,hi⟩:=Ot (hfs x c e)
  obtain ⟨c2,o,u,v,g1,g2,g3,_⟩:=cp.get hi
  rw[e] at g1;cases g1
  exact ⟨u,o,(e0.hok _ _ g2.1).1,g3⟩
 refine ⟨⟨e0.mod,F.kd,rfl,rfl,Nb _,inj,fun x hx=>?_,fun x c z=>absurd (show false=true from z) (by decide),fun _=>hd,Sj e0.frames,.inr ⟨rfl,rfl⟩,fun b z=>absurd z (noA b),fun b o e=>⟨(e0.bs b o e).1,gv (e0.bs b o e).2⟩,e0.bsz,fun b _ _=>noA b,fun b z=>absurd z (noA b),e0.ju,fun b hb=>gv (e0.frf b hb)⟩,
  rfl,e0.bare,Un.kept hk1,⟨_,hns,fun i x v g1 g2 g3=>?_⟩,fun x c e=>?_,gv (e0.hok.fresh (Nb _)),fun x c e=>yP e,fun p hp=>absurd (show p∈([]:List (M9×Obj)) from hp) (by simp),Bq C e0.hok hk1,?_⟩
 ·have hx:sc.names.lookup x=some .cell\/sc.names.lookup x=some .free:=hx
  rcases hx with hx | hx
  ·exact absurd rfl (F.cell _ (Og hx))
  ·obtain ⟨i,hi⟩:=Ot (F.all _ (Og hx) rfl)
   obtain ⟨c,_,_,_,g1,_⟩:=cp.get hi
   exact ⟨c,g1⟩
 ·have g1:(ps++fs)[i]?=some x:=g1
  by_cases c:i < ps.length
  ·rw[Nf c] at g1
   rw[Nf (by simpa [lv] using c),NK] at g2
   obtain ⟨u,g4,g5⟩:=Fb hp (F.nd.sublist (List.sublist_append_left _ _)) hl g1
   obtain ⟨v',g6,g7⟩:=Option.map_eq_some_iff.mp g2
   cases g7
   obtain ⟨u',g8,rv⟩:=r.get g6
   rw[g4] at g8;cases g8
   exact ⟨u,rv,.inl ⟨F.loc x (Np g1),g5⟩⟩
  ·rw[NC (by lia)] at g1
   rw[NC (by simp[lv];lia),NK] at g2
   simp only[Nd,lv] at g2
   obtain ⟨c2,o,u,v2,k1,k2,k3,k4,k5⟩:=cp.get g1
   rw[k4] at g2
   cases g2
   exact ⟨u,k5,.inr ⟨.inr (F.fre x (Np g1)).1,c2,k1,o,hk1 _ _ (e0.hok _ _ k2.1).1,k3⟩⟩
 ·obtain ⟨u,o,z1,z2⟩:=cel x c e
  exact ⟨some u,o,hk1 _ _ z1,z2⟩
 ·show _=(ps++fs).length
  simp[lv,lc]
section
end
section
open PySem.W PySem.Calls PySem.Builtin PySem.Builtin.ObjectAttr PySem.Builtin.Getset_descriptor
variable {E:MZ->M0->Prop}{K:MV}
end
section
end
section
variable {X:Cx}
theorem we (hu:X.A.units+150 < cLine):MtR X "list.index" (rMe X.prog X.w X.K .lindex):=by
 intro pins s σ H v vs v' us Q I rv rus h
 obtain ⟨m,h,x,ws,z,h',R,rx,rws,e,post⟩:=h
 cases x with
 | r n=>cases ws with
  | nil=>(first | exact cR e | simp[BT.meW] at e)
  | cons _ _=>(first | exact cR e | simp[BT.meW] at e)
 | k kvs=>(first | exact cR e | simp[BT.meW] at e)
 | c _ _=>(first | exact cR e | simp[BT.meW] at e)
 | x _=>(first | exact cR e | simp[BT.meW] at e)
 | o kvs=>(first | exact cR e | simp[BT.meW] at e)
 | p d =>
  rw[BT.su] at e
  cases g:BT.dm ws with
  | none=>rw[g] at e;exact cR e
  | some ds =>
   rw[g] at e
   obtain ⟨b,e1,e2⟩:=cY e
   cases e2
   have rds:=rws.pure g
   cases d<;>first | exact cR e1 | skip
   rename_i xs
   cases ds with
   | nil=>exact cR e1
   | cons d0 dr =>
    cases dr with
    | cons _ _=>exact cR e1
    | nil =>
     rw[BT.Ec] at e1
     split at e1
     ·rename_i c
      obtain ⟨j,e3,e4⟩:=cY e1
      subst e4
      obtain ⟨i,rfl,hi,h1,h2⟩:=jm e3
      cases rds with
      | cons r0 rn =>
       cases rn
       obtain ⟨u,rfl,ru⟩:=rus.one
       cases rx with
       | p rx =>
        obtain ⟨a,vt,rfl,ha,ra⟩:=RR.lst (.d rx)
        cases rv
        obtain ⟨zz,its,n,q1,_,ho⟩:=rdL I ha
        have sl:sizeLine=16777216:=QS
        have hl:=q1.length
        have hl2:=ra.length
        have hi':i < its.toArray.size:=by rw[M3];lia
        refine Os F.slot_list_index ⟨_,ho,rfl⟩ F.entry_list_index (F.args_list_index_2 _ _)
         (SeqAt.list_indexAt a its.toArray n none #[] u (eg s.heap (pd d0)) i hi' (by lia) ?_ ?_) ⟨ho,?_,?_⟩
        ·rw[show its.toArray[i]=its[i]'(by lia) by simp,iU I ra q1 i (by lia) hi];exact h1
        ·intro k hk hlt
         have hk':k < its.length:=by simpa using hk
         rw[show its.toArray[k]=its[k]'hk' by simp,iU I ra q1 k hk' (by lia)];exact h2 k (by lia) hlt
        ·intro y hy
         exact f7 hu I (.d r0) ru ra q1 c y (by simpa using hy)
        ·refine ⟨.int (((0+i:Nat):Nat):Int),H,I.tok _,⟨s.toks,?_⟩,post.here R (.int _)⟩
         simp
     ·exact cR e1
theorem yR (hu:X.A.units+150 < cLine):MtR X "list.count" (rMe X.prog X.w X.K .count):=by
 intro pins s σ H v vs v' us Q I rv rus h
 obtain ⟨m,h,x,ws,z,h',R,rx,rws,e,post⟩:=h
 cases x with
 | r n=>cases ws with
  | nil=>(first | exact cR e | simp[BT.meW] at e)
  | cons _ _=>(first | exact cR e | simp[BT.meW] at e)
 | k kvs=>(first | exact cR e | simp[BT.meW] at e)
 | c _ _=>(first | exact cR e | simp[BT.meW] at e)
 | x _=>(first | exact cR e | simp[BT.meW] at e)
 | o kvs=>(first | exact cR e | simp[BT.meW] at e)
 | p d =>
  rw[BT.vM] at e
  cases g:BT.dm ws with
  | none=>rw[g] at e;exact cR e
  | some ds =>
   rw[g] at e
   obtain ⟨b,e1,e2⟩:=cY e
   cases e2
   have rds:=rws.pure g
   cases d<;>first | exact cR e1 | skip
   rename_i xs
   cases ds with
   | nil=>exact cR e1
   | cons d0 dr =>
    cases dr with
    | cons _ _=>exact cR e1
    | nil =>
     rw[BT.Eb] at e1
     obtain ⟨c,e1⟩:=c6 e1
     cases e1
     cases rds with
     | cons r0 rn =>
      cases rn
      obtain ⟨u,rfl,ru⟩:=rus.one
      cases rx with
      | p rx =>
       obtain ⟨a,vt,rfl,ha,ra⟩:=RR.lst (.d rx)
       cases rv
       obtain ⟨zz,its,n,q1,_,ho⟩:=rdL I ha
       have hl:=q1.length
       have hl2:=ra.length
       have ec:its.countP (eg s.heap (pd d0))=xs.countP fun y=>BT.eqv y d0:=by
        have key:its.map (eg s.heap (pd d0))=xs.map fun y=>BT.eqv y d0:=by
         refine List.ext_getElem (by rw[Nd,Nd];lia) fun i h1 h2=>?_
         rw[Nd] at h1 h2
         rw[List.getElem_map,List.getElem_map]
         exact iU I ra q1 i h1 h2
        have cm:∀ {α:Type} (f:α->Bool) (l:List α),l.countP f=(l.map f).countP id:=fun f l=>by rw[List.countP_map];rfl
        rw[cm,cm (fun y=>BT.eqv y d0),key]
       refine Os F.slot_list_count ⟨_,ho,rfl⟩ F.entry_list_count (F.args_list_count_2 _ _) (SeqAt.list_countAt a its.toArray n none #[] u (eg s.heap (pd d0))) ⟨ho,?_,?_⟩
       ·intro y hy
        exact f7 hu I (.d r0) ru ra q1 c y (by simpa using hy)
       ·refine ⟨.int ((xs.countP fun y=>BT.eqv y d0:Nat):Int),H,I.tok _,⟨s.toks,?_⟩,post.here R (.int _)⟩
        rw[← ec]
end
structure nK (K:MV) (J:It) (m0:List M9) (H0:Hp) (ds:List BT.D) (C:BT.HH->Prop):Prop where
 go:∀ m H h (i:Nat),Ext m0 H0 m H->RH K m H h->C h->i < ds.length->J.go i H
 yld:∀ m H h (i:Nat) x H' d,Ext m0 H0 m H->RH K m H h->C h->ds[i]?=some d->J.yld i H x H'->Ext m H m H'/\Le H H'/\RD K m H' x d
 stop:∀ m H h,Ext m0 H0 m H->RH K m H h->C h->J.stop ds.length H
noncomputable def uH (sr:BT.Sr) (ws:List BT.W):Prop:=BT.jh ws=true\/(sr=.seq/\∃ q,ws=[.r q])
noncomputable def pN (ws:List BT.W) (ds:List BT.D) (h:BT.HH):Prop:=∀ q,ws=[.r q]->BT.lat h q=some ds
theorem uH.p (h:uH sr ws) (n:sr≠.seq):BT.jh ws=true:=h.resolve_right fun z=>n z.1
theorem mJ (a:BT.jh ws=true):pN ws ds h:=fun q e=>by subst e;exact BT.dN a
noncomputable def Itv (K:MV) (a:M9) (n:Nat):It :=
 ⟨fun i H=>i < n/\∃ xs,SqL K H a xs/\xs.length=n,fun i H x H'=>H'=H/\∀ xs,SqL K H a xs->xs[n - 1 - i]?=some x,fun i H=>i=n⟩
theorem yS {K:MV} (a it:M9) (n:Nat):Turn P w K tg (Itv K a n) [it] it (fun i h=>h.IsRevIter it a ((n:Int) - 1 - i)) where
 mem:=by simp
 obj:=fun i h st b hb=>by
  have e:b=it:=by simpa using hb
  subst e
  obtain ⟨o,e,c,d⟩:=st
  exact ⟨o,e,fun v z=>by rw[d] at z;cases z⟩
 keep:=fun i h h' st k=>st.at fun o e=>k it (by simp) o e
 item:=by
  intro X hP hw hK hc i pins s σ H E I hf st hg
  subst hP hw hK
  obtain ⟨hi,xs,hq,hx⟩:=hg
  obtain ⟨its,rv,p,hz⟩:=I.list hq
  have hl:=rv.length
  have hj:n - 1 - i < xs.length:=by lia
  obtain ⟨u,hu,ru⟩:=rv.get (Ng hj)
  obtain ⟨f0,f1,f2,f3,f4,f5⟩:=hf it (by simp)
  have ei:((n:Int) - 1 - (i:Int))=(((n - 1 - i:Nat)):Int):=by lia
  have st':s.heap.IsRevIter it a (((n - 1 - i:Nat)):Int):=by rw[← ei];exact st
  refine wpAny_pyNext_rev_item st' p.isList (x:=u) (by simpa using hu) fun h' st'' sb=>?_
  have I1:Inv X pins σ H { s with heap:=h' }:=I.turned (t':=s.toks) (fun b o hb e=>(sb.2 b hb).trans e) f0 f1 f3 f4 f5
  obtain ⟨o,e,c,d⟩:=id st''
  refine ⟨u,rfl,nT (s:={ s with heap:=h' }) e c d (by decide) ⟨_,H,I1,ru,⟨rfl,fun ys hy=>by rw[I.lK hy hq];exact Ng hj⟩,?_,fun b hb=>(hf b hb).1⟩⟩
  have e2:(((n - 1 - i:Nat)):Int) - 1=(n:Int) - 1 - ((i+1:Nat):Int):=by lia
  rw[e2] at st''
  exact st''
 done:=by
  intro X hP hw hK hc i pins s σ H E I hf st hg
  subst hP hw hK
  have hg:i=n:=hg
  subst hg
  obtain ⟨f0,f1,f2,f3,f4,f5⟩:=hf it (by simp)
  have e1:(i:Int) - 1 - (i:Int)=-1:=by lia
  have st':s.heap.IsRevIter it a (-1):=by rw[← e1];exact st
  exact wpAny_pyNext_rev_end (I.ok.hd hc) st' fun h' eb=>⟨rfl,I.turned (t':=s.toks) (fun b o hb e=>eb b o hb e) f0 f1 f3 f4 f5⟩
 self:=fun _ _ _ _ _ st h=>wpAny_pyIter_revIter st h
theorem Inv.uI {X:Cx}{pins:List (M9×Obj)}{σ:L2.St}{H H':Hp}{s:M0}{h':Heap}{fp:List M9}{tk:Nat} (I:Inv X pins σ H s) (hf:∀ b∈fp,nv X pins H b)
 (k:∀ b o,b∉fp->s.heap.get? b=some o->h'.get? b=some o) (hs:∀ b,b < s.heap.objs.size->H' b=H b) (hok:HOk X.prog X.w H' h'):Inv X pins σ H' { s with heap:=h',toks:=tk }:=by
 have hlt:∀ b u,H b=some u->H' b=some u:=fun b u e=>by rw[hs b (I.hok.lt e)];exact e
 refine I.step (g':=s.gens) (d':=s.drawn) (ch:=fp) (fun b hb=>?_) (fun b o _ _ hc e _=>k b o hc e) (fun b o _ _ hc e _=>⟨o.slots,k b o hc e⟩) (fun b o _ e n=>by rw[hs b (Na e)];exact n)
  (fun b o hc e=>⟨o,k b o hc e⟩) (fun b xs e=>hlt b _ e) (fun b o u e=>hlt b _ e) (fun b ps e=>⟨#[],by rw[hlt b _ e];simp⟩) (fun m hm=>?_) hok I.bare
 ·obtain ⟨_,f1,_,f3,f4,f5⟩:=hf b hb
  exact ⟨f3,f1,f4,f5⟩
 ·obtain ⟨o,es,ep,ho,r⟩:=hm
  exact ⟨o,es,ep,k _ o (fun z=>(hf _ z).2.1 rfl) ho,r⟩
inductive iD (X:Cx) (F:FT) (G:Str->Option BT.W) (sr:BT.Sr) (sa:BT.Es) (σ:L2.St) (H:Hp) (R:It->Hp->Prop):Prop where
 | mk (m:List M9) (s:BT.Sl) (h:BT.HH) (ws:List BT.W) (h':BT.HH) (ds:List BT.D) (RR:RH X.K m H h) (S:RS X.prog X.w X.K m H σ s) (e:BT.evs F G sa s h=some (ws,h')) (e2:(BT.rds ws h').bind (BT.fH sr)=some ds) (ha:uH sr ws)
  (p:∀ H' m' J,Ext m H m' H'->RH X.K m' H' h'->nK X.K J m' H' ds (pN ws ds)->R J H'):iD X F G sr sa σ H R
theorem PI.weak (h:PI X tg e t) (q:∀ σ H R,t' σ H R->t σ H R):PI X tg e t':=fun pins s σ H R I hw=>h pins s σ H R I (q _ _ _ hw)
section
theorem Bs {K:MV} (h:(Rd H0 a (.lst vs)/\a∉m0)\/KL K a vs) (r:RDs K m0 H0 vs ds):nK K (Itl K a) m0 H0 ds C:=by
 have k:∀ {m H},Ext m0 H0 m H->SqL K H a vs:=fun x=>LL.sq (h.elim (fun q=>.inl (Rd.ext x q.1 q.2).1) .inr)
 refine ⟨fun m H hh i x _ _ hi=>?_,fun m H hh i v H' d x RR _ hd y=>?_,fun m H _ x _ _=>⟨vs,k x,by rw[r.length];exact Nb _⟩⟩
 ·exact ⟨vs,_,k x,Ng (by rw[r.length];exact hi)⟩
 ·obtain ⟨rfl,y⟩:=y
  obtain ⟨u,h1,h2⟩:=(r.ext x).get hd
  have:=y vs (k x)
  rw[h1] at this
  cases this
  exact ⟨.refl _ _,fun _ _ e=>e,h2⟩
theorem Fc {K:MV} (h:(Rd H0 a (.tup vs)/\a∉m0)\/KT K a vs) (r:RDs K m0 H0 vs ds):nK K (Itt K a) m0 H0 ds C:=by
 have k:∀ {m H},Ext m0 H0 m H->SqT K H a vs:=fun x=>h.elim (fun q=>.inl (Rd.ext x q.1 q.2).1) fun ⟨o,its,n,q,_⟩=>.inr ⟨o,its,n,q⟩
 refine ⟨fun m H hh i x _ _ hi=>?_,fun m H hh i v H' d x RR _ hd y=>?_,fun m H _ x _ _=>⟨vs,k x,by rw[r.length];exact Nb _⟩⟩
 ·exact ⟨vs,_,k x,Ng (by rw[r.length];exact hi)⟩
 ·obtain ⟨rfl,y⟩:=y
  obtain ⟨u,h1,h2⟩:=(r.ext x).get hd
  have:=y vs (k x)
  rw[h1] at this
  cases this
  exact ⟨.refl _ _,fun _ _ e=>e,h2⟩
theorem Fd {K:MV} (h:(Rd H0 a (.lst vs)/\a∉m0)\/KL K a vs) (r:RDs K m0 H0 vs ds):nK K (Itv K a ds.length) m0 H0 ds.reverse C:=by
 have k:∀ {m H},Ext m0 H0 m H->SqL K H a vs:=fun x=>LL.sq (h.elim (fun q=>.inl (Rd.ext x q.1 q.2).1) .inr)
 refine ⟨fun m H hh i x _ _ hi=>?_,fun m H hh i v H' d x RR _ hd y=>?_,fun m H _ x _ _=>by show ds.reverse.length=ds.length;simp⟩
 ·exact ⟨by simpa using hi,vs,k x,r.length⟩
 ·obtain ⟨rfl,y⟩:=y
  have hi:i < ds.length:=by
   have:=getD_some hd
   simpa using this
  have hd':ds[ds.length - 1 - i]?=some d:=by
   rw[Sq hi] at hd
   exact hd
  obtain ⟨u,h1,h2⟩:=(r.ext x).get hd'
  have:=y vs (k x)
  rw[h1] at this
  cases this
  exact ⟨.refl _ _,fun _ _ e=>e,h2⟩
theorem Fe {K:MV} (lo:Int) (n:Nat):nK K (Itr lo n) m0 H0 (BT.upto lo n) C:=by
 have hl:(BT.upto lo n).length=n:=by simp[BT.upto]
 refine ⟨fun m H hh i x _ _ hi=>by rw[hl] at hi;exact hi,fun m H hh i v H' d x RR _ hd y=>?_,fun m H _ x _ _=>by rw[hl];exact Nb n⟩
 obtain ⟨rfl,rfl⟩:=y
 have:d=.int (lo+i):=by
  have hi:i < n:=by
   have:=getD_some hd
   rw[hl] at this
   exact this
  simp only[BT.upto,NK] at hd
  rw[Qw hi] at hd
  simpa using hd.symm
 subst this
 exact ⟨.refl _ _,fun _ _ e=>e,.int _⟩
theorem pO:∀ {ws:List BT.W},BT.jh ws=true->∃ ds:List BT.D,ws=ds.map BT.W.p:=by
 intro ws
 induction ws with
 | nil=>exact fun _=>⟨[],rfl⟩
 | cons w ws ih =>
  intro h
  cases w with
  | p d =>
   obtain ⟨ds,rfl⟩:=ih h
   exact ⟨d :: ds,rfl⟩
  | _=>exact BT.dN h
theorem pP (h:BT.HH) (ds:List BT.D):BT.rds (ds.map BT.W.p) h=some ds:=by
 induction ds with
 | nil=>rfl
 | cons d ds ih =>
  show (BT.rds (ds.map BT.W.p) h).map (d :: ·)=_
  rw[ih];rfl
theorem yT (hs:sr=.seq\/sr=.rev\/sr=.rng1) (e:(BT.rds ws h).bind (BT.fH sr)=some ds) (ha:BT.jh ws=true):∃ d,ws=[.p d]/\BT.fH sr [d]=some ds:=by
 obtain ⟨xs,rfl⟩:=pO ha
 rw[pP,NP] at e
 cases xs with
 | nil=>rcases hs with rfl | rfl | rfl<;>exact cR e
 | cons d xs =>
  cases xs with
  | nil=>exact ⟨d,rfl,e⟩
  | cons d2 xs=>rcases hs with rfl | rfl | rfl<;>cases d<;>exact cR e
theorem ly (e:BT.evs F G (.cons a .nil) s h=some (ws,h')):∃ w,ws=[w]/\BT.ev F G a s h=some (w,h'):=by
 simp only[BT.evs] at e
 obtain ⟨w,g,e1,e2⟩:=cT e
 simp only[BT.mw,BT.dh,BT.gF] at e2
 cases e2
 exact ⟨w,rfl,e1⟩
theorem Bt {K:MV} (hq:m0[q]?=some a):nK K (Itl K a) m0 H0 ds (pN [.r q] ds):=by
 have k:∀ {m H h},Ext m0 H0 m H->RH K m H h->pN [.r q] ds h->∃ vs,SqL K H a vs/\RDs K m H vs ds:=fun {m H h} x RR c=>by
  obtain ⟨e,rfl,_⟩:=x.pre
  have e1:(m0++e)[q]?=some a:=by rw[Nf (List.getElem?_eq_some_iff.mp hq).1];exact hq
  obtain ⟨vs,c1,c2⟩:=RR.cell q a ds e1 (c q rfl)
  exact ⟨vs,LL.sq (.inl (.inl c1)),c2⟩
 refine ⟨fun m H hh i x RR c hi=>?_,fun m H hh i v H' d x RR c hd y=>?_,fun m H hh x RR c=>?_⟩
 ·obtain ⟨vs,k1,k2⟩:=k x RR c
  exact ⟨vs,_,k1,Ng (by rw[k2.length];exact hi)⟩
 ·obtain ⟨vs,k1,k2⟩:=k x RR c
  obtain ⟨rfl,y⟩:=y
  obtain ⟨u,h1,h2⟩:=k2.get hd
  have:=y vs k1
  rw[h1] at this
  cases this
  exact ⟨.refl _ _,fun _ _ e=>e,h2⟩
 ·obtain ⟨vs,k1,k2⟩:=k x RR c
  exact ⟨vs,k1,by rw[k2.length];exact Nb _⟩
theorem Bu (he:PE X x (tD X F G a)):PI X tg x (iD X F G .seq (.cons a .nil)):=by
 intro pins s σ H R I q
 obtain ⟨m,s',h,ws,h',ds,RR,S,e,e2,ha,post⟩:=q
 rcases ha with ha | ⟨_,q,rfl⟩
 case inr =>
  obtain ⟨w,ew,e4⟩:=ly e
  cases ew
  have g:BT.lat h' q=some ds:=by
   simp only[BT.rds,BT.rd,O0] at e2
   cases g:BT.lat h' q with
   | none=>rw[g] at e2;exact cR e2
   | some xs=>rw[g] at e2;cases e2;rfl
  refine tX he pins s σ H R I ⟨m,s',h,_,h',RR,S,e4,fun v H1 m1 x1 R1 r1=>?_⟩
  cases r1 with
  | @r a n hn =>
   obtain ⟨vs,c1,c2⟩:=R1.cell q a ds hn g
   exact ⟨a,rfl,⟨vs,LL.sq (.inl (.inl c1))⟩,post H1 m1 _ x1 R1 (Bt hn)⟩
 obtain ⟨d,rfl,e3⟩:=yT (.inl rfl) e2 ha
 obtain ⟨w,ew,e4⟩:=ly e
 cases ew
 rw[BT.xT] at e3
 cases d<;>simp only[BT.o7] at e3<;>try contradiction
 ·cases e3
  refine DN he pins s σ H R I ⟨m,s',h,_,h',RR,S,e4,fun v H1 m1 x1 R1 r1=>?_⟩
  cases r1 with
  | p r1 =>
   cases r1 with
   | @tup a vs _ h r=>exact ⟨a,rfl,⟨vs,h.elim (fun q=>.inl q.1) fun ⟨o,its,n,q,_⟩=>.inr ⟨o,its,n,q⟩⟩,post H1 m1 _ x1 R1 (Fc h r)⟩
 ·cases e3
  refine tX he pins s σ H R I ⟨m,s',h,_,h',RR,S,e4,fun v H1 m1 x1 R1 r1=>?_⟩
  cases r1 with
  | p r1 =>
   cases r1 with
   | @lst a vs _ h r=>exact ⟨a,rfl,⟨vs,LL.sq (h.elim (fun q=>.inl q.1) .inr)⟩,post H1 m1 _ x1 R1 (Bs h r)⟩
theorem yU (O:Ok X F G sc N) (hg:dQ sc "range"=true) (hs:noStar e=true) (ha:PA X [e] (tDs X F G sa)):PI X tg (.Call (.Name "range" p) [e] [] pos) (iD X F G .rng1 sa):=by
 refine PI.weak (vB (dS O hg) (O.blt _ (by decide)) ha (cV hs)) fun σ H R q=>?_
 obtain ⟨m,s',h,ws,h',ds,RR,S,e,e2,ha,post⟩:=q
 obtain ⟨d,rfl,e3⟩:=yT (.inr (.inr rfl)) e2 (ha.p (fun z=>by cases z))
 refine ⟨m,s',h,_,h',RR,S,e,fun vs H1 m1 x1 R1 r1=>?_⟩
 obtain ⟨j,rfl⟩:∃ j:Int,d=.int j:=by
  cases d with
  | int j=>exact ⟨j,rfl⟩
  | _=>exact absurd (show (none:Option (List BT.D))=some _ from e3) (fun z=>nomatch z)
 rw[BT.vP] at e3
 obtain ⟨c,e3⟩:=c6 e3
 simp only[M6,decide_eq_true_eq] at c
 cases e3
 cases r1 with
 | cons r t =>
  cases t
  cases r with
  | p r =>
   cases r
   exact ⟨j,rfl,by lia,by lia,post H1 m1 _ x1 R1 (Fe 0 j.toNat)⟩
theorem Bv (O:Ok X F G sc N) (hg:dQ sc "reversed"=true) (hs:noStar e=true) (he:PE X e (tD X F G a)):PI X tg (.Call (.Name "reversed" p) [e] [] pos) (iD X F G .rev (.cons a .nil)):=by
 intro pins s σ H R I q
 obtain ⟨m,s',h,ws,h',ds,RR,S,e,e2,ha,post⟩:=q
 obtain ⟨d,rfl,e3⟩:=yT (.inr (.inl rfl)) e2 (ha.p (fun z=>by cases z))
 obtain ⟨w,ew,e4⟩:=ly e
 cases ew
 obtain ⟨xs,rfl⟩:∃ xs:List BT.D,d=.lst xs:=by
  cases d with
  | lst xs=>exact ⟨xs,rfl⟩
  | _=>exact absurd (show (none:Option (List BT.D))=some _ from e3) (fun z=>nomatch z)
 ·cases e3
  refine Call_ (jc (u:=.type "reversed") I (dS O hg) (O.blt _ (by decide)) (by decide +kernel) (Oc (thn (gA he oU (cV hs) pos pins s σ H (fun vs H1=>∃ a vt,vs=[.ref a]/\∃ m1,Ext m H m1 H1/\RH X.K m1 H1 h'/\((Rd H1 a (.lst vt)/\a∉m1)\/KL X.K a vt)/\RDs X.K m1 H1 vt xs) I ?_) fun us s1 ⟨vs,H1,I1,r1,q1⟩=>?_) (cV hs) rfl))
  ·refine ⟨m,s',h,_,h',RR,S,e4,fun v H1 m1 x1 R1 r1=>?_⟩
   cases r1 with
   | p r1 =>
    cases r1 with
    | @lst a vt _ hh r=>exact ⟨a,vt,rfl,m1,x1,R1,hh,r⟩
  ·obtain ⟨a,vt,rfl,m1,x1,R1,hh,r⟩:=q1
   obtain ⟨u,rfl,ru⟩:=vals1 r1
   cases ru
   obtain ⟨z,its,nn,rv,hl,ee⟩:=rdL I1 (hh.elim (fun q=>.inl q.1) .inr)
   have hL:s1.heap.IsList a its.toArray:=⟨_,ee,rfl,_,rfl⟩
   have hlen:=r.length
   refine call_reversed_list hL ?_
   have stt:({ s1 with heap:=s1.heap.push (revObj a ((its.toArray.size:Int) - 1)) }:M0).heap.IsRevIter s1.heap.objs.size a ((xs.length:Int) - 1 - ((0:Nat):Int)):=by
    refine ⟨_,Nh _ rfl,rfl,?_⟩
    show Data.fields #[.ref a,rawInt ((its.toArray.size:Int) - 1)]=_
    rw[M3,← hl,hlen]
    simp
   refine wpAny_pyIter_revIter stt ?_
   refine ⟨s1.heap.objs.size,[s1.heap.objs.size],_,_,H1,rfl,I1.kept (t':=s1.toks) fun b o e=>MY _ e,yS a _ xs.length,stt,fun b hb=>?_,post H1 m1 _ x1 R1 (Fd hh r)⟩
   have e:b=s1.heap.objs.size:=by simpa using hb
   subst e
   exact I1.rN (Nb _) (I1.hok.fresh (Nb _))
end
section
variable {K:MV}
end
section
variable {X:Cx}{F:FT}{G:Str->Option BT.W}
noncomputable def MM:V->V->V->Hp->(Hp->Prop)->Prop:=fun o i v H Q=>∃ p kvs k,o=.ref p/\i=kV k/\H p=some (.dK kvs)/\kvs.length < sizeLine/\Q (upd H p (.dK (putK kvs k v)))
end
section
variable {E:MZ->M0->Prop}
end
section
variable {X:Cx}{F:FT}{G:Str->Option BT.W}
end
section
variable {X:Cx}{F:FT}{G:Str->Option BT.W}{K:MV}{m:List M9}{H:Hp}
end
section
variable {F:FT}{G:Str->Option BT.W}
end
section
variable {F:FT}{G:Str->Option BT.W}
end
section
variable {X:Cx}{F:FT}{G:Str->Option BT.W}
noncomputable def MtX (X:Cx) (id:String) (k:BT.Tx):Prop:=∀ (pins:List (M9×Obj)) (s:M0) (σ:L2.St) (H:Hp) (v:V) (vs:List V) (v':MZ) (us:List MZ) (Q:VK) (m:List M9) (h:BT.HH) (x:BT.W) (ws:List BT.W) (z:BT.W) (h':BT.HH),
 Inv X pins σ H s->RelV v v'->cX vs us->RH X.K m H h->RW X.prog X.w X.K m H v x->RWs X.prog X.w X.K m H vs ws->BT.kTx k (x :: ws) h=some (z,h')->Post X.prog X.w X.K m H z h' Q →
 wpAny (Nv X.prog X.w) X.A (call (.builtin id) (v' :: us)) (EP X pins σ Q) X.xe s
noncomputable def TyX (X:Cx) (T:String) (k:BT.Tx):Prop:=∀ (pins:List (M9×Obj)) (s:M0) (σ:L2.St) (H:Hp) (v:V) (v':MZ) (m:List M9) (x:BT.W) (ws:List BT.W) (h:BT.HH) (r:BT.W×BT.HH),
 Inv X pins σ H s->RelV v v'->RW X.prog X.w X.K m H v x->BT.kTx k (x :: ws) h=some r->s.TypeIs v' T/\∀ a,v'=.ref a->∃ ob,s.heap.get? a=some ob/\ob.dict=none
theorem pQ {k:BT.Tx}{T id:String}{name:Str}{o:BT.E}{as:BT.Es}{oe e:M7}{es:List M7}{apos cpos:Pos} (pa:SN T) (slot:Slot T name id) (hty:typeOf (.builtin id)=pure (.type "method_descriptor")) (ty:TyX X T k) (hm:MtX X id k)
 (hb:dj oe=true) (hl:(apos.endLine==cpos.line)=true) (hst:cU (e :: es)=true) (hlen:(e :: es).length < 20) (ho:PE X oe (tD X F G o)) (ha:PA X (e :: es) (tDs X F G as)):PE X (.Call (.Attribute oe name apos) (e :: es) [] cpos) (tD X F G (.tx k (.cons o as))):=by
 intro pins s σ H Q I q
 obtain ⟨m,sl,h,z,h',R,S,ee,post⟩:=q
 simp only[BT.ev,BT.evs] at ee
 obtain ⟨xs,h1,e1,e2⟩:=cT ee
 obtain ⟨x,h2,e3,e4⟩:=cT e1
 obtain ⟨ws,h3,e5,e6⟩:=cT e4
 simp only[BT.gF] at e6
 cases e6
 have hs2:noStar e=true/\cU es=true:=by simpa only[cU,M6] using hst
 have few:((Po cpos (NG (e :: es) X.env)).all (fun x=>!x.1)&&(Q8 cpos (PX [] X.env)).all (fun x=>x.1.isSome)
 &&decide ((e :: es).length+([]:List PJ).length+(if ([]:List PJ).isEmpty then 0 else 1) < 30))=true:=by
  rw[iI hst]
  have h30:decide ((e :: es).length+([]:List PJ).length+(if ([]:List PJ).isEmpty then 0 else 1) < 30)=true:=decide_eq_true (by
   simp only[Ni,Px,Q2,if_true] at hlen ⊢;lia)
  rw[h30];rfl
 refine wpAny_Call_method_late (jI hb) few hl rfl (thn (ho pins s σ H (fun v H1=>∃ m1,Ext m H m1 H1/\RH X.K m1 H1 h2/\RW X.prog X.w X.K m1 H1 v x) I ⟨m,sl,h,x,h2,R,S,e3,fun v H1 m1 x1 R1 r1=>⟨m1,x1,R1,r1⟩⟩) fun v s1 zq=>?_)
 obtain ⟨xv,H1,I1,r1,m1,x1,R1,w1⟩:=zq
 obtain ⟨t1,t2⟩:=ty pins s1 σ H1 xv v m1 x ws h1 _ I1 r1 w1 e2
 refine ⟨T,id,pa,slot,hty,t1,t2,?_⟩
 have hA:=ha cpos pins s1 σ H1 (fun vs H2=>∃ m2,Ext m1 H1 m2 H2/\RH X.K m2 H2 h1/\RWs X.prog X.w X.K m2 H2 vs ws) I1 ⟨m1,sl,h2,ws,h1,R1,S.ext x1,e5,fun vs H2 m2 x2 R2 r2=>⟨m2,x2,R2,r2⟩⟩
 rw[cV hs2.1] at hA ⊢
 refine Qd (by show (false||(Po cpos (NG es X.env)).any (·.1))=false;rw[dw hs2.2];rfl) (Sw ?_)
 refine thn hA fun us s2 zq=>?_
 obtain ⟨vs,H2,I2,r2,m2,x2,R2,w2⟩:=zq
 exact hm pins s2 σ H2 xv vs v us Q m2 h1 x ws z h' I2 r1 r2 R2 (w1.ext x2) w2 e2 fun v5 H5 m5 x5 R5 r5=>post v5 H5 m5 ((x1.trans x2).trans x5) R5 r5
theorem gK {k:BT.Tx}{ws:List BT.W}{h:BT.HH}{z:BT.W}{h':BT.HH} (hk:k≠.dget) (e:BT.kTx k ws h=some (z,h')):∃ ds d,BT.rds ws h=some ds/\BT.txD k ds=some d/\z=.p d/\h'=h:=by
 have e:((BT.rds ws h).bind fun ds=>(BT.txD k ds).map fun d=>(BT.W.p d,h))=some (z,h'):=by
  cases k with
  | dget=>exact absurd rfl hk
  | _=>exact e
 obtain ⟨ds,e1,e2⟩:=Option.bind_eq_some_iff.mp e
 obtain ⟨d,e3,e4⟩:=cY e2
 cases e4
 exact ⟨ds,d,e1,e3,rfl,rfl⟩
theorem yV {β:Type}{c:Prop} [Decidable c] {a:Option β}{b:β} (h:(if c then a else none)=some b):c/\a=some b:=by
 by_cases z:c
 ·rw[if_pos z] at h;exact ⟨z,h⟩
 ·rw[if_neg z] at h;exact cR h
theorem qY {ds:List BT.D}{d:BT.D} (e:BT.txD .join ds=some d):∃ x ys ts,ds=[.str x,.lst ys]/\BT.strsOf ys=some ts/\(ts.length<=1000/\x.length<=10/\∀ t∈ts,t.length<=1000)/\d=.str (M8 x ts):=by
 match ds,e with
 | [.str x,.lst ys],e =>
  obtain ⟨ts,e1,e2⟩:=Option.bind_eq_some_iff.mp (show ((BT.strsOf ys).bind fun ts=>if ts.length<=1000/\x.length<=10/\∀ t∈ts,t.length<=1000 then some (BT.D.str (M8 x ts)) else none)=some d from e)
  obtain ⟨c,e3⟩:=c6 e2
  exact ⟨x,ys,ts,rfl,e1,c,e3.symm⟩
theorem oz {ds:List BT.D}{d:BT.D} (e:BT.txD .split ds=some d):∃ x y,ds=[.str x,.str y]/\(y.length=1/\x.length<=BT.lim)/\d=.lst ((Txt.split x y).map .str):=by
 match ds,e with
 | [.str x,.str y],e =>
  obtain ⟨c,e3⟩:=c6 (show (if y.length=1/\x.length<=BT.lim then some (BT.D.lst ((Txt.split x y).map .str)) else none)=some d from e)
  exact ⟨x,y,rfl,c,e3.symm⟩
theorem kj {w:BT.W}{h:BT.HH}{x:Str} (e:BT.rd w h=some (.str x)):w=.p (.str x):=by
 cases w with
 | p d=>exact congrArg BT.W.p (Nc e)
 | r n=>obtain ⟨_,_,q⟩:=cY (show (BT.lat h n).map BT.D.lst=some (.str x) from e);cases q
 | _=>exact cR e
theorem fT {w:BT.W}{ws:List BT.W}{h:BT.HH}{ds:List BT.D} (e:BT.rds (w :: ws) h=some ds):∃ d r,ds=d :: r/\BT.rd w h=some d/\BT.rds ws h=some r:=by
 cases g:BT.rd w h with
 | none=>simp[BT.rds,g] at e
 | some d =>
  cases g2:BT.rds ws h with
  | none=>simp[BT.rds,g,g2] at e
  | some r=>simp[BT.rds,g,g2] at e;exact ⟨d,r,e.symm,rfl,rfl⟩
theorem Bw {K:MV}{m:List M9}{H:Hp}:∀ {vs:List V}{ys:List BT.D}{ts:List Str}{us:List MZ},RDs K m H vs ys->cX vs us->BT.strsOf ys=some ts->∃ l:List (Str×Tok),us=strValues l/\l.map (·.1)=ts/\∀ t∈ts,PyData.strOk t=true:=by
 intro vs
 induction vs with
 | nil =>
  intro ys ts us r rv e
  cases r
  cases rv
  cases e
  exact ⟨[],rfl,rfl,fun t ht=>absurd ht (by simp)⟩
 | cons v vs ih =>
  intro ys ts us r rv e
  cases r with
  | @cons _ d _ ys r t =>
   cases rv with
   | @cons _ u _ us ru tv =>
    cases d with
    | str x =>
     obtain ⟨ts',e1,e2⟩:=cY (show (BT.strsOf ys).map (x :: ·)=some ts from e)
     subst e2
     obtain ⟨l,q1,q2,q3⟩:=ih t tv e1
     cases r with
     | str _ ok =>
      obtain ⟨tk,rfl⟩:=ru
      refine ⟨(x,tk) :: l,by rw[q1];rfl,by simp[q2],fun y hy=>?_⟩
      rcases List.mem_cons.mp hy with rfl | hy
      ·exact ok
      ·exact q3 y hy
    | _=>exact cR e
theorem Bx (x:Str):∀ (ts:List Str),PyData.strOk x=true->(∀ t∈ts,PyData.strOk t=true)->PyData.strOk (M8 x ts)=true:=by
 have ap:∀ a b:Str,PyData.strOk a=true->PyData.strOk b=true->PyData.strOk (a++b)=true:=by
  intro a b ha hb
  unfold PyData.strOk at *
  show (a.cps++b.cps).all _=true
  rw[QZ,ha,hb];rfl
 intro ts hx
 induction ts with
 | nil=>intro _;unfold M8 PyData.strOk;simp[Str.empty]
 | cons t r ih =>
  intro h
  cases r with
  | nil=>exact h t M5
  | cons u r =>
   show PyData.strOk (t++x++M8 x (u :: r))=true
   exact ap _ _ (ap _ _ (h t M5) hx) (ih fun y hy=>h y (M1 _ hy))
theorem By {x:Str}{ts:List Str} (c:ts.length<=1000/\x.length<=10/\∀ t∈ts,t.length<=1000):JoinOk x ts=true:=by
 unfold JoinOk
 have:=StrLaws.joinFits (sep:=x) (texts:=ts) (B:=1000) c.2.2 (by
  have h1:=Nat.mul_le_mul c.1 (Nb 1000)
  have h2:=Nat.mul_le_mul c.1 c.2.1
  lia)
 rw[this];rfl
theorem ty_str {k:BT.Tx} (hk:k≠.dget) (h:∀ ds d,BT.txD k ds=some d->∃ x r,ds=.str x :: r):TyX X "str" k:=by
 intro pins s σ H v v' m x ws hh r I rv rw0 e
 obtain ⟨ds,d,e1,e2,_,_⟩:=gK hk e
 obtain ⟨y,r,rfl⟩:=h _ _ e2
 obtain ⟨d0,r0,q1,q2,_⟩:=fT e1
 cases q1
 have ew:=kj q2
 subst ew
 cases rw0 with
 | p r =>
  cases r with
  | str _ ok =>
   obtain ⟨t,rfl⟩:=rv
   exact ⟨typeIs_str s y t,fun _ e=>nomatch e⟩
theorem BA:MtX X "str.join" .join:=by
 intro pins s σ H v vs v' us Q m h x ws z h' I rv rus R w1 w2 e post
 obtain ⟨ds,d,e1,e2,rfl,rfl⟩:=gK (k:=.join) (fun q=>nomatch q) e
 obtain ⟨sx,ys,ts,rfl,e3,c,rfl⟩:=qY e2
 obtain ⟨d0,r0,q1,q2,q3⟩:=fT e1
 cases q1
 have ew:=kj q2
 subst ew
 have rr:=fD R w2 q3
 obtain ⟨v2,rfl,r⟩:=rr.one
 obtain ⟨a,vt,rfl,ha,ra⟩:=r.lst
 obtain ⟨u,rfl,ru⟩:=vals1 rus
 cases ru
 cases w1 with
 | p r1 =>
  cases r1 with
  | str _ ok =>
   obtain ⟨t,rfl⟩:=rv
   obtain ⟨its,q4,p,hz⟩:=I.list ha.sq
   obtain ⟨l,rfl,hl,hs⟩:=Bw ra q4 e3
   refine PySem.SC.join p.isList hl (By c) fun t' tk=>?_
   rw[show Txt.join sx ts=M8 sx ts from StrLaws.glued_eq_join sx ts]
   refine ⟨.str _,H,I.tok tk,⟨t',rfl⟩,?_⟩
   exact post.here R (.str _ (Bx sx ts ok hs))
theorem yW {a b:Str} (h:PyData.strOk (a++b)=true):PyData.strOk a=true/\PyData.strOk b=true:=by
 unfold PyData.strOk at *
 have h:(a.cps++b.cps).all _=true:=h
 rw[QZ,M6] at h
 exact h
theorem qZ (y:Str):∀ (ts:List Str),PyData.strOk (M8 y ts)=true->∀ t∈ts,PyData.strOk t=true
 | [],_,t,ht=>absurd ht (by simp)
 | [x],h,t,ht=>by
  have:t=x:=by simpa using ht
  subst this;exact h
 | x :: u :: r,h,t,ht=>by
  have h:PyData.strOk (x++y++M8 y (u :: r))=true:=h
  obtain ⟨h1,h2⟩:=yW h
  rcases List.mem_cons.mp ht with rfl | ht
  ·exact (yW h1).1
  ·exact qZ y (u :: r) h2 t ht
theorem oA {y:Str} (hy:y.length=1):∀ (ts:List Str),ts.length<=(M8 y ts).length+1
 | []=>Py _
 | [x]=>by simp
 | x :: u :: r=>by
  have ih:=oA hy (u :: r)
  have e:(M8 y (x :: u :: r)).length=x.length+y.length+(M8 y (u :: r)).length:=by
   show (x++y++M8 y (u :: r)).length=_
   rw[Pd,Pd]
  simp only[Ni] at ih ⊢
  lia
theorem mK {pins:List (M9×Obj)}{σ:L2.St}{H:Hp}{s:M0}{m:List M9}{h:BT.HH}{Q:VK}{l:List (Str×Tok)}{ts:List Str}{tk:Nat} (I:Inv X pins σ H s) (R:RH X.K m H h) (hl:l.map (·.1)=ts) (hs:∀ t∈ts,PyData.strOk t=true) (hn:ts.length<=200000) (post:Post X.prog X.w X.K m H (.p (.lst (ts.map .str))) h Q) :
 EP X pins σ Q (.ref s.heap.objs.size) { s with heap:=s.heap.push { cls:=.type "list",data:=.seq (strValues l).toArray },toks:=tk }:=by
 subst hl
 have rv:∀ l:List (Str×Tok),cX ((l.map (·.1)).map V.str) (strValues l):=by
  intro l
  induction l with
  | nil=>exact .nil
  | cons p l ih=>exact .cons ⟨p.2,rfl⟩ ih
 have rd:∀ l:List Str,(∀ t∈l,PyData.strOk t=true)->RDs X.K m H (l.map V.str) (l.map BT.D.str):=by
  intro l
  induction l with
  | nil=>intro _;exact .nil
  | cons t l ih=>intro h;exact .cons (.str t (h t M5)) (ih fun y hy=>h y (M1 _ hy))
 have sl:sizeLine=16777216:=QS
 have hr:=rv l
 rw[Nd] at hn
 refine ⟨.ref _,_,I.laid (a:=s.heap.objs.size) (o:=.lst ((l.map (·.1)).map V.str)) (t':=tk) (fun b u q=>MY _ q) (Nb _) ⟨by rw[Nd,Nd];lia,strValues l,0,hr,Nh _ rfl⟩,rfl,iR R (I.hok.fresh (Nb _)) (rd _ hs) post⟩
theorem yX:MtX X "str.split" .split:=by
 intro pins s σ H v vs v' us Q m h x ws z h' I rv rus R w1 w2 e post
 obtain ⟨ds,d,e1,e2,rfl,rfl⟩:=gK (k:=.split) (fun q=>nomatch q) e
 obtain ⟨sx,sy,rfl,c,rfl⟩:=oz e2
 obtain ⟨d0,r0,q1,q2,q3⟩:=fT e1
 cases q1
 have ew:=kj q2
 subst ew
 obtain ⟨d1,r1,q4,q5,q6⟩:=fT (w:=ws.headD (.p .non)) (ws:=ws.tail) (h:=h') (ds:=[BT.D.str sy]) (by
  cases ws with
  | nil=>cases q3
  | cons a b=>exact q3)
 cases ws with
 | nil=>cases q3
 | cons wy ws =>
  cases q4
  have ey:=kj q5
  have ey:wy=.p (.str sy):=ey
  subst ey
  cases w2 with
  | cons ry t2 =>
   have:ws=[]:=by
    cases ws with
    | nil=>rfl
    | cons a b =>
     obtain ⟨_,_,q7,_,_⟩:=fT (show BT.rds (a :: b) h'=some [] from q6)
     cases q7
   subst this
   cases t2
   obtain ⟨u,rfl,ru⟩:=vals1 rus
   cases w1 with
   | p rx =>
    cases rx with
    | str _ ok =>
     cases ry with
     | p ry =>
      cases ry with
      | str _ ok2 =>
       obtain ⟨t,rfl⟩:=rv
       obtain ⟨u,rfl⟩:=ru
       have hy:(sy.length==0)=false:=by rw[c.1];rfl
       have js:=Sn sx sy
       have hs:=qZ sy (Txt.split sx sy) (by rw[js];exact ok)
       have hm:=oA c.1 (Txt.split sx sy)
       rw[js] at hm
       have cl:sx.length<=100000:=c.2
       have hn:(Txt.split sx sy).length<=200000:=by lia
       have sl:sizeLine=16777216:=QS
       cases g1:(decide (sx.length < sy.length)||decide (Ru sx < Ru sy)) with
       | true =>
        have es:Txt.split sx sy=[sx]:=if_pos g1
        refine Os F.slot_str_split (typeIs_str _ _ _) F.entry_str_split (F.args_str_split_2 _ _) (meets_str_split_cannot_occur sx sy t u g1) ?_
        exact mK (l:=[(sx,t)]) (tk:=s.toks) I R (ts:=Txt.split sx sy) (by rw[es];rfl) hs hn post
       | false =>
        cases g2:(Ob sx sy 0 sx.length (sx.length+1)).isEmpty with
        | true =>
         have es:Txt.split sx sy=[sx]:=(if_neg (by rw[g1];exact NN)).trans (if_pos g2)
         refine Os F.slot_str_split (typeIs_str _ _ _) F.entry_str_split (F.args_str_split_2 _ _) (meets_str_split_not_found sx sy t u g1 hy g2) ?_
         exact mK (l:=[(sx,t)]) (tk:=s.toks) I R (ts:=Txt.split sx sy) (by rw[es];rfl) hs hn post
        | false =>
         have es:Txt.split sx sy=Builtin.Str.partsBetween sx (Ob sx sy 0 sx.length (sx.length+1)) sy.length:=(if_neg (by rw[g1];exact NN)).trans (if_neg (by rw[g2];exact NN))
         refine Os F.slot_str_split (typeIs_str _ _ _) F.entry_str_split (F.args_str_split_2 _ _) (meets_str_split_sep sx sy t u g1 hy g2 (by lia) (by rw[← es];lia)) ?_
         rw[← es,strsFrom_eq]
         exact mK (l:=numbered s.toks (Txt.split sx sy)) I R (ts:=Txt.split sx sy) (numbered_texts _ _) hs hn post
inductive rTx (P:Nk) (w:Nz) (K:MV) (k:BT.Tx) (vs:List V) (H:Hp) (Q:VK):Prop where
 | mk (m:List M9) (h:BT.HH) (ws:List BT.W) (z:BT.W) (h':BT.HH) (R:RH K m H h) (rs:RWs P w K m H vs ws) (e:BT.kTx k ws h=some (z,h')) (p:Post P w K m H z h' Q):rTx P w K k vs H Q
theorem yY {k:BT.Tx}{as:BT.Es}{σ:L2.St}{H:Hp}{Q:VK} (q:tD X F G (.tx k as) σ H Q):tCB (rTx X.prog X.w X.K k) (tDs X F G as) σ H Q:=by
 refine jJ (k:=fun ws h=>BT.kTx k ws h) (fun s h=>by simp only[BT.ev]) q fun m h xs z h' vs H1 R r e post=>?_
 exact ⟨m,h,xs,z,h',R,r,e,post⟩
theorem Ff (x:String):PyData.strOk (M4 x)=true:=by
 rw[Qg]
 unfold PyData.strOk
 rw[Array.all_eq_true]
 intro i hi
 rw[decide_eq_true_eq]
 have hc:∀ c:Char,c.toNat < 0x110000:=fun c=>by
  rcases c.valid with h | h
  ·exact Q0 h (by decide)
  ·exact h.2
 simpa using hc _
theorem Fg:ef X (.type "str") (rTx X.prog X.w X.K .str):=by
 intro pins s σ H vs us Q I rus h
 obtain ⟨m,h,ws,z,h',R,rws,e,post⟩:=h
 obtain ⟨ds,d,e1,e2,rfl,rfl⟩:=gK (k:=.str) (fun q=>nomatch q) e
 have rr:=fD R rws e1
 match ds,e2 with
 | [.int i],e2 =>
  obtain ⟨c,e3⟩:=c6 (show (if BT.big i=true then some (BT.D.str (toString i)) else none)=some d from e2)
  subst e3
  obtain ⟨v,rfl,r⟩:=rr.one
  cases r.int
  have hb:i.natAbs < 2 ^ 64:=of_decide_eq_true c
  refine oR pins s σ H _ us Q I rus ⟨i,rfl,?_,post.here R (.str _ (Ff _))⟩
  have:=Nat.log2_lt (n:=i.natAbs) (k:=64)
  by_cases z:i.natAbs=0
  ·rw[z];decide
  ·have:=(Nat.log2_lt z).mpr hb
   lia
 | [.str x],e2 =>
  cases e2
  obtain ⟨v,rfl,r⟩:=rr.one
  obtain ⟨rfl,ok⟩:=r.str
  obtain ⟨u,rfl,ru⟩:=vals1 rus
  obtain ⟨t,rfl⟩:=ru
  exact PySem.P.str_of_str ⟨.str x,H,I,⟨t,rfl⟩,post.here R (.str x ok)⟩
theorem Fi:ef X (.type "int") (rTx X.prog X.w X.K .intS):=by
 intro pins s σ H vs us Q I rus h
 obtain ⟨m,h,ws,z,h',R,rws,e,post⟩:=h
 obtain ⟨ds,d,e1,e2,rfl,rfl⟩:=gK (k:=.intS) (fun q=>nomatch q) e
 have rr:=fD R rws e1
 match ds,e2 with
 | [.str x],e2 =>
  obtain ⟨c,e3⟩:=yV (show (if x.length<=640 then (Qq x).map BT.D.int else none)=some d from e2)
  obtain ⟨n,e4,e5⟩:=cY e3
  subst e5
  obtain ⟨v,rfl,r⟩:=rr.one
  obtain ⟨rfl,ok⟩:=r.str
  obtain ⟨u,rfl,ru⟩:=vals1 rus
  obtain ⟨t,rfl⟩:=ru
  exact PySem.W.KIN.call_text e4 c ⟨.int n,H,I.tok _,⟨_,rfl⟩,post.here R (.int _)⟩
theorem yZ {K:MV}{m:List M9}{H:Hp}:∀ {vs:List V}{xs:List BT.D}{us:List MZ}{bs:List Bool},RDs K m H vs xs->cX vs us->BT.boolsOf xs=some bs->us=bs.map PY:=by
 intro vs
 induction vs with
 | nil=>intro xs us bs r rv e;cases r;cases rv;cases e;rfl
 | cons v vs ih =>
  intro xs us bs r rv e
  cases r with
  | @cons _ d _ xs r t =>
   cases rv with
   | @cons _ u _ us ru tv =>
    cases d with
    | bl b =>
     obtain ⟨bs',e1,e2⟩:=cY (show (BT.boolsOf xs).map (b :: ·)=some bs from e)
     subst e2
     rw[ih t tv e1]
     cases r
     cases ru
     rfl
    | _=>exact cR e
theorem Fj (hc:X.calm=true):ef X (.builtin "all") (rTx X.prog X.w X.K .all):=by
 intro pins s σ H vs us Q I rus h
 obtain ⟨m,h,ws,z,h',R,rws,e,post⟩:=h
 obtain ⟨ds,d,e1,e2,rfl,rfl⟩:=gK (k:=.all) (fun q=>nomatch q) e
 have rr:=fD R rws e1
 match ds,e2 with
 | [.lst xs],e2 =>
  obtain ⟨bs,e3,e4⟩:=cY (show (BT.boolsOf xs).map (fun bs=>BT.D.bl (bs.all id))=some d from e2)
  subst e4
  obtain ⟨v,rfl,r⟩:=rr.one
  obtain ⟨a,vt,rfl,ha,ra⟩:=r.lst
  obtain ⟨u,rfl,ru⟩:=vals1 rus
  cases ru
  obtain ⟨its,q4,p,hz⟩:=I.list ha.sq
  have ei:=yZ ra q4 e3
  subst ei
  have lt:a < s.heap.objs.size:=by
   obtain ⟨o,ho,_⟩:=p.isList
   exact Na ho
  have hh:X.A.in1.handled=none:=I.ok.hd hc
  refine call_all_walk (Rn p.isList ⟨s.heap.objs.size,[s.heap.objs.size,a],[s.heap.objs.size],_,_,_,fun i=>(bs[i]?).getD true,rfl,Walks.list hh s.heap.objs.size a (Nt lt) (bs.map PY).toArray,⟨⟨_,Nh _ rfl,rfl,rfl⟩,p.isList.at fun o e=>MY _ e⟩,?_,fun h' tk hk=>?_⟩)
  ·intro i v s' Q' E' hv hq
   have hv:((bs.map PY).toArray)[i]?=some v:=hv
   rw[So,NK] at hv
   obtain ⟨b,g1,g2⟩:=cY hv
   subst g2
   have hq:Q' ((bs[i]?).getD true) s':=hq
   rw[g1] at hq
   exact Oa hq
  ·have es:((OG (bs.map PY).toArray.size).all fun i=>(bs[i]?).getD true)=bs.all id:=by
    rw[M3,Nd,Bool.eq_iff_iff,NQ,NQ]
    constructor
    ·intro q b hb
     obtain ⟨i,hi,rfl⟩:=List.mem_iff_getElem.mp hb
     have:=q i (List.mem_range.mpr hi)
     rw[Ng hi] at this
     exact this
    ·intro q i hi
     rw[Ng (List.mem_range.mp hi)]
     exact q _ (List.getElem_mem _)
   rw[es]
   refine ⟨.bl _,H,I.kept (t':=tk) fun b o e=>hk b o ?_ (MY _ e),rfl,post.here R (.bl _)⟩
   have:=Na e
   simp
   exact Nt this
noncomputable def oTx (k:BT.Tx) (x y:BT.W) (h:BT.HH):Option (BT.W×BT.HH):=BT.kTx k [x,y] h
theorem y9 {k:BT.Tx}{a b:BT.E} (σ:L2.St) (H:Hp) (Q:VK) (q:tD X F G (.tx k (.cons a (.cons b .nil))) σ H Q):tOp (rOp X.prog X.w X.K (oTx k)) (tD X F G a) (tD X F G b) σ H Q:=by
 obtain ⟨m,s,h,z,h',R,S,ee,post⟩:=q
 simp only[BT.ev,BT.evs] at ee
 obtain ⟨xs,h1,e1,e2⟩:=cT ee
 obtain ⟨x,h2,e3,e4⟩:=cT e1
 obtain ⟨ws,h3,e5,e6⟩:=cT e4
 obtain ⟨y,h4,e7,e8⟩:=cT e5
 simp only[BT.mw,BT.dh,BT.gF] at e8
 cases e8
 simp only[BT.gF] at e6
 cases e6
 refine ⟨m,s,h,x,h2,R,S,e3,fun v H1 m1 x1 R1 r1=>?_⟩
 refine ⟨m1,s,h2,y,h1,R1,S.ext x1,e7,fun u H2 m2 x2 R2 r2=>?_⟩
 exact ⟨m2,h1,x,y,z,h',R2,r1.ext x2,r2,e2,fun w' H3 m3 x3 R3 r3=>post w' H3 m3 ((x1.trans x2).trans x3) R3 r3⟩
theorem BB {w1 w2:BT.W}{h:BT.HH}{ds:List BT.D}{x y:Str} (e:BT.rds [w1,w2] h=some ds) (q:ds=[.str x,.str y]):w1=.p (.str x)/\w2=.p (.str y):=by
 subst q
 obtain ⟨d0,r0,q1,q2,q3⟩:=fT e
 cases q1
 obtain ⟨d1,r1,q4,q5,q6⟩:=fT q3
 cases q4
 exact ⟨kj q2,kj q5⟩
theorem Fk {k:BT.Tx} (hk:k=.inS\/k=.ninS) {ds:List BT.D}{d:BT.D} (e:BT.txD k ds=some d):∃ x y,ds=[.str x,.str y]:=by
 rcases hk with rfl | rfl
 ·match ds,e with
  | [.str x,.str y],_=>exact ⟨x,y,rfl⟩
 ·match ds,e with
  | [.str x,.str y],_=>exact ⟨x,y,rfl⟩
theorem Di:OpR X (NV .In) (rOp X.prog X.w X.K (oTx .inS)):=by
 intro pins s σ H v u v' u' Q I rv ru h
 obtain ⟨m,h,x,y,z,h',R,rx,ry,e,post⟩:=h
 obtain ⟨ds,d,e1,e2,rfl,rfl⟩:=gK (k:=.inS) (fun q=>nomatch q) e
 obtain ⟨sx,sy,q⟩:=Fk (.inl rfl) e2
 obtain ⟨rfl,rfl⟩:=BB e1 q
 subst q
 cases e2
 cases rx with
 | p rx =>
  cases rx with
  | str _ ok =>
   cases ry with
   | p ry =>
    cases ry with
    | str _ ok2 =>
     obtain ⟨t,rfl⟩:=rv
     obtain ⟨t2,rfl⟩:=ru
     exact PySem.SB.contains ⟨.bl _,H,I,rfl,post.here R (.bl _)⟩
inductive Dj (X:Cx) (m:List M9) (H:Hp) (s:M0) (a:M9) (o:Option BT.D) (k:Key):Prop where
 | mk (vs:List (Key×MZ)) (dd:s.heap.DictOf (c9 X.prog X.w) a vs) (n:(a==OU)=false) (h:(o=none/\valueAt vs k=none)\/∃ x v u,o=some x/\valueAt vs k=some u/\RelV v u/\RD X.K m H v x):Dj X m H s a o k
theorem IS {K:MV}{m:List M9}{H:Hp}{vs:List (Key×MZ)}{k:Str}:∀ {es:List (Str×V)}{kvs:List (Str×BT.D)},RDk K es kvs->KV (es.map fun q=>((Sum.inr q.1:Key),q.2)) vs->(BT.dD k kvs=none/\valueAt vs (Sum.inr k)=none)\/∃ x v u,BT.dD k kvs=some x/\valueAt vs (Sum.inr k)=some u/\RelV v u/\RD K m H v x:=by
 intro es
 induction es generalizing vs with
 | nil =>
  intro kvs r q
  cases r
  cases q
  exact .inl ⟨rfl,rfl⟩
 | cons p es ih =>
  intro kvs r q
  cases r with
  | @cons x v dd _ kvs r t =>
   cases q with
   | @cons p z l1 l2 q1 q2 =>
    obtain ⟨z1,z2⟩:=z
    obtain ⟨q11,q12⟩:=q1
    simp only at q11 q12
    subst q11
    rw[BT.dD]
    by_cases c:k=x
    ·subst c
     rw[if_pos rfl]
     exact .inr ⟨dd,v,z2,rfl,by simp[valueAt],q12,r m H⟩
    ·rw[if_neg c]
     have ne:¬ ((Sum.inr x:Key)=Sum.inr k):=fun z=>c (Sum.inr.inj z).symm
     have:=ih t q2
     simp only[valueAt] at this ⊢
     rw[Qf (by simpa using ne)]
     exact this
noncomputable def kdG:BT.Kd->Str->Option BT.D
 | .t kvs,x=>BT.dD x kvs
 | .l kvs,x=>BT.eW kvs (.inr x)
theorem za {pins:List (M9×Obj)}{σ:L2.St}{H:Hp}{s:M0}{m:List M9}{q:BT.Kd}{v:V}{u:MZ} (I:Inv X pins σ H s) (r:RW X.prog X.w X.K m H v (.k q)) (rv:RelV v u) (x:Str) :
 ∃ a,u=.ref a/\Dj X m H s a (kdG q x) (.inr x):=by
 cases r with
 | @k a es kvs kd rk =>
  cases rv
  obtain ⟨hm,vs,kv,dd⟩:=kd
  exact ⟨a,rfl,vs,dd s.heap I.kIn,hm,IS rk kv⟩
 | @kl a ob ws kvs hh rk =>
  cases rv
  refine ⟨a,rfl,?_⟩
  cases sN I (.inr ⟨_,hh.1⟩) rk (.inr x) with
  | no vs dd n g1 g2=>exact ⟨vs,dd,n,.inl ⟨g1,g2⟩⟩
  | is vs dd n y v1 u1 g1 g2 g3 g4=>exact ⟨vs,dd,n,.inr ⟨y,v1,u1,g1,g2,g3,g4⟩⟩
theorem q8 {x:BT.W}{ws:List BT.W}{h:BT.HH}{z:BT.W}{h':BT.HH} (e:BT.kTx .dget (x :: ws) h=some (z,h')):∃ q y,x=.k q/\h'=h/\((ws=[.p (.str y)]/\z=.p ((kdG q y).getD .non))\/∃ d,ws=[.p (.str y),.p d]/\z=.p ((kdG q y).getD d)):=by
 have no:∀ (o:Option (List BT.D)),(o.bind fun ds=>(BT.txD .dget ds).map fun d=>(BT.W.p d,h))=some (z,h')->False:=by
  intro o e
  obtain ⟨ds,_,e2⟩:=Option.bind_eq_some_iff.mp e
  obtain ⟨d,e3,_⟩:=cY e2
  exact cR (P:=False) (show (none:Option BT.D)=some d from by rw[← e3];unfold BT.txD;rfl)
 cases x with
 | k q =>
  cases q with
  | t kvs =>
   have e:BT.x8 kvs ws h=some (z,h'):=e
   unfold BT.x8 at e
   split at e
   ·cases e;exact ⟨_,_,rfl,rfl,.inl ⟨rfl,rfl⟩⟩
   ·cases e;exact ⟨_,_,rfl,rfl,.inr ⟨_,rfl,rfl⟩⟩
   ·exact cR e
  | l kvs =>
   have e:BT.sF kvs ws h=some (z,h'):=e
   unfold BT.sF at e
   split at e
   ·cases e;exact ⟨_,_,rfl,rfl,.inl ⟨rfl,rfl⟩⟩
   ·cases e;exact ⟨_,_,rfl,rfl,.inr ⟨_,rfl,rfl⟩⟩
   ·exact cR e
 | p d=>exact (no (BT.rds (.p d :: ws) h) e).elim
 | r n=>exact (no (BT.rds (.r n :: ws) h) e).elim
 | o n=>exact (no (BT.rds (.o n :: ws) h) e).elim
 | c f cs=>exact (no (BT.rds (.c f cs :: ws) h) e).elim
 | x c=>exact (no (BT.rds (.x c :: ws) h) e).elim
theorem ty_dict:TyX X "dict" .dget:=by
 intro pins s σ H v v' m x ws hh r I rv rw0 e
 obtain ⟨z,h'⟩:=r
 obtain ⟨q,y,rfl,_,_⟩:=q8 e
 obtain ⟨a,rfl,vs,dd,n,_⟩:=za I rw0 rv y
 refine ⟨dd.typeIs,fun b eb=>?_⟩
 cases eb
 obtain ⟨o,es,ep,ho,hx,_⟩:=dd
 exact ⟨o,ho,hx.2.1⟩
theorem zb:MtX X "dict.get" .dget:=by
 intro pins s σ H v vs v' us Q m h x ws z h' I rv rus R w1 w2 e post
 obtain ⟨q,y,rfl,rfl,hz⟩:=q8 e
 obtain ⟨a,rfl,vs',dd,n,hg⟩:=za I w1 rv y
 rcases hz with ⟨rfl,rfl⟩ | ⟨d,rfl,rfl⟩
 ·cases w2 with
  | cons ry t =>
   cases t
   obtain ⟨u,rfl,ru⟩:=vals1 rus
   cases ry with
   | p ry =>
    cases ry with
    | str _ ok =>
     obtain ⟨t,rfl⟩:=ru
     refine call_meetsIn O9 dd.typeIs RC (PySem.F.args_dict_get_2 _ _) (meets_dict_get (c9 X.prog X.w) a (eV _ _ y t) n) ⟨_,dd.mapOf,?_⟩
     rcases hg with ⟨g1,g2⟩ | ⟨x,v1,u1,g1,g2,g3,g4⟩
     ·rw[g1] at post
      rw[g2]
      exact ⟨.non,H,I.tok _,rfl,post.here R .non⟩
     ·rw[g1] at post
      rw[g2]
      exact ⟨v1,H,I.tok _,g3,post.here R g4⟩
 ·cases w2 with
  | cons ry t =>
   cases t with
   | cons rd t =>
    cases t
    obtain ⟨u,u2,rfl,ru,ru2⟩:=rus.two
    cases ry with
    | p ry =>
     cases rd with
     | p rd =>
      cases ry with
      | str _ ok =>
       obtain ⟨t,rfl⟩:=ru
       refine call_meetsIn O9 dd.typeIs RC (PySem.F.args_dict_get_3 _ _ _) (meets_dict_get_default (c9 X.prog X.w) a (eV _ _ y t) n u2) ⟨_,dd.mapOf,?_⟩
       rcases hg with ⟨g1,g2⟩ | ⟨x,v1,u1,g1,g2,g3,g4⟩
       ·rw[g1] at post
        rw[g2]
        exact ⟨_,H,I.tok _,ru2,post.here R rd⟩
       ·rw[g1] at post
        rw[g2]
        exact ⟨v1,H,I.tok _,g3,post.here R g4⟩
end
section
end
section
variable {F:FT}{G:Str->Option BT.W}
end
end BS
end
section
namespace BX
open PySem PyProof.Rows
section
variable {prog:Nk}{w:Nz}{A:NT}{E:MZ->M0->Prop}{s:M0}{R:Result->M0->Prop}
end
section
variable {E:MZ->M0->Prop}
end
end BX
namespace BS
open PySem PySem.Spec PyProof.Rows L2
section
end
end BS
end
section
namespace BS
open PySem PySem.Spec PyProof.Rows L2
section
end
noncomputable def mL (sc:NY) (x:Str):Bool:=match sc.names.lookup x with
 | some .local=>true
 | some .cell=>true
 | _=>false
inductive CTs (sc:NY) (N:List Str):List (Nat×Str)->List M7->Prop where
 | nil:CTs sc N [] []
 | cons {i:Nat}{x:Str}{p:Pos}{tg:List (Nat×Str)}{es:List M7} (h1:N[i]?=some x) (h2:mL sc x=true) (r:CTs sc N tg es):CTs sc N ((i,x) :: tg) (.Name x p :: es)
inductive CT (sc:NY) (N:List Str):List (Nat×Str)->M7->Prop where
 | one {i:Nat}{x:Str}{p:Pos} (h1:N[i]?=some x) (h2:mL sc x=true):CT sc N [(i,x)] (.Name x p)
 | tup {tg:List (Nat×Str)}{es:List M7}{p:Pos}{k:Nat} (hl:Nat.ble 2 tg.length=true) (h:CTs sc N tg es):CT sc N tg (.Tuple es k p)
section
theorem RS.set {K:MV} (S:RS P w K m H σ s) (r:RW P w K m H v z):RS P w K m H (σ.set i (some v)) (s.set i (some z)):=by
 refine ⟨by simp[S.len],fun j y e=>?_⟩
 by_cases c:i=j
 ·subst c
  have hl:i < s.length:=by
   rcases N1 i s.length with q | q
   ·exact q
   ·rw[Nr (by simpa using q)] at e;exact cR e
  rw[Ol hl] at e
  cases e
  exact ⟨v,by rw[Ol (by rw[S.len];exact hl)],r⟩
 ·rw[OQ c] at e
  obtain ⟨u,h1,h2⟩:=S.get j y e
  exact ⟨u,by rw[OQ c];exact h1,h2⟩
theorem mO (O:Ok X F G sc N) (h:mL sc x=true):L2.Loc X.env.scope x:=by
 rw[O.hsc]
 unfold mL at h
 unfold L2.Loc
 cases e:sc.names.lookup x with
 | none=>rw[e] at h;exact BT.dN h
 | some k=>rw[e] at h;cases k<;>first | (exact .inl rfl) | (exact .inr rfl) | exact BT.dN h
theorem uJ (h:ji e=true):∀ x,foldedSetIterable e env x=pure x:=by
 intro x
 cases e<;>first | rfl | exact BT.dN h
noncomputable def GOk (X:Cx) (tg:List (Nat×Str)) (g:TG):Prop:=∀ (m:List M9) (H:Hp) (σ:L2.St) (s:BT.Sl) (x:V) (d:BT.D) (ds:List BT.D) (Q:L2.St->Hp->Prop),RS X.prog X.w X.K m H σ s->RD X.K m H x d->BT.target tg.length d=some ds →
 (∀ σ',RS X.prog X.w X.K m H σ' (BT.sets tg ds s)->Q σ' H)->g x σ H Q
noncomputable def LN (K:MV) (n:Nat) (t:TGs):TG:=fun v σ H Q=>∃ a xs,v=.ref a/\(SqT K H a xs\/LL K H a xs)/\xs.length=n/\t xs σ H Q
theorem Fo {X:Cx}{es:List M7}{k:Nat}{t:TGs}{n:Nat}{pos:Pos} (hc:X.calm=true) (h:PGs X es t) (hn:(OV es X.env).length=n) (hst:(OV es X.env).findIdx? (·.1)=none):PG X (.Tuple es k pos) (LN X.K n t):=by
 intro pins s σ H v u Q I r hw
 obtain ⟨a,xs,rfl,hq | hq,hl,hw⟩:=hw
 ·exact DK hc h hn hst pins s σ H _ u Q I r ⟨a,xs,rfl,hq,hl,hw⟩
 ·cases r
  obtain ⟨z,its,n2,rv,hz,e⟩:=rdL I hq
  rw[assign_Tuple]
  refine MW (Q3 ?_)
  unfold unpack
  rw[hn,hst]
  refine MW (Pc ?_)
  have sz:n=its.toArray.size:=by rw[M3,← hl];exact hz
  rw[sz]
  refine PySem.W.kun_itemsOf (I.ok.hd hc) ⟨_,e,rfl,_,rfl⟩ fun h' hx=>?_
  have I1:Inv X pins σ H { s with heap:=h' }:=I.kept (t':=s.toks) fun b o e=>hx b o (Nt (Na e)) e
  exact h pins _ σ H xs _ Q I1 (by simpa using rv) hw
inductive GsO (X:Cx) (tg:List (Nat×Str)) (es:List M7):Prop where
 | mk (gs:TGs) (h:PGs X es gs) (hn:(OV es X.env).length=tg.length) (hs:(OV es X.env).findIdx? (·.1)=none)
  (ok:∀ (m:List M9) (H:Hp) (σ:L2.St) (s:BT.Sl) (vs:List V) (ds:List BT.D) (Q:L2.St->Hp->Prop),RS X.prog X.w X.K m H σ s->RDs X.K m H vs ds->ds.length=tg.length->(∀ σ',RS X.prog X.w X.K m H σ' (BT.sets tg ds s)->Q σ' H)->gs vs σ H Q):GsO X tg es
theorem LP {X:Cx}{sc:NY}{N:List Str} (O:Ok X F G sc N) {tg:List (Nat×Str)}{es:List M7} (h:CTs sc N tg es) (hf:∀ q∈tg,X.fn q.2=true\/X.env.scope.names.lookup q.2=some .local):GsO X tg es:=by
 induction h with
 | nil =>
  refine ⟨GS,As,rfl,rfl,fun m H σ s vs ds Q S r hl q=>?_⟩
  cases r with
  | nil=>exact ⟨rfl,q _ S⟩
  | cons _ _=>cases hl
 | @cons i x p tg es h1 h2 r ih =>
  obtain ⟨gs,hg,hn,hs,ok⟩:=ih fun q hq=>hf q (M1 _ hq)
  refine ⟨_,w5 (tW (i:=i) O.nd (by rw[O.hN];exact h1) (mO O h2) (hf (i,x) (by simp))) hg,congrArg (·+1) hn,?_,fun m H σ s vs ds Q S r hl q=>?_⟩
  ·show ((false,Rz (.Name x p) X.env) :: OV es X.env).findIdx? (·.1)=none
   rw[List.findIdx?_cons]
   show (if false=true then _ else _)=_
   rw[if_neg (by decide),hs];rfl
  ·cases r with
   | nil=>cases hl
   | @cons v d vs ds ra t=>exact ⟨v,vs,rfl,ok m H (σ.set i (some v)) (s.set i (some (.p d))) vs ds Q (S.set (.p ra)) t (Nat.succ.inj hl) q⟩
theorem sCT (O:Ok X F G sc N) (hc:X.calm=true) (h:CT sc N tg te) (hf:∀ q∈tg,X.fn q.2=true\/X.env.scope.names.lookup q.2=some .local):∃ g,PG X te g/\GOk X tg g:=by
 cases h with
 | @one i x p h1 h2 =>
  refine ⟨_,tW (i:=i) O.nd (by rw[O.hN];exact h1) (mO O h2) (hf (i,x) (by simp)),?_⟩
  intro m H σ s v d ds Q S r e q
  simp only[Ni,Px,Nat.zero_add,BT.qO] at e
  cases e
  exact q _ (S.set (.p r))
 | @tup tg es p k hl h =>
  obtain ⟨gs,hg,hn,hs,ok⟩:=LP O h hf
  refine ⟨_,Fo (n:=tg.length) hc hg hn hs,?_⟩
  intro m H σ s v d ds Q S r e q
  have h2:=SD hl
  unfold BT.target at e
  rw[if_neg (by lia)] at e
  cases r with
  | @tup a vs dd h r =>
   rw[BT.qN] at e
   obtain ⟨c,e⟩:=c6 e
   subst e
   exact ⟨a,vs,rfl,.inl (h.elim (fun q=>.inl q.1) fun ⟨o,its,n,q,_⟩=>.inr ⟨o,its,n,q⟩),by rw[r.length];exact c,ok m H σ s vs _ Q S r c q⟩
  | @lst a vs dd h r =>
   rw[BT.qM] at e
   obtain ⟨c,e⟩:=c6 e
   subst e
   exact ⟨a,vs,rfl,.inr (h.elim (fun q=>.inl q.1) .inr),by rw[r.length];exact c,ok m H σ s vs _ Q S r c q⟩
  | _=>exact cR e
end
end BS
end
section
namespace BC
open PySem
section
theorem wg {target:M7} (I:Nat->M0->Prop)
 (turn:∀ n s,I n s->wpAny (Nv prog w) A (pyNext it) (fun r s₁=>match r with
  | none=>R (.ok .next) s₁
  | some v=>wpAny (Nv prog w) A (PV target it v) (fun _ s₀=>wpAny (Nv prog w) A (Rz target env v) (fun _ s₂ =>
   wpAny (Nv prog w) A (forIn ifs true fun c r=>if r=true then do let ok ← isTrue c env (eval c env);pure (P6 ok) else pure (P6 r)) (fun ok s₃ =>
    if ok=true then wpAny (Nv prog w) A (eval elt env) (fun x s₄ =>
     wpAny (Nv prog w) A (call (.builtin "list.append") [acc,x]) (fun _ s₅=>∃ m,m < n/\I m s₅) (fun _ _=>False) s₄) (fun _ _=>False) s₃
    else ∃ m,m < n/\I m s₃) (fun _ _=>False) s₂) (fun _ _=>False) s₀) (fun _ _=>False) s₁) (fun _ _=>False) s)
 (n:Nat) (h:I n s):codeAny (Nv prog w) A (.compLoop (.ListComp elt [⟨target,iter,ifs,0⟩] scope pos) 0 it acc env) R s:=by
 refine codeAny_loop rfl I (fun n s hI=>?_) n h
 show wpAny _ A ((compTurn (.ListComp elt [⟨target,iter,ifs,0⟩] scope pos) 0 it acc env).onRaise (fun x=>do noteFrame x env;theTreesLotGoes x)) _ _ s
 refine wpAny_noted ?_
 rw[compTurn_list]
 refine MW (Q3 (MW (OT (turn n s hI) (fun r s₁ h₁=>?_) fun _ _ h'=>h'.elim)))
 cases r with
 | none=>exact wpAny_pure h₁
 | some v =>
  refine MW (OT h₁ (fun _ s₀ h₀'=>?_) fun _ _ h'=>h'.elim)
  refine MW (OT h₀' (fun _ s₂ h₂=>MW (OT h₂ (fun ok s₃ h₃=>?_) fun _ _ h'=>h'.elim)) fun _ _ h'=>h'.elim)
  cases ok with
  | false=>exact wpAny_pure ⟨rfl,h₃⟩
  | true =>
   exact MW (MW (OT h₃ (fun x s₄ h₄=>MW (OT h₄ (fun _ s₅ h₅=>wpAny_pure (wpAny_pure ⟨rfl,h₅⟩)) fun _ _ h'=>h'.elim)) fun _ _ h'=>h'.elim))
end
noncomputable def gw (cells:List (Str×M9)):List (Str×Pf)->List (Str×M9)->List (Str×M9)
 | [],acc=>acc
 | (n,k) :: r,acc=>if k==.free then (match cells.lookup n with | some c=>gw cells r ((n,c) :: acc) | none=>gw cells r acc) else gw cells r acc
noncomputable def sO (cells:List (Str×M9)) (names:List (Str×Pf)):Prop:=∀ x∈names,x.2=.free->∃ c,cells.lookup x.1=some c
theorem mP:∀ (names:List (Str×Pf)) (acc:List (Str×M9)),sO env.cells names →
 (forIn names acc fun x (r:List (Str×M9))=>(if x.2==.free then do let c ← cellOf env x.1;pure (P6 ((x.1,c) :: r)) else pure (P6 r):Sem (ForInStep (List (Str×M9)))))=pure (gw env.cells names acc)
 | [],acc,_=>rfl
 | (n,k) :: r,acc,h=>by
  have ih:=fun acc=>mP (env:=env) r acc fun x hx=>h x (M1 _ hx)
  rw[Rj]
  by_cases c:k=.free
  ·subst c
   obtain ⟨a,e⟩:=h (n,.free) M5 rfl
   have e:env.cells.lookup n=some a:=e
   simp only[gw,e]
   show (cellOf env n >>= _) >>= _=_
   unfold cellOf
   rw[e]
   exact ih _
  ·have cb:(k==N5)=false:=by simpa using c
   simp only[gw,cb]
   exact ih _
theorem ko {α β:Type}{m m':Sem α}{f:α->Sem β} (h:m=m'):(m >>= f)=(m' >>= f):=by rw[h]
theorem sP {scope:NY}{env:Env} (h:sO env.cells scope.names):closureFor scope env=pure (gw env.cells scope.names []):=by
 have:=mP (env:=env) scope.names [] h
 unfold closureFor
 exact (ko this).trans rfl
theorem pR:∀ {names:List (Str×Pf)}{acc:List (Str×M9)},(∀ x c,acc.lookup x=some c->cells.lookup x=some c)->∀ x c,(gw cells names acc).lookup x=some c->cells.lookup x=some c
 | [],acc,h,x,c,e=>h x c e
 | (n,k) :: r,acc,h,x,c,e=>by
  rw[gw] at e
  split at e
  ·split at e
   ·rename_i a ea
    refine pR (fun y b q=>?_) x c e
    rw[OB] at q
    split at q
    ·rename_i hy
     have:y=n:=by simpa using hy
     subst this
     cases q;exact ea
    ·exact h y b q
   ·exact pR h x c e
  ·exact pR h x c e
theorem lA:∀ {names:List (Str×Pf)}{acc:List (Str×M9)},(∃ c,acc.lookup x=some c)->∃ c,(gw cells names acc).lookup x=some c
 | [],acc,h=>h
 | (n,k) :: r,acc,h=>by
  rw[gw]
  split
  ·split
   ·refine lA ?_
    rw[OB]
    split
    ·exact ⟨_,rfl⟩
    ·exact h
   ·exact lA h
  ·exact lA h
theorem pS:∀ {names:List (Str×Pf)}{acc:List (Str×M9)},(x,N5)∈names->(∃ c,cells.lookup x=some c)->∃ c,(gw cells names acc).lookup x=some c
 | [],acc,h,_=>nomatch h
 | (n,k) :: r,acc,h,q=>by
  rw[gw]
  rcases List.mem_cons.mp h with e | e
  ·cases e
   obtain ⟨c,ec⟩:=q
   rw[if_pos (by rfl),ec]
   refine lA ?_
   exact ⟨c,by simp⟩
  ·split
   ·split
    ·exact pS e q
    ·exact pS e q
   ·exact pS e q
end BC
end
section
namespace BS
open PySem PySem.Spec PyProof.Rows L2
noncomputable def mQ (F:FT) (G:Str->Option BT.W) (sc:NY) (N:List Str) (cond:BT.Es) (ifs:List M7):Prop :=
 (cond=.nil/\ifs=[])\/∃ c c',cond=.cons c .nil/\ifs=[c']/\∀ X',Ok X' F G sc N->PT X' c' (tDT X' F G c)
structure q9 (sc:NY) (N tg:List Str) (fv:List (Nat×Str)) (scope:NY):Prop where
 k1:scope.kind=.function
 k2:sc.kind=.function
 cell:∀ y∈scope.names,y.2≠.cell
 loc:∀ y∈scope.names,y.2=.local->scope.names.lookup y.1=some .local
 free:∀ y∈scope.names,y.2=.free->sc.names.lookup y.1=some .cell
 fvs:∀ q∈fv,N[q.1]?=some q.2/\(q.2,N5)∈scope.names/\sc.names.lookup q.2=some .cell/\(dP scope sc).names.lookup q.2=some .cell
 nd:(tg++fv.map (·.2)).Nodup
theorem oB:∀ {l:List Str},jj l=true->l.Nodup
 | [],_=>RG
 | x :: r,h=>by
  simp only[jj,M6,Pa] at h
  refine List.nodup_cons.mpr ⟨fun z=>?_,oB h.2⟩
  have:=h.1
  simp[z] at this
theorem IT (h:jk sc N tg fv scope=true):q9 sc N tg fv scope:=by
 simp only[jk,M6] at h
 obtain ⟨⟨⟨⟨⟨⟨h1,h2⟩,h3⟩,h4⟩,h5⟩,h6⟩,h7⟩:=h
 rw[NQ] at h3 h4 h5 h6
 refine ⟨eq_of_beq h1,eq_of_beq h2,fun y hy e=>?_,fun y hy e=>?_,fun y hy e=>?_,fun q hq=>?_,oB h7⟩
 ·have:=h3 y hy
  rw[e] at this;simp at this
 ·have:=h4 y hy
  rw[e] at this;simpa using this
 ·have:=h5 y hy
  rw[e] at this;simpa using this
 ·have:=h6 q hq
  simp only[M6] at this
  obtain ⟨⟨⟨a,b⟩,c⟩,d⟩:=this
  exact ⟨by simpa using a,by simpa using b,by simpa using c,by simpa using d⟩
theorem jo {sc:NY}{x:Str}{k:Pf} (hk:k=.cell\/k=.free):∀ {names:List (Str×Pf)},(∀ y∈names,y.2≠.cell) →
 (names.map fun (n,k)=>if (k==N5&&sc.kind==.function&&sc.names.lookup n==some .cell) then (n,Qt) else (n,k)).lookup x=some k->(x,N5)∈names
 | [],_,h=>by simp at h
 | (n,q) :: r,hc,h=>by
  have ih:=jo (sc:=sc) (x:=x) hk (names:=r) fun y hy=>hc y (M1 _ hy)
  replace h:OX x ((if (q==N5&&sc.kind==.function&&sc.names.lookup n==some .cell)=true then (n,Qt) else (n,q)) :: (r.map fun (n,k)=>if (k==N5&&sc.kind==.function&&sc.names.lookup n==some .cell) then (n,Qt) else (n,k)))=some k:=h
  have go:∀ (q':Pf),(q'=q\/(q'=.cell/\q=.free))->OX x ((n,q') :: (r.map fun (n,k)=>if (k==N5&&sc.kind==.function&&sc.names.lookup n==some .cell) then (n,Qt) else (n,k)))=some k->(x,N5)∈(n,q) :: r:=by
   intro q' hq gl
   rw[OB] at gl
   split at gl
   ·rename_i hx
    have hx:x=n:=by simpa using hx
    subst hx
    have e:q'=k:=Nc gl
    have hqf:q=.free:=by
     rcases hq with rfl | ⟨_,e2⟩
     ·rcases hk with z | z
      ·exact absurd (e.trans z) (hc (x,q') M5)
      ·exact e.trans z
     ·exact e2
    rw[hqf];exact M5
   ·exact M1 _ (ih gl)
  by_cases c:(q==N5&&sc.kind==.function&&sc.names.lookup n==some .cell)=true
  ·rw[if_pos c] at h
   refine go .cell (.inr ⟨rfl,?_⟩) h
   simp only[M6] at c
   exact eq_of_beq c.1.1
  ·rw[if_neg c] at h
   exact go q (.inl rfl) h
noncomputable def blk (X:Cx) (N':List Str) (s2:M0) (H1:Hp) (scope:NY) (C:M9) (fp:List M9):Cx :=
 { X with N:=N',s₀:=s2,H₀:=H1,env:=SZ scope (BC.gw X.env.cells scope.names []) C X.env,outer:=X.stack,stack:=X.stack,ex:=fp,fn:=fun _=>false,pn:=[],xe:=fun _ _=>False }
section
variable {X:Cx}{F:FT}{G:Str->Option BT.W}{sc:NY}{N:List Str}{pins:List (M9×Obj)}{σ:L2.St}{H1:Hp}{s2:M0}
theorem kK {scope:NY}{x:Str}{c:M9} (e:(BC.gw X.env.cells scope.names []).lookup x=some c):X.env.cells.lookup x=some c :=
 BC.pR (fun _ _ z=>by simp at z) x c e
theorem rf (hsc:X.env.scope=sc) (x:Str):(SZ scope (BC.gw X.env.cells scope.names []) C X.env).kindOf x=(dP scope sc).names.lookup x:=by
 subst hsc;rfl
theorem uK (I1:Inv X pins σ H1 s2) (hsc:X.env.scope=sc) (cf:q9 sc N tg fv scope) (hx:(x,N5)∈scope.names):∃ c,(BC.gw X.env.cells scope.names []).lookup x=some c:=by
 refine BC.pS hx (I1.ok.has x (.inl ?_))
 have:=cf.free _ hx rfl
 rw[← hsc] at this
 exact this
theorem Fp (I1:Inv X pins σ H1 s2) (hsc:X.env.scope=sc) {scope:NY}{tg:List Str}{fv:List (Nat×Str)} (cf:q9 sc N tg fv scope) {N':List Str}{C:M9}{fp:List M9} (hC:C=s2.heap.objs.size+1)
 (hf:∀ b∈fp,nv X pins H1 b) (hlt:∀ b∈fp,b < s2.heap.objs.size):(blk X N' s2 H1 scope C fp).Ok where
 mod:=I1.ok.mod
 kind:=cf.k1
 glob:=I1.ok.glob
 blt:=I1.ok.blt
 above:=by show s2.heap.objs.size<=C;rw[hC];exact Pz _
 inj:=fun x y c a b=>I1.ok.inj x y c (kK a) (kK b)
 has:=fun x hx=>by
  refine uK I1 hsc cf ?_
  have hx':(dP scope sc).names.lookup x=some .cell\/(dP scope sc).names.lookup x=some .free:=by
   rw[← rf hsc (C:=C)];exact hx
  rcases hx' with e | e
  ·exact jo (.inl rfl) cf.cell e
  ·exact jo (.inr rfl) cf.cell e
 cab:=fun x c z=>by cases z
 hd:=I1.ok.hd
 frames:=I1.ok.frames
 stk:=.inl rfl
 exf:=fun b hb=>⟨fun z=>by
  have l:=hlt b hb
  have z:b=C:=z
  rw[z,hC] at l
  exact absurd l (Nat.not_lt.mpr (Pz _)),fun x c e=>(hf b hb).2.2.2.2.1 x c (kK e)⟩
 bs:=I1.bs
 bsz:=Nx I1.ok.bsz I1.sz
 noex:=fun b o e hb=>by
  have q:=(I1.ok.bs b o e).1
  rcases (hf b hb).2.2.2.1 with z | z
  ·exact I1.ok.noex b o e z
  ·exact absurd (Na q) (Nat.not_lt.mpr z)
 exfs:=fun b hb z=>by
  rcases List.mem_cons.mp (I1.oO b z) with e | e
  ·exact (hf b hb).2.1 e
  ·exact (hf b hb).2.2.1 e
 ju:=I1.stack
 frf:=I1.tS
end
noncomputable def lobj (us:List MZ) (n:Nat):Obj:={ cls:=.type "list",data:=.seq us.toArray n }
section
variable {X:Cx}{F:FT}{G:Str->Option BT.W}{sc:NY}{N:List Str}{pins:List (M9×Obj)}{σ:L2.St}{H1:Hp}{s2:M0}
noncomputable def jq (n:Nat) (σ:L2.St) (fv:List (Nat×Str)):L2.St:=Nn n none++fv.map fun q=>(σ[q.1]?).getD none
theorem BD (I1:Inv X pins σ H1 s2) (hsc:X.env.scope=sc) (hN:X.N=N) (cf:q9 sc N tg fv scope) (hC:C=s2.heap.objs.size+1)
 (hf:∀ b∈fp,nv X pins H1 b) (hlt:∀ b∈fp,b < s2.heap.objs.size) (old:∀ b o,s2.heap.get? b=some o->h1.get? b=some o) (hns:h1.Ns C m) (hD:h1.get? s2.heap.objs.size=some (lobj [] 0)) :
 Inv (blk X (tg++fv.map (·.2)) s2 H1 scope C fp) [(s2.heap.objs.size,lobj [] 0)] (jq tg.length σ fv) H1 { s2 with heap:=h1,toks:=tk } where
 ok:=Fp I1 hsc cf hC hf hlt
 os:=rfl
 bare:=I1.bare
 base:=Un.kept old
 loc:=by
  refine ⟨m,hns,fun i x v e1 e2 e3=>?_⟩
  have e1:(tg++fv.map (·.2))[i]?=some x:=e1
  unfold jq at e2
  by_cases c:i < tg.length
  ·rw[Nf (by simpa using c),O5,if_pos c] at e2
   cases e2
  ·rw[NC (by simpa using c)] at e2
   rw[NC (by simpa using c)] at e1
   simp only[Pj,NK] at e1 e2
   cases g:fv[i - tg.length]? with
   | none=>rw[g] at e1;exact cR e1
   | some q =>
    rw[g] at e1 e2
    simp only[O0,OF] at e1 e2
    subst e1
    obtain ⟨f1,f2,f3,f4⟩:=cf.fvs q (Np g)
    have e2':σ[q.1]?=some (some v):=by
     cases gg:σ[q.1]? with
     | none=>rw[gg] at e2;exact cR e2
     | some o=>rw[gg] at e2;simp only[Td] at e2;rw[e2]
    obtain ⟨m0,hn0,hl0⟩:=I1.loc
    obtain ⟨u,ru,lk⟩:=hl0 q.1 q.2 v (by rw[hN];exact f1) e2' (by rw[hsc];exact .inr (.inl f3))
    refine ⟨u,ru,?_⟩
    have kc:X.env.kindOf q.2=some .cell:=by
     show X.env.scope.names.lookup q.2=_
     rw[hsc];exact f3
    rcases lk with ⟨k,_⟩ | ⟨k,c,ec,o,ho,hd⟩
    ·rw[kc] at k;cases k
    ·obtain ⟨c',ec'⟩:=uK I1 hsc cf f2
     have:=kK ec'
     rw[ec] at this
     cases this
     refine .inr ⟨.inl ?_,c,ec',o,old c o ho,hd⟩
     show (SZ scope (BC.gw X.env.cells scope.names []) C X.env).kindOf q.2=_
     rw[rf hsc];exact f4
 cell:=fun x c e=>by
  obtain ⟨v,o,ho,hd⟩:=I1.cell x c (kK e)
  exact ⟨v,o,old c o ho,hd⟩
 free:=I1.hok.fresh (by show s2.heap.objs.size<=C;rw[hC];exact Pz _)
 freeC:=fun x c e=>I1.freeC x c (kK e)
 pin:=fun p hp=>by
  have e:p=(s2.heap.objs.size,lobj [] 0):=by
   have:p∈[]++[(s2.heap.objs.size,lobj [] 0)]:=hp
   simpa using this
  subst e
  refine ⟨hD,I1.hok.fresh (Nb _),?_,?_,fun v z=>by cases (show Data.seq _ _=Data.cell v from z)⟩
  ·show s2.heap.objs.size≠C
   rw[hC];exact Nt (OW _)
  ·intro z
   obtain ⟨_,o,ho,_⟩:=I1.stack.mem z
   exact absurd (Na ho) (OA _)
 hok:=I1.hok.kept old
 len:=by
  show (jq tg.length σ fv).length=(tg++fv.map (·.2)).length
  simp[jq]
end
noncomputable def tgF:Nat->List Str->List (Nat×Str)
 | _,[]=>[]
 | k,x :: r=>(k,x) :: tgF (k+1) r
noncomputable abbrev tgI (tg:List Str):List (Nat×Str):=tgF 0 tg
theorem pT:∀ (tg:List Str) (k:Nat),(tgF k tg).length=tg.length
 | [],_=>rfl
 | _ :: r,k=>congrArg (·+1) (pT r (k+1))
theorem uL {q:Nat×Str}:∀ {tg:List Str}{k:Nat},q∈tgF k tg->q.2∈tg
 | x :: r,k,h=>by
  rcases List.mem_cons.mp h with rfl | h
  ·exact M5
  ·exact M1 _ (uL h)
theorem uM (h:nmE te=some x):∃ p,te=.Name x p:=by
 cases te with
 | Name y p=>cases h;exact ⟨p,rfl⟩
 | _=>exact absurd (show (none:Option Str)=some _ from h) (fun z=>nomatch z)
theorem zc (h:EC te=a :: l):∃ k p,te=.Tuple (a :: l) k p:=by
 cases te with
 | Tuple xs k p=>cases h;exact ⟨k,p,rfl⟩
 | _=>exact absurd (show ([]:List M7)=_ :: _ from h) (fun z=>nomatch z)
theorem zd {sc:NY}{fs:List Str}:∀ (tg:List Str) {pre:List Str}{es:List M7},tg.map some=es.map nmE->(∀ x∈tg,mL sc x=true)->CTs sc (pre++(tg++fs)) (tgF pre.length tg) es
 | [],pre,es,e,_=>by
  cases es with
  | nil=>exact .nil
  | cons _ _=>cases e
 | x :: r,pre,es,e,h=>by
  cases es with
  | nil=>cases e
  | cons a es =>
   obtain ⟨p,rfl⟩:=uM (RV e).symm
   have q:=zd (fs:=fs) r (pre:=pre++[x]) (List.tail_eq_of_cons_eq e) fun y hy=>h y (M1 _ hy)
   rw[NR,Nl] at q
   exact .cons (by simp) (h x M5) q
theorem BE (h:qR sc tg te=true):CT sc (tg++fs) (tgI tg) te/\(tgI tg).length=tg.length/\∀ q∈tgI tg,sc.names.lookup q.2=some .local:=by
 have st:∀ {x:Str},sc.names.lookup x=some .local->mL sc x=true:=fun e=>by unfold mL;rw[e]
 unfold qR at h
 rw[M6,ON,M6,NQ] at h
 obtain ⟨h,ha⟩:=h
 have lo:∀ {x},x∈tg->sc.names.lookup x=some .local:=fun {x} hx=>eq_of_beq (ha x hx)
 rcases h with h | ⟨h1,h2⟩
 ·have e:=eq_of_beq h
  cases tg with
  | nil=>exact absurd (congrArg SR e) (by simp)
  | cons x r =>
   cases r with
   | cons _ _=>exact absurd (congrArg SR e) (by simp)
   | nil =>
    obtain ⟨p,rfl⟩:=uM (RV e).symm
    have l:sc.names.lookup x=some .local:=lo M5
    exact ⟨.one rfl (st l),rfl,fun q hq=>by rw[List.mem_singleton.mp hq];exact l⟩
 ·have e:=eq_of_beq h2
  cases g:EC te with
  | nil=>rw[g] at e;cases tg with
   | nil=>exact BT.dN h1
   | cons _ _=>cases e
  | cons a l =>
   rw[g] at e
   obtain ⟨k,p,rfl⟩:=zc g
   exact ⟨.tup (by rw[pT];exact h1) (zd (pre:=[]) tg e fun x hx=>st (lo hx)),pT _ _,fun q hq=>lo (uL hq)⟩
theorem uN:∀ (tg:List Str) (k:Nat) (ds:List BT.D) (sl:BT.Sl),ds.length=tg.length->k+tg.length<=sl.length->BT.sets (tgF k tg) ds sl=sl.take k++(ds.map BT.gj++sl.drop (k+tg.length))
 | [],k,ds,sl,h,_=>by
  cases List.length_eq_zero_iff.mp h
  exact (List.take_append_drop k sl).symm
 | x :: r,k,ds,sl,h,hl=>by
  cases ds with
  | nil=>cases h
  | cons d ds =>
   rw[Ni] at hl
   have kl:k < sl.length:=by lia
   show BT.sets (tgF (k+1) r) ds (sl.set k (some (.p d)))=_
   rw[uN r (k+1) ds _ (Nat.succ.inj h) (by rw[List.length_set];lia),List.drop_set_of_lt (by lia),List.take_succ,Ol kl,List.take_set,List.set_eq_of_length_le (by rw[Qc];lia),NR,show k+1+r.length=k+(x :: r).length by rw[Ni];lia]
   rfl
theorem sR {n:Nat}{d:BT.D}{ds:List BT.D} (h:BT.target n d=some ds):ds.length=n:=by
 unfold BT.target at h
 by_cases c:n=1
 ·rw[if_pos c] at h;cases h;exact c.symm
 ·rw[if_neg c] at h
  cases d with
  | tup xs=>rw[BT.qN] at h;obtain ⟨c,h⟩:=c6 h;rw[← h];exact c
  | lst xs=>rw[BT.qM] at h;obtain ⟨c,h⟩:=c6 h;rw[← h];exact c
  | _=>exact cR h
theorem BH (h:(tgI tg).length=tg.length) (h0:tg≠[]) (hd:BT.target tg.length d0=some ds) (hl:sl.length=tg.length+fs.length) (hr:sl.drop tg.length=fs) :
 BT.sets (tgI tg) ds sl=ds.map BT.gj++fs/\(ds.map BT.gj++fs).length=tg.length+fs.length/\(ds.map BT.gj++fs).drop tg.length=fs:=by
 have hn:=sR hd
 have g:=uN tg 0 ds sl hn (by lia)
 rw[Nat.zero_add,hr] at g
 have le:(ds.map BT.gj).length=tg.length:=by rw[Nd];exact hn
 exact ⟨g,by rw[Nl,le],by rw[← le];exact List.drop_left⟩
theorem kq:∀ {fv:List (Nat×Str)}{fs:BT.Sl},BT.frees s fv=some fs->fs.length=fv.length/\∀ (i:Nat) (q:Nat×Str),fv[i]?=some q->fs[i]?=s[q.1]?
 | [],fs,e=>by simp[BT.frees] at e;subst e;exact ⟨rfl,fun i q z=>by simp at z⟩
 | q :: r,fs,e=>by
  simp only[BT.frees] at e
  cases g:s[q.1]? with
  | none=>rw[g] at e;exact cR e
  | some w =>
   rw[g] at e
   obtain ⟨fs',e1,e2⟩:=cY e
   subst e2
   obtain ⟨h1,h2⟩:=kq e1
   refine ⟨by simp[h1],fun i p z=>?_⟩
   cases i with
   | zero=>simp at z;subst z;simp[g]
   | succ i=>simpa using h2 i p (by simpa using z)
theorem wj {K:MV} (S:RS P w K m H σ s) (hf:BT.frees s fv=some fs):RS P w K m H (jq n σ fv) (Nn n none++fs):=by
 obtain ⟨h1,h2⟩:=kq hf
 refine ⟨by simp[jq,h1],fun i y e=>?_⟩
 by_cases c:i < n
 ·rw[Nf (by simpa using c),O5,if_pos c] at e
  cases e
 ·rw[NC (by simpa using c)] at e
  simp only[Pj] at e
  have hi:i - n < fv.length:=by
   rw[← h1]
   rcases N1 (i - n) fs.length with z | z
   ·exact z
   ·rw[Nr z] at e;exact cR e
  have g:=Ng hi
  rw[h2 _ _ g] at e
  obtain ⟨v,hv,r⟩:=S.get _ _ e
  refine ⟨v,?_,r⟩
  unfold jq
  rw[NC (by simpa using c)]
  simp only[Pj,NK,g,O0,hv,Td]
theorem BI {rest:List BT.D} (e:BT.c8 f n (d :: r) h=some (rest,h2)) :
 ∃ xs o hA rest',BT.target n d=some xs/\f xs h=some (o,hA)/\BT.c8 f n r hA=some (rest',h2)/\rest=(match o with | some x=>x :: rest' | none=>rest'):=by
 rw[BT.c8] at e
 cases g:BT.target n d with
 | none=>rw[g] at e;exact cR e
 | some xs =>
  rw[g] at e
  obtain ⟨o,hA,e1,e2⟩:=cT e
  unfold BT.kQ at e2
  obtain ⟨rest',h3,e3,e4⟩:=cT e2
  unfold BT.ug at e4
  cases e4
  exact ⟨xs,o,hA,rest',rfl,e1,e3,rfl⟩
theorem Un.behind (u:Un fs ex H H' h h1) (a:∀ b,b < h.objs.size->H2 b=H' b) (lt:∀ b o,H b=some o->b < h.objs.size) (k:∀ b o,b < h.objs.size->h1.get? b=some o->h2.get? b=some o):Un fs ex H H2 h h2 where
 keep:=fun b o e n c d=>k b o (Na e) (u.keep b o e n c d)
 slot:=fun b o e n c d=>by obtain ⟨sl,q⟩:=u.slot b o e n c d;exact ⟨sl,k b _ (Na e) q⟩
 free:=fun b o e n d=>by rw[a b (Na e)];exact u.free b o e n d
 there:=fun b o e d=>by obtain ⟨o',q⟩:=u.there b o e d;exact ⟨o',k b o' (Na e) q⟩
 tups:=fun b xs e=>by rw[a b (lt b _ e)];exact u.tups b xs e
 frzs:=fun b o w e=>by rw[a b (lt b _ e)];exact u.frzs b o w e
 tbls:=fun b ps e=>by rw[a b (lt b _ e)];exact u.tbls b ps e
section
theorem Fq (O:Ok X F G sc N) (hu:f6 N=true) (cf:q9 sc N tg fv scope) :
 Ok (blk X (tg++fv.map (·.2)) s2 H1 scope C fp) F G (dP scope sc) (tg++fv.map (·.2)) where
 hsc:=by have:=O.hsc;subst this;rfl
 hN:=rfl
 nd:=cf.nd
 calm:=fun _=>O.calm hu
 hu:=O.hu
 own:=QI
 glob:=O.glob
 call:=O.call
 meth:=O.meth
 mkc:=O.mkc
 blt:=O.blt
 lam:=O.lam
 lamx:=fun h=>absurd (show false=true from h "") (by decide)
theorem ze (e:BT.n9 mu sr n (some fs) ec ee ws h=some z) (g:(BT.rds ws h).bind (BT.fH sr)=some ds) :
 uH sr ws/\∃ f',(∀ xs h r,f' xs h=some r->BT.dF ec ee fs xs h=some r/\pN ws ds r.2)/\pN ws ds h/\BT.bnd (BT.c8 f' n ds h) (BT.gn mu)=some z:=by
 unfold BT.n9 at e
 rw[g] at e
 simp only at e
 by_cases ca:BT.jh ws=true
 ·rw[if_pos ca] at e
  exact ⟨.inl ca,_,fun xs h r q=>⟨q,mJ ca⟩,mJ ca,e⟩
 ·rw[if_neg ca] at e
  have two:sr=.seq/\∃ q,ws=[.r q]:=by
   unfold BT.sD at e
   split at e
   ·exact ⟨rfl,_,rfl⟩
   ·exact cR e
  obtain ⟨rfl,q,rfl⟩:=two
  rw[BT.xX] at e
  have gl:BT.lat h q=some ds:=by
   simp only[BT.rds,BT.rd,O0] at g
   cases g1:BT.lat h q with
   | none=>rw[g1] at g;exact cR g
   | some xs=>rw[g1] at g;cases g;rfl
  refine ⟨.inr ⟨rfl,q,rfl⟩,_,fun xs h r q=>?_,fun q' e'=>by cases e';exact gl,e⟩
  unfold BT.chk at q
  cases g2:BT.dF ec ee fs xs h with
  | none=>rw[g2] at q;exact cR q
  | some r2 =>
   rw[g2] at q
   simp only at q
   split at q
   ·rename_i c
    cases q
    exact ⟨rfl,fun q' e'=>by cases e';exact c⟩
   ·exact cR q
inductive LI (X:Cx) (F:FT) (G:Str->Option BT.W) (scope:NY) (tg:List Str) (fv:List (Nat×Str)) (cond:BT.Es) (elt:BT.E) (s2:M0) (H1:Hp) (C:M9) (fp:List M9) (tn:Nat->Heap->Prop) (m1:List M9) (ds outs:List BT.D) (fs:BT.Sl) (h2:BT.HH) (f':List BT.D->BT.HH->Option (Option BT.D×BT.HH)) (Cc:BT.HH->Prop) (n:Nat) (s:M0):Prop where
 | mk (i:Nat) (σ':L2.St) (H':Hp) (m':List M9) (hh:BT.HH) (out rest:List BT.D) (vs:List V) (us:List MZ) (nn:Nat) (sl:BT.Sl) (p0:i<=ds.length) (p1:n=ds.length - i) (p2:Inv (blk X (tg++fv.map (·.2)) s2 H1 scope C fp) [(s2.heap.objs.size,lobj us nn)] σ' H' s) (p3:tn i s.heap) (p4:(∀ b∈fp,H' b=none)) (p5:Ext m1 H1 m' H') (p6:RH X.K m' H' hh) (p7:RS X.prog X.w X.K m' H' σ' sl) (p8:sl.length=tg.length+fs.length) (p9:sl.drop tg.length=fs) (p10:cX vs us) (p11:RDs X.K m' H' vs out) (p12:BT.c8 f' tg.length (ds.drop i) hh=some (rest,h2)) (p13:out++rest=outs) (p14:Cc hh):LI X F G scope tg fv cond elt s2 H1 C fp tn m1 ds outs fs h2 f' Cc n s
structure Apart (X:Cx) (pins:List (M9×Obj)) (H:Hp) (C:M9):Prop where
 fr:H C=none
 lo:C≠X.env.locals
 ab:X.s₀.heap.objs.size<=C
 ce:∀ x c,X.env.cells.lookup x=some c->c≠C
 pi:∀ p∈X.pn++pins,p.1≠C
theorem oE (O:Ok X F G sc N) (hu:f6 N=true) {cond:BT.Es}
 (hk:jk sc N tg fv scope=true) (ht:qR (dP scope sc) tg te=true) (hset:ji iter=true) (hI:PI X te iter (iD X F G sr sa)) (hC:mQ F G (dP scope sc) (tg++fv.map (·.2)) cond ifs)
 (hE:∀ X',Ok X' F G (dP scope sc) (tg++fv.map (·.2))->PE X' elt' (tD X' F G elt)):∀ (pins:List (M9×Obj)) (s:M0) (σ:L2.St) (H:Hp) (Q:VK) (use:Option (MZ->Sem Unit)) (Q':MZ->M0->Prop),Inv X pins σ H s->tD X F G (.comp mu sr sa tg fv cond elt) σ H Q →
 (∀ (s6:M0) (H6:Hp) (C D:M9) (m:Str->Option MZ),Inv X pins σ H6 s6->s6.heap.Ns C m->Apart X pins H6 C->Q (.ref D) H6->compPost (Nv X.prog X.w) X.A X.xe use Q' (.ref D) C (.ok .next) s6) →
 wpAny (Nv X.prog X.w) X.A (comprehension (.ListComp elt' [⟨te,iter,ifs,0⟩] scope pos) scope X.env (firstIterPos [⟨te,iter,ifs,0⟩] pos) (newList []) false (eval iter X.env) use) Q' X.xe s:=by
 have cf:=IT hk
 obtain ⟨ct,tl,tloc⟩:=BE (fs:=fv.map (·.2)) ht
 have t0:tg≠[]:=by
  rintro rfl
  simp[qR] at ht
 intro pins s σ H Q use Q' I q hfin
 obtain ⟨m,s',h,z,h',R,S,ee,post⟩:=q
 simp only[BT.ev] at ee
 obtain ⟨ws,h1,e1,e2⟩:=cT ee
 cases g1:(BT.rds ws h1).bind (BT.fH sr) with
 | none=>unfold BT.n9 at e2;rw[g1] at e2;exact cR e2
 | some ds =>
  cases g2:BT.frees s' fv with
  | none=>unfold BT.n9 at e2;rw[g1,g2] at e2;exact cR e2
  | some fs =>
   rw[g2] at e2
   obtain ⟨ca,f',hf',c1,e2⟩:=ze e2 g1
   obtain ⟨outs,h2,e3,e4⟩:=cT e2
   unfold BT.gn at e4
   by_cases cl:outs.length<=BT.lim
   case neg=>rw[if_neg cl] at e4;exact cR e4
   rw[if_pos cl] at e4
   have ez:BT.new mu outs h2=(z,h'):=Nc e4
   have hfree:BC.sO X.env.cells scope.names:=fun x hx e=>I.ok.has x.1 (.inl (by
    have:=cf.free x hx e
    show X.env.scope.names.lookup x.1=_
    rw[O.hsc];exact this))
   refine wpAny_comprehension_free (use:=use) rfl (uJ hset) (BC.sP hfree) cf.k1 cf.loc
    (thn (hI pins s σ H (fun J H1=>∃ m1,Ext m H m1 H1/\RH X.K m1 H1 h1/\nK X.K J m1 H1 ds (pN ws ds)) I ⟨m,s',h,ws,h1,ds,R,S,e1,g1,ca,fun H1 m1 J x1 R1 it=>⟨m1,x1,R1,it⟩⟩) fun v s1 hv=>thn hv fun itv s2 h2'=>?_)
   obtain ⟨it,fp,tn,J,H1,rfl,I1,T,st,hf,m1,x1,R1,ito⟩:=h2'
   have hlt:∀ b∈fp,b < s2.heap.objs.size:=fun b hb=>by
    obtain ⟨o,ho,_⟩:=T.obj 0 _ st b hb
    exact Na ho
   refine NU (wpAny_newFunctionEnv cf.cell (by intro y hy;simp at hy) (fun h3 hns hsb=>?_) cf.k1)
   dsimp only at hns hsb ⊢
   generalize hH2:s2.heap.push { cls:=.type "list",dict:=none,data:=.seq ([]:List MZ).toArray }=H2 at hns hsb ⊢
   have hCs:H2.objs.size=s2.heap.objs.size+1:=by rw[← hH2,OS]
   have old:∀ b o,s2.heap.get? b=some o->h3.get? b=some o:=fun b o e=>hsb.extBut b o (by rw[hCs];exact Nt (Nat.lt_succ_of_lt (Na e))) (MY _ (hH2 ▸ MY _ e))
   have hacc:h3.get? s2.heap.objs.size=some (lobj [] 0):=hsb.extBut _ _ (by rw[hCs];exact Nt (OW _)) (MY _ (hH2 ▸ Nh _ rfl))
   have I4:=BD (tk:=s2.toks+([]:List (Str×MZ)).length) I1 O.hsc O.hN cf hCs hf hlt old hns hacc
   have O':=Fq (s2:=s2) (H1:=H1) (C:=H2.objs.size) (fp:=fp) O hu cf
   obtain ⟨g,hg1,hg2⟩:=sCT O' (O.calm hu) ct fun q hq=>.inr (by rw[O'.hsc];exact tloc q hq)
   have hfl:fs.length=fv.length:=(kq g2).1
   have stat:∀ {H':Hp}{o:Obj},(∀ b∈fp,H' b=none)->∀ b∈fp,nv (blk X (tg++fv.map (·.2)) s2 H1 scope H2.objs.size fp) [(s2.heap.objs.size,o)] H' b:=fun {H' o} hn b hb=>by
    refine ⟨hn b hb,?_,?_,.inl hb,fun x c e=>(hf b hb).2.2.2.2.1 x c (kK e),fun p hp=>?_⟩
    ·show b≠H2.objs.size
     rw[hCs];exact Nt (Nat.lt_succ_of_lt (hlt b hb))
    ·intro zz
     rcases List.mem_cons.mp (I1.oO b zz) with e | e
     ·exact (hf b hb).2.1 e
     ·exact (hf b hb).2.2.1 e
    ·have hp':p=(s2.heap.objs.size,o):=by
      have:p∈[]++[(s2.heap.objs.size,o)]:=hp
      simpa using this
     rw[hp']
     show s2.heap.objs.size≠b
     exact PP (hlt b hb)
   have loop:∀ s4:M0,s4={ s2 with heap:=h3,toks:=s2.toks+([]:List (Str×MZ)).length } →
    codeAny (Nv X.prog X.w) X.A (.compLoop (.ListComp elt' [⟨te,iter,ifs,0⟩] scope pos) 0 (.ref it) (.ref s2.heap.objs.size) (SZ scope (BC.gw X.env.cells scope.names []) H2.objs.size X.env))
     (compPost (Nv X.prog X.w) X.A X.xe use Q' (.ref s2.heap.objs.size) H2.objs.size) s4:=by
    rintro s4 rfl
    refine BC.wg (LI X F G scope tg fv cond elt s2 H1 H2.objs.size fp tn m1 ds outs fs h2 f' (pN ws ds)) ?_
     ds.length ⟨0,_,H1,m1,h1,[],outs,[],[],0,_,Py _,rfl,I4,T.keep 0 _ _ st (fun b hb o e=>old b o e),fun b hb=>(hf b hb).1,.refl _ _,R1,wj (S.ext x1) g2,by simp,by simp,.nil,.nil,by rw[List.drop_zero];exact e3,rfl,c1⟩
    rintro n s5 ⟨i,σ5,H5,m5,hh,out,rest,vs,us,nn,sl,hi,rfl,I5,st5,fr5,x5,R5,S5,sl1,sl2,rv5,rd5,go5,ou5,cc5⟩
    by_cases c:i < ds.length
    ·rw[RJ c] at go5
     obtain ⟨xs,o,hA,rest',eT,eF,eG,eR⟩:=BI go5
     obtain ⟨eF,cA⟩:=hf' _ _ _ eF
     refine thn (T.item (blk X (tg++fv.map (·.2)) s2 H1 scope H2.objs.size fp) rfl rfl rfl (O.calm hu) i _ s5 σ5 H5 _ I5 (stat fr5) st5 (ito.go m5 H5 hh i x5 R5 cc5 c)) fun r s6 hr=>?_
     obtain ⟨u,rfl,hr⟩:=hr
     refine thn hr fun _ s7 zq=>?_
     obtain ⟨x,H7,I7,r7,y7,st7,fr7⟩:=zq
     obtain ⟨x7,k7,rd7⟩:=ito.yld m5 H5 hh i x H7 ds[i] x5 R5 cc5 (Ng c) y7
     have R7:=R5.ext x7 k7
     have I7':=I7.pinned (stat fr7) (T.obj _ _ st7)
     obtain ⟨sq1,sq2,sq3⟩:=BH tl t0 eT sl1 sl2
     refine thn (hg1 _ s7 σ5 H7 x u (fun σ8 H8=>H8=H7/\RS X.prog X.w X.K m5 H7 σ8 (xs.map BT.gj++fs)) I7' r7 (hg2 m5 H7 σ5 sl x ds[i] xs _ (S5.ext x7) rd7 (by rw[tl];exact eT) fun σ8 S8=>⟨rfl,by rw[← sq1];exact S8⟩)) fun _ s8 h8=>?_
     obtain ⟨σ8,H8,I8,rfl,S8⟩:=h8
     have kept:∀ {s9:M0}{σ9:L2.St}{H9:Hp},Inv (blk X (tg++fv.map (·.2)) s2 H1 scope H2.objs.size fp) ([(s2.heap.objs.size,lobj us nn)]++j0 fp s7.heap) σ9 H9 s9->tn (i+1) s9.heap/\∀ b∈fp,H9 b=none:=fun {s9 σ9 H9} I9=>by
      refine ⟨T.keep _ _ _ st7 fun b hb o e=>(I9.pin (b,o) (ND _ (ND _ (gz hb e)))).1,fun b hb=>?_⟩
      obtain ⟨o,e,_⟩:=T.obj _ _ st7 b hb
      exact (I9.pin (b,o) (ND _ (ND _ (gz hb e)))).2.1
     have elem:∀ {s9:M0}{H9:Hp}{m9:List M9}{h9:BT.HH}{w:BT.W}{hB:BT.HH}{d:BT.D},Inv (blk X (tg++fv.map (·.2)) s2 H1 scope H2.objs.size fp) ([(s2.heap.objs.size,lobj us nn)]++j0 fp s7.heap) σ8 H9 s9->Ext m5 H8 m9 H9->RH X.K m9 H9 h9 →
      BT.ev F G elt (xs.map BT.gj++fs) h9=some (w,hB)->BT.i9 w hB=some (some d,hA)->o=some d →
      wpAny (Nv X.prog X.w) X.A (eval elt' (SZ scope (BC.gw X.env.cells scope.names []) H2.objs.size X.env)) (fun x s₄ =>
       wpAny (Nv X.prog X.w) X.A (call (.builtin "list.append") [.ref s2.heap.objs.size,x]) (fun _ s₅=>∃ m,m < ds.length - i/\LI X F G scope tg fv cond elt s2 H1 H2.objs.size fp tn m1 ds outs fs h2 f' (pN ws ds) m s₅) (fun _ _=>False) s₄) (fun _ _=>False) s9:=by
      intro s9 H9 m9 h9 w hB d I9 x9 R9 eE eK eO
      have ew:w=.p d/\hB=hA:=by
       unfold BT.i9 at eK
       cases w with
       | p d'=>cases eK;exact ⟨rfl,rfl⟩
       | r _=>exact cR eK
       | k _=>exact cR eK
       | c _ _=>exact cR eK
       | x _=>exact cR eK
       | o _=>exact cR eK
      obtain ⟨rfl,rfl⟩:=ew
      refine thn (hE _ O' _ s9 σ8 H9 (fun v Ha=>∃ ma,Ext m9 H9 ma Ha/\RH X.K ma Ha hB/\RD X.K ma Ha v d) I9 ⟨m9,_,h9,_,hB,R9,S8.ext x9,eE,fun v Ha ma xa Ra ra=>by
       cases ra with | p ra=>exact ⟨ma,xa,Ra,ra⟩⟩) fun u10 s10 ⟨v10,H10,I10,r10,m10,x10,R10,rd10⟩=>?_
      obtain ⟨pD,nD,neD,nfD,_⟩:=I10.pin (s2.heap.objs.size,lobj us nn) (by simp)
      have lus:=rv5.length
      have lvs:=rd5.length
      have lou:out.length<=outs.length:=by rw[← ou5];simp
      have lle:=fh
      have cl':outs.length<=BT.lim:=cl
      refine wpAny_list_append_plain ⟨nn,pD⟩ (fun h11 hp11 sb11=>?_) (by rw[M3];lia)
      obtain ⟨nn',hp11⟩:=hp11
      have hp11:h11.get? s2.heap.objs.size=some (lobj (us++[u10]) nn'):=by rw[hp11];simp[lobj]
      have sb11:NL s2.heap.objs.size s10.heap h11:=sb11
      obtain ⟨st10,fr10⟩:=kept I10
      have I11:Inv (blk X (tg++fv.map (·.2)) s2 H1 scope H2.objs.size fp) [] σ8 H10 { s10 with heap:=h11 } :=
       Inv.turned (t':=s10.toks) (I10.kX (fun p hp=>by cases hp)) (fun b o hb e=>(sb11.2 b hb).trans e) nD neD (.inr (Nb _)) (fun x c e zz=>by
        obtain ⟨v,o,ho,_⟩:=I1.cell x c (kK e)
        have:=Na ho
        rw[zz] at this
        exact absurd this (OA _)) fun p hp=>by cases hp
      have I12:Inv (blk X (tg++fv.map (·.2)) s2 H1 scope H2.objs.size fp) [(s2.heap.objs.size,lobj (us++[u10]) nn')] σ8 H10 { s10 with heap:=h11 }:=I11.kX fun p hp=>by
       simp only[List.mem_singleton] at hp
       subst hp
       exact ⟨hp11,nD,neD,nfD,fun v zz=>by cases (show Data.seq _ _=Data.cell v from zz)⟩
      have xt:Ext m5 H5 m10 H10:=(x7.trans x9).trans x10
      refine ⟨ds.length - (i+1),by lia,i+1,σ8,H10,m10,hB,out++[d],rest',vs++[v10],us++[u10],nn',_,c,rfl,I12,?_,fr10,x5.trans xt,R10,(S8.ext x9).ext x10,sq2,sq3,rv5.append (.cons r10 .nil),(rd5.ext xt).append (.cons rd10 .nil),eG,?_,cA⟩
      ·refine T.keep _ _ _ st10 fun b hb o' e=>(sb11.2 b ?_).trans e
       exact Nt (hlt b hb)
      ·rw[← ou5,eR,eO,NR];rfl
     unfold BT.dF at eF
     obtain ⟨cs,hc,eC,eK⟩:=cT eF
     rcases hC with ⟨rfl,rfl⟩ | ⟨cc,cc',rfl,rfl,hCC⟩
     ·simp only[BT.evs] at eC
      cases eC
      have eK:=(show BT.bnd _ BT.i9=_ from eK)
      obtain ⟨w,hB,eE,eL⟩:=cT eK
      refine wpAny_tests_nil ?_
      rw[if_pos rfl]
      have:∃ d,o=some d:=by
       unfold BT.i9 at eL
       cases w with
       | p d'=>cases eL;exact ⟨_,rfl⟩
       | r _=>exact cR eL
       | k _=>exact cR eL
       | c _ _=>exact cR eL
       | x _=>exact cR eL
       | o _=>exact cR eL
      obtain ⟨d,rfl⟩:=this
      exact elem I8 (.refl _ _) R7 eE eL rfl
     ·simp only[BT.evs] at eC
      obtain ⟨wc,hc2,eC1,eC2⟩:=cT eC
      simp only[BT.mw,BT.dh,BT.gF] at eC2
      cases eC2
      have hb:∃ b,wc=.p (.bl b):=by
       cases wc with
       | p d =>
        cases d<;>first | exact ⟨_,rfl⟩ | exact cR eK
       | r _=>exact cR eK
       | k _=>exact cR eK
       | c _ _=>exact cR eK
       | x _=>exact cR eK
       | o _=>exact cR eK
      obtain ⟨b,rfl⟩:=hb
      refine wpAny_tests_one (thn (hCC _ O' _ s8 σ8 H8 (fun b' Ha=>b'=b/\∃ ma,Ext m5 H8 ma Ha/\RH X.K ma Ha hc) I8 ⟨m5,_,hh,b,hc,R7,S8,eC1,fun Ha ma xa Ra=>⟨rfl,ma,xa,Ra⟩⟩) fun b' s9 zq=>?_)
      obtain ⟨H9,I9,hbb,m9,x9,R9⟩:=zq
      subst hbb
      cases b' with
      | false =>
       have eK:=(show some ((none:Option BT.D),hc)=some _ from eK)
       cases eK
       rw[if_neg (by decide)]
       obtain ⟨st9,fr9⟩:=kept I9
       have xt:Ext m5 H5 m9 H9:=x7.trans x9
       refine ⟨ds.length - (i+1),by lia,i+1,σ8,H9,m9,hA,out,rest',vs,us,nn,_,c,rfl,I9.jx,st9,fr9,x5.trans xt,R9,S8.ext x9,sq2,sq3,rv5,rd5.ext xt,eG,?_,cA⟩
       rw[← ou5,eR]
      | true =>
       have eK:=(show BT.bnd _ BT.i9=_ from eK)
       rw[if_pos rfl]
       obtain ⟨w,hB,eE,eL⟩:=cT eK
       have:∃ d,o=some d:=by
        unfold BT.i9 at eL
        cases w with
        | p d'=>cases eL;exact ⟨_,rfl⟩
        | r _=>exact cR eL
        | k _=>exact cR eL
        | c _ _=>exact cR eL
        | x _=>exact cR eL
        | o _=>exact cR eL
       obtain ⟨d,rfl⟩:=this
       exact elem I9 x9 R9 eE eL rfl
    ·have ei:i=ds.length:=by lia
     subst ei
     rw[List.drop_length,BT.c8] at go5
     cases go5
     rw[Oi] at ou5
     subst ou5
     refine thn (T.done (blk X (tg++fv.map (·.2)) s2 H1 scope H2.objs.size fp) rfl rfl rfl (O.calm hu) _ _ s5 σ5 H5 _ I5 (stat fr5) st5 (ito.stop m5 H5 _ x5 R5 cc5)) fun r s6 zq=>?_
     obtain ⟨hr,I6⟩:=zq
     subst hr
     obtain ⟨mm,hmm,_⟩:=I6.loc
     obtain ⟨pD,nD,neD,nfD,_⟩:=I6.pin (s2.heap.objs.size,lobj us nn) (by simp)
     have neD:s2.heap.objs.size≠H2.objs.size:=neD
     have hos:s6.os=s2.os:=I6.os
     have lus:=rv5.length
     have lvs:=rd5.length
     have lle:=fh
     have cl':out.length<=BT.lim:=cl
     have hok:HOk X.prog X.w (upd H5 s2.heap.objs.size (.lst vs)) s6.heap:=fun b u e=>by
      by_cases eb:b=s2.heap.objs.size
      ·subst eb
       rw[dR] at e
       cases e
       exact ⟨by lia,us,nn,rv5,pD⟩
      ·rw[c5 eb] at e
       refine (I6.hok b u e).stay (fun c v hc q=>q) (fun c q=>?_) fun c l q=>?_
       ·rw[c5 (fun zz=>by rw[zz,nD] at q;exact cR q)];exact q
       ·rw[c5 (fun zz=>by rw[zz,nD] at q;exact cR q)];exact q
     have u7:Un (frs X.stack) fp H1 (upd H5 s2.heap.objs.size (.lst vs)) s2.heap s6.heap:=Un.behind (h1:=s6.heap) I6.base (fun b hb=>c5 (Nt hb)) (fun b o e=>I1.hok.lt e) fun b o hb e=>e
     have I7:=I1.call (g':=s6.gens) (t':=s6.toks) (d':=s6.drawn) (ch:=fp) u7 hok I6.bare fun b hb=>⟨(hf b hb).2.2.2.1,(hf b hb).2.1,(hf b hb).2.2.2.2.1,(hf b hb).2.2.2.2.2⟩
     have fr6:H5 H2.objs.size=none:=I6.free
     have ltC:s2.heap.objs.size < H2.objs.size:=by rw[hCs];exact OW _
     have ap:Apart X pins (upd H5 s2.heap.objs.size (.lst vs)) H2.objs.size:=by
      refine ⟨by rw[c5 (Qe neD)];exact fr6,?_,?_,fun x c e zz=>?_,fun p hp zz=>?_⟩
      ·exact PP (Q0 I1.lt ltC)
      ·exact Nx I1.sz (PR ltC)
      ·obtain ⟨v,o,ho,_⟩:=I1.cell x c e
       have l:=Na ho
       rw[zz] at l
       exact absurd (Q0 l ltC) (OA _)
      ·have l:=Na (I1.pin p hp).1
       rw[zz] at l
       exact absurd (Q0 l ltC) (OA _)
     refine hfin s6 _ _ _ mm ?_ hmm ap (pF (mu:=mu) R5 nD rd5 (by rw[ez];exact fun v' H' m' xx RR rr=>post v' H' m' ((x1.trans x5).trans xx) RR rr))
     obtain ⟨hp6,g6,d6,t6,os6⟩:=s6
     have hos:os6=s2.os:=hos
     subst hos
     exact I7
   exact codeAny_compStart_list (loop _ rfl) (T.self _ 0 _ _ _ (T.keep 0 _ _ st (fun b hb o e=>old b o e)) (loop _ rfl))
theorem BJ (O:Ok X F G sc N) (hu:f6 N=true) {cond:BT.Es}
 (hk:jk sc N tg fv scope=true) (ht:qR (dP scope sc) tg te=true) (hset:ji iter=true) (hI:PI X te iter (iD X F G sr sa)) (hC:mQ F G (dP scope sc) (tg++fv.map (·.2)) cond ifs)
 (hE:∀ X',Ok X' F G (dP scope sc) (tg++fv.map (·.2))->PE X' elt' (tD X' F G elt)):PE X (.ListComp elt' [⟨te,iter,ifs,0⟩] scope pos) (tD X F G (.comp mu sr sa tg fv cond elt)):=by
 intro pins s σ H Q I q
 rw[eval_ListComp]
 refine oE O hu hk ht hset hI hC hE pins s σ H Q none _ I q fun s6 H6 C D m I6 hn ap hq=>?_
 refine ⟨m,hn,fun h7 sb7=>?_⟩
 have sb7:NL C s6.heap h7:=sb7
 exact ⟨.ref D,H6,Inv.turned (t':=s6.toks) I6 (fun b o hb e=>(sb7.2 b hb).trans e) ap.fr ap.lo (.inr ap.ab) ap.ce ap.pi,rfl,hq⟩
theorem BK (O:Ok X F G sc N) (hu:f6 N=true) {cond:BT.Es}
 (hk:jk sc N tg fv scope=true) (ht:qR (dP scope sc) tg te=true) (hset:ji iter=true) (hI:PI X te iter (iD X F G sr sa)) (hC:mQ F G (dP scope sc) (tg++fv.map (·.2)) cond ifs)
 (hE:∀ X',Ok X' F G (dP scope sc) (tg++fv.map (·.2))->PE X' elt' (tD X' F G elt)) (hy:N[i]?=some y) (hl:sc.names.lookup y=some .local)
 (hsw:PU (.ListComp elt' [⟨te,iter,ifs,0⟩] scope pos) (some (.Name y py)) spos.line X.env=pure true) :
 PS X (.Assign [.Name y py] (.ListComp elt' [⟨te,iter,ifs,0⟩] scope pos) spos) (w6 (tD X F G (.comp mu sr sa tg fv cond elt)) (tV i)):=by
 intro pins s σ H D I q
 rw[exec_Assign_Name_used _ _ _ _ hsw]
 refine MW (Q3 (MW ?_))
 show wpAny _ X.A (do let _ ← comprehension (.ListComp elt' [⟨te,iter,ifs,0⟩] scope pos) scope X.env _ (newList []) false (eval iter X.env) (some (Rz (.Name y py) X.env))) _ _ s
 refine MW (thn (oE O hu hk ht hset hI hC hE pins s σ H _ (some (Rz (.Name y py) X.env)) (fun _ s'=>SP X pins D .next s') I q fun s6 H6 C D' m I6 hn ap hq=>?_) fun _ s' hq=>wpAny_pure (wpAny_pure hq))
 show wpAny _ X.A (Rz (.Name y py) X.env (.ref D')) _ _ _
 refine wpAny_assign_Name (nR I6 O.nd (by rw[O.hN];exact hy) (.inl (by rw[O.hsc];exact hl)) (v:=.ref D') rfl (fun s7 I7 hs=>?_) (.inr (by rw[O.hsc];exact hl)))
 obtain ⟨a,sb,ha⟩:=hs
 have neC:C≠a:=by
  rcases ha with rfl | ha
  ·exact ap.lo
  ·exact fun z=>ap.ce y a ha z.symm
 refine ⟨m,hn.sameBut sb neC,fun h8 sb8=>?_⟩
 have sb8:NL C s7.heap h8:=sb8
 exact ⟨_,H6,Inv.turned (t':=s7.toks) I7 (fun b o hb e=>(sb8.2 b hb).trans e) ap.fr ap.lo (.inr ap.ab) ap.ce ap.pi,hq⟩
end
section
variable {E:MZ->M0->Prop}
end
section
end
end BS
end
section
namespace L2
open PySem PySem.Spec PyProof.Rows
noncomputable def BN (lo:Int) (n:Nat):It:=⟨fun i _=>i < n,fun i H x H'=>H'=H/\x=.int (lo - i),fun i _=>n<=i⟩
theorem rg {P:Nk}{w:Nz}{K:MV}{tg:Pr} (it:M9) (lo:Int) (n:Nat):Turn P w K tg (BN lo n) [it] it (fun i h=>Se h it (lo+(i:Nat)*(-1)) ((n:Int) - (i:Nat)) (-1)) where
 mem:=by simp
 obj:=fun i h st b hb=>by
  have e:b=it:=by simpa using hb
  subst e
  exact ⟨_,st,fun v z=>by
   have z':Data.fields _=Data.cell v:=z
   cases z'⟩
 keep:=fun i h h' st k=>k it (by simp) _ st
 item:=by
  intro X hP hw hK hc i pins s σ H E I hf st hg
  subst hP hw hK
  obtain ⟨f0,f1,f2,f3,f4,f5⟩:=hf it (by simp)
  have W:=Walks.range (prog:=X.prog) (w:=X.w) (I.ok.hd hc) it lo (-1) n
  refine W.item i s _ _ hg st fun v h' tk hv st' kk=>?_
  obtain ⟨t,rfl⟩:=hv
  have I1:Inv X pins σ H { s with heap:=h',toks:=tk }:=I.turned (fun b o hb e=>kk b o (by simpa using hb) e) f0 f1 f3 f4 f5
  refine ⟨_,rfl,nT (s:={ s with heap:=h',toks:=tk }) (n:="range_iterator") st' rfl rfl (by decide) ⟨.int (lo - i),H,I1,⟨t,?_⟩,⟨rfl,rfl⟩,st',fun b hb=>(hf b hb).1⟩⟩
  rw[show lo+(i:Int)*-1=lo - (i:Int) by lia]
 done:=by
  intro X hP hw hK hc i pins s σ H E I hf st hg
  subst hP hw hK
  obtain ⟨f0,f1,f2,f3,f4,f5⟩:=hf it (by simp)
  exact wpAny_pyNext_range_end (I.ok.hd hc) st (by have:n<=i:=hg;lia) fun h' eb=>⟨rfl,I.turned (t':=s.toks) (fun b o hb e=>eb b o hb e) f0 f1 f3 f4 f5⟩
 self:=fun _ _ _ _ _ st h=>wpAny_pyIter_rangeiter st h
section
variable {X:Cx}{tg:Pr}
theorem wk {pins:List (M9×Obj)}{σ:St}{H:Hp}{s:M0}{R:It->Hp->Prop}{E:MZ->M0->Prop}{lo hi:Int}{t u v:Tok}{tk:Nat} (I:Inv X pins σ H s) (h1:-(2 ^ 62)<=lo) (h2:lo < 2 ^ 62) (h3:-(2 ^ 62)<=hi) (h4:hi < 2 ^ 62)
 (q:R (BN lo (lo - hi).toNat) H):wpAny (Nv X.prog X.w) X.A (pyIter (.ref s.heap.objs.size)) (PIE X pins σ tg R) E { s with heap:=s.heap.push { cls:=.type "range",data:=.fields #[.int lo t,.int hi u,.int (-1) v] },toks:=tk }:=by
 refine wpAny_pyIter_range (IsRange.new ..) (PySem.W.small_down h1 h2 h3 h4) ?_
 have I1:Inv X pins σ H { s with heap:=s.heap.push { cls:=.type "range",data:=.fields #[.int lo t,.int hi u,.int (-1) v] },toks:=tk }:=I.kept fun b o e=>MY _ e
 refine ⟨(s.heap.push { cls:=.type "range",data:=.fields #[.int lo t,.int hi u,.int (-1) v] }).objs.size,[(s.heap.push { cls:=.type "range",data:=.fields #[.int lo t,.int hi u,.int (-1) v] }).objs.size],_,_,H,rfl,
  I1.kept (t':=tk) fun b o e=>MY _ e,rg _ lo (lo - hi).toNat,?_,fun b hb=>?_,q⟩
 ·have e1:lo+((0:Nat):Int)*(-1)=lo:=by simp
  have e2:(((lo - hi).toNat:Nat):Int) - ((0:Nat):Int)=QJ lo hi (-1):=by rw[PySem.W.rangeSize_downNat];simp
  show Se _ _ (lo+((0:Nat):Int)*(-1)) ((((lo - hi).toNat:Nat):Int) - ((0:Nat):Int)) (-1)
  rw[e1,e2]
  exact Nh _ rfl
 ·have e:b=(s.heap.push { cls:=.type "range",data:=.fields #[.int lo t,.int hi u,.int (-1) v] }).objs.size:=by simpa using hb
  subst e
  exact I1.rN (Nb _) (I1.hok.fresh (Nb _))
end
end L2
namespace BS
open PySem PySem.Spec PyProof.Rows L2
section
variable {F:FT}{G:Str->Option BT.W}
theorem BO {C:BT.HH->Prop}{K:MV}{m0:List M9}{H0:Hp} (lo:Int) (n:Nat):nK K (BN lo n) m0 H0 (BT.down lo n) C:=by
 have hl:(BT.down lo n).length=n:=by simp[BT.down]
 refine ⟨fun m H hh i x _ _ hi=>by rw[hl] at hi;exact hi,fun m H hh i v H' d x RR _ hd y=>?_,fun m H _ x _ _=>by rw[hl];exact Nb n⟩
 obtain ⟨rfl,rfl⟩:=y
 have hi:i < n:=by
  have:=getD_some hd
  rw[hl] at this
  exact this
 have:d=.int (lo - i):=by
  unfold BT.down at hd
  rw[NK,Qw hi] at hd
  exact (Nc hd).symm
 subst this
 exact ⟨.refl _ _,fun _ _ e=>e,.int _⟩
theorem zf {X:Cx}{sc:NY}{N:List Str} (O:Ok X F G sc N) {tg x y z:M7}{sa:BT.Es}{p pos:Pos} (hg:dQ sc "range"=true) (hs:noStar x=true) (hs2:noStar y=true) (hs3:noStar z=true) (hA:PA X [x,y,z] (tDs X F G sa)):PI X tg (.Call (.Name "range" p) [x,y,z] [] pos) (iD X F G .rng3 sa):=by
 intro pins s σ H R I q
 obtain ⟨m,s',h,ws,h',ds,RR,S,e,e2,ha,post⟩:=q
 obtain ⟨xs,rfl⟩:=pO (ha.p (fun z=>by cases z))
 rw[pP,NP] at e2
 have hx:∃ i j c:Int,xs=[.int i,.int j,.int c]:=by
  match xs,e2 with
  | [.int i,.int j,.int c],_=>exact ⟨i,j,c,rfl⟩
 obtain ⟨i,j,c,rfl⟩:=hx
 rw[BT.vQ] at e2
 obtain ⟨⟨rfl,c1,c2,c3,c4⟩,e3⟩:=c6 e2
 subst e3
 refine Call_ (jc (u:=.type "range") I (dS O hg) (O.blt _ (by decide)) (by decide +kernel) (Oc (thn (hA pos pins s σ H (fun vs H1=>vs=[.int i,.int j,.int (-1)]/\R (BN i (i - j).toNat) H1) I ⟨m,s',h,_,h',RR,S,e,fun vs H1 m1 x1 R1 r1=>?_⟩) fun us s1 ⟨vs,H1,I1,r1,q1⟩=>?_) (cV hs) (dw (by simp[cU,hs2,hs3]))))
 ·cases r1 with
  | cons r t =>
   cases t with
   | cons r2 t2 =>
    cases t2 with
    | cons r3 t3 =>
     cases t3
     cases r with
     | p r =>
      cases r2 with
      | p r2 =>
       cases r3 with
       | p r3 =>
        cases r;cases r2;cases r3
        exact ⟨rfl,post H1 m1 _ x1 R1 (BO i (i - j).toNat)⟩
 ·obtain ⟨rfl,q1⟩:=q1
  obtain ⟨u,u2,u3,rfl,eu,eu2,eu3⟩:∃ u u2 u3,us=[u,u2,u3]/\RelV (.int i) u/\RelV (.int j) u2/\RelV (.int (-1)) u3:=by
   cases r1 with
   | cons q t=>obtain ⟨u2,u3,rfl,k1,k2⟩:=vals2 t;exact ⟨_,_,_,rfl,q,k1,k2⟩
  obtain ⟨t,rfl⟩:=eu
  obtain ⟨t2,rfl⟩:=eu2
  obtain ⟨t3,rfl⟩:=eu3
  exact call_range_3 (by decide) (wk I1 (by lia) (by lia) (by lia) (by lia) q1) (.inl (RE (by lia)))
end
end BS
end
section
namespace BS
open PySem PySem.Spec PyProof.Rows L2
section
variable {E:MZ->M0->Prop}
theorem nL (hit:s.heap.IsTupleIter it t i) (ht:s.heap.IsTuple t items) (hx:items[i]?=some x)
 (hQ:∀ h',h'.IsTupleIter it t (i+1)->NL it s.heap h'->Q x { s with heap:=h' }) :
 wpAny (Nv prog w) A (Ny (.ref it)) Q E s:=by
 obtain ⟨o,ho,hc,hd⟩:=id hit
 obtain ⟨ol,hol,_,nl,hdl⟩:=ht
 unfold Ny
 refine MW (N3 (name:=M4 "__next__") hit.typeIs F.slot_tuple_iterator_next
  (OH F.slot_tuple_iterator_next hit.typeIs F.entry_tuple_iterator_next ?_ (F.args_tuple_iterator_next_1 _)))
 show wpAny _ _ (field (.ref it) 0 >>= _) _ _ s
 refine MW (NW ho hd (x:=.ref t) rfl ?_)
 show wpAny _ _ (if (Of t==O8)=true then _ else _) _ _ s
 rw[if_neg (show ¬ ((Of t==O8)=true) from NN)]
 show wpAny _ _ (field (.ref it) 1 >>= _) _ _ s
 refine MW (NW ho hd (x:=.int i 0) rfl ?_)
 show wpAny _ _ (seqItems? (.ref t) >>= _) _ _ s
 refine MW (OL hol hdl ?_)
 simp only[QX,hx]
 refine MW (wpAny_setField ho hd (by simp) (wpAny_pure ⟨x,rfl,wpAny_pure (hQ _ ?_ (Rk ..))⟩))
 exact ⟨_,Su _ ho (Obj.isFreed_of_fields (Obj.data_mapFields hd _)),(Obj.cls_mapFields ..).trans hc,by
  rw[Obj.data_mapFields hd];simp[rawInt]⟩
theorem pU (hh:A.handled=none) (hit:s.heap.IsTupleIter it t i) (ht:s.heap.IsTuple t items) (hx:items[i]?=none)
 (hE:∀ h' e,Heap.ExtBut it s.heap h'->(∃ o,h'.get? e=some o/\o.cls=.type "StopIteration")->E (.ref e) { s with heap:=h' }) :
 wpAny (Nv prog w) A (Ny (.ref it)) Q E s:=by
 obtain ⟨o,ho,hc,hd⟩:=id hit
 obtain ⟨ol,hol,_,nl,hdl⟩:=ht
 unfold Ny
 refine MW (N3 (name:=M4 "__next__") hit.typeIs F.slot_tuple_iterator_next
  (OH F.slot_tuple_iterator_next hit.typeIs F.entry_tuple_iterator_next ?_ (F.args_tuple_iterator_next_1 _)))
 show wpAny _ _ (field (.ref it) 0 >>= _) _ _ s
 refine MW (NW ho hd (x:=.ref t) rfl ?_)
 show wpAny _ _ (if (Of t==O8)=true then _ else _) _ _ s
 rw[if_neg (show ¬ ((Of t==O8)=true) from NN)]
 show wpAny _ _ (field (.ref it) 1 >>= _) _ _ s
 refine MW (NW ho hd (x:=.int i 0) rfl ?_)
 show wpAny _ _ (seqItems? (.ref t) >>= _) _ _ s
 refine MW (OL hol hdl ?_)
 simp only[QX,hx]
 refine MW (SG (MW (wpAny_setField ho hd (by simp) ?_)))
 show wpAny _ _ (newExc (.type "StopIteration") [] >>= _) _ _ _
 refine MW ?_
 simp only[newExc,newTuple]
 refine MW (NU ?_ (by size_fits))
 refine MW (m:=firstArgMember _ _) (wpAny_of_eq (a:=O8) (by first | rfl | (simp only[firstArgMember];rfl)) ?_)
 refine NU ?_ (by size_fits)
 simp only[raiseNew]
 refine MW (wpAny_handled ?_)
 first | rw[show A.in1.handled=none from hh] | rw[hh]
 refine MW (wpAny_pure (wpAny_throw ?_))
 exact hE _ _ (((Rk ..).extBut.push _).push _) ⟨_,Nh _ rfl,rfl⟩
end
section
variable {prog:Nk}{w:Nz}{A:NT}{s:M0}{R:Result->M0->Prop}{xs ys:Array MZ}{z TI TO i1 i2 l1 l2 S:M9}
end
section
variable {prog:Nk}{w:Nz}{A:NT}{E:MZ->M0->Prop}{s:M0}{R:Result->M0->Prop}{xs ys:Array MZ}{z TI TO i1 i2 l1 l2 S:M9}
end
section
variable {E:MZ->M0->Prop}
end
section
end
inductive ZK where
 | l (a:M9) | t (a:M9) | s (x:Str) (k:Tok)
noncomputable def ZK.ty:ZK->String
 | .l _=>"list_iterator"
 | .t _=>"tuple_iterator"
 | .s x _=>Nq x
noncomputable def ZK.val:ZK->MZ
 | .l a=>.ref a
 | .t a=>.ref a
 | .s x k=>.str x k
noncomputable def ZK.at (q:ZK) (it:M9) (i:Nat) (h:Heap):Prop:=match q with
 | .l a=>h.IsListIter it a i
 | .t a=>h.IsTupleIter it a i
 | .s x k=>h.IsStrIter it (Nq x) x k i
noncomputable def ZK.item (q:ZK) (i:Nat) (h:Heap) (u:MZ):Prop:=match q with
 | .l a=>∃ us:List MZ,h.IsList a us.toArray/\us[i]?=some u
 | .t a=>∃ us:List MZ,h.IsTuple a us.toArray/\us[i]?=some u
 | .s x _=>∃ c t,x.cps[i]?=some c/\u=.str ⟨#[c]⟩ t
noncomputable def ZK.done (q:ZK) (i:Nat) (h:Heap):Prop:=match q with
 | .l a=>∃ us:List MZ,h.IsList a us.toArray/\us.length<=i
 | .t a=>∃ us:List MZ,h.IsTuple a us.toArray/\us.length<=i
 | .s x _=>x.cps.size<=i
noncomputable def ZK.off (q:ZK) (b:M9):Prop:=match q with
 | .l a=>a≠b
 | .t a=>a≠b
 | .s _ _=>True
theorem ZK.there {q:ZK}{it i:Nat}{h:Heap} (z:q.at it i h):∃ o,h.get? it=some o/\∀ v,o.data≠.cell v:=by
 cases q with
 | l a=>obtain ⟨o,e,c,d⟩:=z;exact ⟨o,e,fun v q=>by rw[d] at q;cases q⟩
 | t a=>obtain ⟨o,e,c,d⟩:=z;exact ⟨o,e,fun v q=>by rw[d] at q;cases q⟩
 | s x k=>obtain ⟨o,e,c,d⟩:=z;exact ⟨o,e,fun v q=>by rw[d] at q;cases q⟩
theorem ZK.stay {q:ZK}{it i:Nat}{h h':Heap} (z:q.at it i h) (k:∀ o,h.get? it=some o->h'.get? it=some o):q.at it i h':=by
 cases q with
 | l a=>obtain ⟨o,e,r⟩:=z;exact ⟨o,k o e,r⟩
 | t a=>obtain ⟨o,e,r⟩:=z;exact ⟨o,k o e,r⟩
 | s x t=>obtain ⟨o,e,r⟩:=z;exact ⟨o,k o e,r⟩
theorem ZK.gx {q:ZK}{i:Nat}{h h':Heap}{u:MZ}{b:M9} (z:q.item i h u) (n:q.off b) (k:∀ c o,c≠b->h.get? c=some o->h'.get? c=some o):q.item i h' u:=by
 cases q with
 | l a=>obtain ⟨us,p,e⟩:=z;exact ⟨us,p.at fun o g=>k a o n g,e⟩
 | t a=>obtain ⟨us,p,e⟩:=z;exact ⟨us,p.at fun o g=>k a o n g,e⟩
 | s x t=>exact z
theorem ZK.iX {q:ZK}{i:Nat}{h h':Heap}{b:M9} (z:q.done i h) (n:q.off b) (k:∀ c o,c≠b->h.get? c=some o->h'.get? c=some o):q.done i h':=by
 cases q with
 | l a=>obtain ⟨us,p,e⟩:=z;exact ⟨us,p.at fun o g=>k a o n g,e⟩
 | t a=>obtain ⟨us,p,e⟩:=z;exact ⟨us,p.at fun o g=>k a o n g,e⟩
 | s x t=>exact z
theorem ZK.iY {q:ZK}{i:Nat}{h h':Heap}{u:MZ}{b:M9} (z:q.item i h' u) (n:q.off b) (k:NL b h h'):q.item i h u:=by
 cases q with
 | l a=>obtain ⟨us,⟨o,p,r⟩,e⟩:=z;exact ⟨us,⟨o,(k.2 a n).symm.trans p,r⟩,e⟩
 | t a=>obtain ⟨us,⟨o,p,r⟩,e⟩:=z;exact ⟨us,⟨o,(k.2 a n).symm.trans p,r⟩,e⟩
 | s x t=>exact z
section
variable {prog:Nk}{w:Nz}{A:NT}{E:MZ->M0->Prop}{s:M0}
theorem pV {q:ZK}{it:M9}{i:Nat}{Q:MZ->M0->Prop} (hit:q.at it i s.heap) (hv:∃ u,q.item i s.heap u) (hQ:∀ u h' tk,q.item i s.heap u->q.at it (i+1) h'->NL it s.heap h'->Q u { s with heap:=h',toks:=tk }) :
 wpAny (Nv prog w) A (Ny (.ref it)) Q E s:=by
 obtain ⟨u,hv⟩:=hv
 cases q with
 | l a =>
  obtain ⟨us,p,e⟩:=hv
  exact wpAny_nextOf_list_item hit p (by simpa using e) fun h' a1 a2=>hQ u h' s.toks ⟨us,p,e⟩ a1 a2
 | t a =>
  obtain ⟨us,p,e⟩:=hv
  exact nL hit p (by simpa using e) fun h' a1 a2=>hQ u h' s.toks ⟨us,p,e⟩ a1 a2
 | s x t =>
  obtain ⟨c,t2,e,_⟩:=hv
  have hit:s.heap.IsStrIter it (Nq x) x t i:=hit
  cases ha:x.cps.all (· < 128) with
  | true =>
   have ey:Nq x="str_ascii_iterator":=by unfold Nq;rw[if_pos ha]
   rw[ey] at hit
   exact wpAny_nextOf_ascii_item hit e fun h' a1 a2=>hQ _ h' _ ⟨c,_,e,rfl⟩ (by show h'.IsStrIter it (Nq x) x t (i+1);rw[ey];exact a1) a2
  | false =>
   have ey:Nq x="str_iterator":=by unfold Nq;rw[if_neg (by rw[ha];decide)]
   rw[ey] at hit
   exact wpAny_nextOf_wide_item hit e fun h' a1 a2=>hQ _ h' _ ⟨c,_,e,rfl⟩ (by show h'.IsStrIter it (Nq x) x t (i+1);rw[ey];exact a1) a2
theorem uO {q:ZK}{it:M9}{i:Nat}{Q:MZ->M0->Prop} (hh:A.handled=none) (hit:q.at it i s.heap) (hv:q.done i s.heap) (hE:∀ h' e,Heap.ExtBut it s.heap h'->(∃ o,h'.get? e=some o/\o.cls=.type "StopIteration")->E (.ref e) { s with heap:=h' }) :
 wpAny (Nv prog w) A (Ny (.ref it)) Q E s:=by
 cases q with
 | l a =>
  obtain ⟨us,p,e⟩:=hv
  exact wpAny_nextOf_list_end hh hit p (by simp;lia) hE
 | t a =>
  obtain ⟨us,p,e⟩:=hv
  exact pU hh hit p (by simp;lia) hE
 | s x t =>
  have hit:s.heap.IsStrIter it (Nq x) x t i:=hit
  have hv:x.cps.size<=i:=hv
  cases ha:x.cps.all (· < 128) with
  | true =>
   have ey:Nq x="str_ascii_iterator":=by unfold Nq;rw[if_pos ha]
   rw[ey] at hit
   exact wpAny_nextOf_ascii_end hh hit (by simpa using hv) hE
  | false =>
   have ey:Nq x="str_iterator":=by unfold Nq;rw[if_neg (by rw[ha];decide)]
   rw[ey] at hit
   exact wpAny_nextOf_wide_end hh hit (by simpa using hv) hE
structure ZA (z TI TO i1 i2:M9) (q1 q2:ZK):Prop where
 TIz:TI≠z
 TOz:TO≠z
 i1z:i1≠z
 i2z:i2≠z
 TITO:TI≠TO
 TIi1:TI≠i1
 TIi2:TI≠i2
 TOi1:TO≠i1
 TOi2:TO≠i2
 i12:i1≠i2
 f1:q1.off z/\q1.off TO/\q1.off i1/\q1.off i2
 f2:q2.off z/\q2.off TO/\q2.off i1/\q2.off i2
theorem BP {z TI TO i1 i2:M9}{q1 q2:ZK}{k:Nat}{a b:MZ}{Q:MZ->M0->Prop} (D:ZA z TI TO i1 i2 q1 q2)
 (hz:Rh s.heap z TI TO .none) (hTI:O1 s.heap TI (.ref i1) (.ref i2)) (hTO:O1 s.heap TO a b) (h1:q1.at i1 k s.heap) (h2:q2.at i2 k s.heap) (e1:∃ u,q1.item k s.heap u) (e2:∃ u,q2.item k s.heap u)
 (hQ:∀ h' tk x y,q1.item k s.heap x->q2.item k s.heap y->Rh h' z TI TO (rawInt s.heap.objs.size)->O1 h' TO x y->q1.at i1 (k+1) h'->q2.at i2 (k+1) h'->O1 h' s.heap.objs.size x y →
  (∀ c o,c≠z->c≠TO->c≠i1->c≠i2->s.heap.get? c=some o->h'.get? c=some o)->Q (.ref s.heap.objs.size) { s with heap:=h',toks:=tk }) :
 wpAny (Nv prog w) A (Builtin.«zip.__next__» ⟨[.ref z],[]⟩) (fun fin s'=>∃ v,fin=.done (.ret v)/\Q v s') E s:=by
 show wpAny _ _ (field (.ref z) 2 >>= _) _ _ _
 refine MW (NW hz rfl (x:=.bool false) rfl ?_)
 show wpAny _ _ (field (.ref z) 3 >>= _) _ _ _
 refine MW (NW hz rfl (x:=.ref TI) rfl ?_)
 refine MW (OL hTI rfl ?_)
 show wpAny _ _ (N9 (.ref z) >>= _) _ _ _
 refine MW ?_
 unfold N9
 refine MW (NW hz rfl (x:=.none) rfl (wpAny_pure ?_))
 simp only[if_true]
 refine MW (SG ?_)
 refine MW (NW hz rfl (x:=.ref TO) rfl ?_)
 refine MW (OO hz (by simp) fun g1 z1 s1=>?_)
 replace z1:Rh g1 z TI TO .ellipsis:=z1
 replace s1:NL z s.heap g1:=s1
 refine MW ?_
 simp only[List.zipIdx_cons,List.zipIdx_nil,Rj,List.forIn_nil]
 refine MW (MW (Q4 ?_))
 show wpAny _ _ (Ny (.ref i1) >>= _) _ _ _
 refine MW (pV (q:=q1) (i:=k) (ZK.stay h1 fun o e=>s1.extBut _ o D.i1z e) (e1.imp fun u hu=>ZK.gx hu D.f1.1 s1.extBut) fun x g2 t2 ex a2 s2=>wpAny_pure ?_)
 replace s2:NL i1 g1 g2:=s2
 replace ex:q1.item k s.heap x:=ZK.iY ex D.f1.1 s1
 have TO2:O1 g2 TO a b:=s2.extBut _ _ D.TOi1 (s1.extBut _ _ D.TOz hTO)
 refine MW (OL TO2 rfl ?_)
 refine MW (QG TO2 fun g3 TO3 s3=>?_)
 replace TO3:O1 g3 TO x b:=TO3
 replace s3:NL TO g2 g3:=s3
 refine MW (wpAny_letGo (wpAny_pure ?_))
 refine MW (MW (Q4 ?_))
 show wpAny _ _ (Ny (.ref i2) >>= _) _ _ _
 refine MW (pV (q:=q2) (i:=k) (ZK.stay h2 fun o e=>s3.extBut _ o D.TOi2.symm (s2.extBut _ o D.i12.symm (s1.extBut _ o D.i2z e))) (e2.imp fun u hu=>ZK.gx (ZK.gx (ZK.gx hu D.f2.1 s1.extBut) D.f2.2.2.1 s2.extBut) D.f2.2.1 s3.extBut) fun y g4 t4 ey a4 s4=>wpAny_pure ?_)
 replace s4:NL i2 g3 g4:=s4
 replace ey:q2.item k s.heap y:=ZK.iY (ZK.iY (ZK.iY ey D.f2.2.1 s3) D.f2.2.2.1 s2) D.f2.1 s1
 have TO4:O1 g4 TO x b:=s4.extBut _ _ D.TOi2 TO3
 refine MW (OL TO4 rfl ?_)
 refine MW (QG TO4 fun g5 TO5 s5=>?_)
 replace TO5:O1 g5 TO x y:=TO5
 replace s5:NL TO g4 g5:=s5
 refine MW (wpAny_letGo (wpAny_pure (wpAny_pure ?_)))
 refine MW (OL TO5 rfl ?_)
 refine MW (wpAny_newTuple ?_)
 have sz:g5.objs.size=s.heap.objs.size:=by rw[s5.1,s4.1,s3.1,s2.1,s1.1]
 have z5:Rh g5 z TI TO .ellipsis:=s5.extBut _ _ D.TOz.symm (s4.extBut _ _ D.i2z.symm (s3.extBut _ _ D.TOz.symm (s2.extBut _ _ D.i1z.symm z1)))
 have k5:∀ c o,c≠z->c≠TO->c≠i1->c≠i2->s.heap.get? c=some o->g5.get? c=some o:=fun c o c1 c2 c3 c4 e =>
  s5.extBut _ _ c2 (s4.extBut _ _ c4 (s3.extBut _ _ c2 (s2.extBut _ _ c3 (s1.extBut _ _ c1 e))))
 have b1:q1.at i1 (k+1) g5:=ZK.stay a2 fun o e=>s5.extBut _ o D.TOi1.symm (s4.extBut _ o D.i12 (s3.extBut _ o D.TOi1.symm e))
 have b2:q2.at i2 (k+1) g5:=ZK.stay a4 fun o e=>s5.extBut _ o D.TOi2.symm e
 have lz:z < g5.objs.size:=Na z5
 show wpAny _ _ (PK (.ref z) (.ref g5.objs.size) >>= _) _ _ _
 refine MW ?_
 unfold PK
 have z6:Rh (g5.push { cls:=.type "tuple",data:=.seq #[x,y] }) z TI TO .ellipsis:=MY _ z5
 refine MW (OO z6 (by simp) fun g7 z7 s7=>?_)
 replace z7:Rh g7 z TI TO (rawInt g5.objs.size):=z7
 refine OO z7 (by simp) fun g8 z8 s8=>?_
 replace z8:Rh g8 z TI TO (rawInt g5.objs.size):=z8
 have up:∀ c o,c≠z->g5.get? c=some o->g8.get? c=some o:=fun c o c1 e=>s8.extBut _ _ c1 (s7.extBut _ _ c1 (MY _ e))
 have T8:O1 g8 g5.objs.size x y:=s8.extBut _ _ (PP lz) (s7.extBut _ _ (PP lz) (Nh _ rfl))
 rw[sz] at z8 T8
 refine wpAny_pure ⟨_,rfl,?_⟩
 show Q (.ref g5.objs.size) _
 rw[sz]
 exact hQ g8 _ x y ex ey z8 (up _ _ D.TOz TO5) (ZK.stay b1 fun o e=>up _ o D.i1z e) (ZK.stay b2 fun o e=>up _ o D.i2z e) T8 fun c o c1 c2 c3 c4 e=>up c o c1 (k5 c o c1 c2 c3 c4 e)
theorem Ft {z TI TO i1 i2:M9}{q1 q2:ZK}{k:Nat}{a b:MZ}{Q:Fin->M0->Prop} (hh:A.handled=none) (D:ZA z TI TO i1 i2 q1 q2)
 (hz:Rh s.heap z TI TO .none) (hTI:O1 s.heap TI (.ref i1) (.ref i2)) (hTO:O1 s.heap TO a b) (h1:q1.at i1 k s.heap) (h2:q2.at i2 k s.heap) (hend:q1.done k s.heap\/((∃ u,q1.item k s.heap u)/\q2.done k s.heap))
 (hE:∀ h' tk e,(∀ c o,c≠z->c≠TO->c≠i1->c≠i2->s.heap.get? c=some o->h'.get? c=some o)->(∃ o,h'.get? e=some o/\o.cls=.type "StopIteration")->E (.ref e) { s with heap:=h',toks:=tk }) :
 wpAny (Nv prog w) A (Builtin.«zip.__next__» ⟨[.ref z],[]⟩) Q E s:=by
 show wpAny _ _ (field (.ref z) 2 >>= _) _ _ _
 refine MW (NW hz rfl (x:=.bool false) rfl ?_)
 show wpAny _ _ (field (.ref z) 3 >>= _) _ _ _
 refine MW (NW hz rfl (x:=.ref TI) rfl ?_)
 refine MW (OL hTI rfl ?_)
 show wpAny _ _ (N9 (.ref z) >>= _) _ _ _
 refine MW ?_
 unfold N9
 refine MW (NW hz rfl (x:=.none) rfl (wpAny_pure ?_))
 simp only[if_true]
 refine MW (SG ?_)
 refine MW (NW hz rfl (x:=.ref TO) rfl ?_)
 refine MW (OO hz (by simp) fun g1 z1 s1=>?_)
 replace z1:Rh g1 z TI TO .ellipsis:=z1
 replace s1:NL z s.heap g1:=s1
 refine MW ?_
 simp only[List.zipIdx_cons,List.zipIdx_nil,Rj,List.forIn_nil]
 refine MW (MW (Q4 ?_))
 show wpAny _ _ (Ny (.ref i1) >>= _) _ _ _
 rcases hend with d1 | ⟨e1,d2⟩
 ·refine MW (uO (q:=q1) (i:=k) hh (ZK.stay h1 fun o e=>s1.extBut _ o D.i1z e) (ZK.iX d1 D.f1.1 s1.extBut) fun g2 e s2 he=>?_)
  obtain ⟨oe,ho,hc⟩:=he
  have z2:Rh g2 z TI TO .ellipsis:=s2 _ _ D.i1z.symm z1
  have ez:e≠z:=fun x=>by subst x;rw[z2] at ho;cases ho;simp at hc
  exact OO z2 (by simp) fun g3 _ s3=>hE g3 s.toks e (fun c o c1 _ c3 _ x=>s3.extBut _ _ c1 (s2 _ _ c3 (s1.extBut _ _ c1 x))) ⟨oe,s3.extBut _ _ ez ho,hc⟩
 ·refine MW (pV (q:=q1) (i:=k) (ZK.stay h1 fun o e=>s1.extBut _ o D.i1z e) (e1.imp fun u hu=>ZK.gx hu D.f1.1 s1.extBut) fun x g2 t2 ex a2 s2=>wpAny_pure ?_)
  replace s2:NL i1 g1 g2:=s2
  have TO2:O1 g2 TO a b:=s2.extBut _ _ D.TOi1 (s1.extBut _ _ D.TOz hTO)
  refine MW (OL TO2 rfl ?_)
  refine MW (QG TO2 fun g3 TO3 s3=>?_)
  replace s3:NL TO g2 g3:=s3
  refine MW (wpAny_letGo (wpAny_pure ?_))
  refine MW (MW (Q4 ?_))
  show wpAny _ _ (Ny (.ref i2) >>= _) _ _ _
  refine MW (uO (q:=q2) (i:=k) hh (ZK.stay h2 fun o e=>s3.extBut _ o D.TOi2.symm (s2.extBut _ o D.i12.symm (s1.extBut _ o D.i2z e))) (ZK.iX (ZK.iX (ZK.iX d2 D.f2.1 s1.extBut) D.f2.2.2.1 s2.extBut) D.f2.2.1 s3.extBut) fun g4 e s4 he=>?_)
  obtain ⟨oe,ho,hc⟩:=he
  have z4:Rh g4 z TI TO .ellipsis:=s4 _ _ D.i2z.symm (s3.extBut _ _ D.TOz.symm (s2.extBut _ _ D.i1z.symm z1))
  have ez:e≠z:=fun x=>by subst x;rw[z4] at ho;cases ho;simp at hc
  exact OO z4 (by simp) fun g5 _ s5=>hE g5 _ e (fun c o c1 c2 c3 c4 x=>s5.extBut _ _ c1 (s4 _ _ c4 (s3.extBut _ _ c2 (s2.extBut _ _ c3 (s1.extBut _ _ c1 x))))) ⟨oe,s5.extBut _ _ ez ho,hc⟩
end
noncomputable def ZK.ob (q:ZK):Obj:={ cls:=.type q.ty,data:=.fields #[q.val,.int 0 0] }
noncomputable def ZK.here (q:ZK) (h:Heap):Prop:=match q with
 | .l a=>∃ us:List MZ,h.IsList a us.toArray
 | .t a=>∃ us:List MZ,h.IsTuple a us.toArray
 | .s _ _=>True
section
variable {prog:Nk}{w:Nz}{A:NT}{E:MZ->M0->Prop}{s:M0}
theorem uP {q:ZK}{Q:MZ->M0->Prop} (hq:q.here s.heap) (h:Q (.ref s.heap.objs.size) { s with heap:=s.heap.push q.ob }):wpAny (Nv prog w) A (pyIter q.val) Q E s:=by
 cases q with
 | l a=>obtain ⟨us,p⟩:=hq;exact Rn p h
 | t a=>obtain ⟨us,p⟩:=hq;exact wpAny_pyIter_tuple p h
 | s x t=>exact wpAny_pyIter_strU h
end
noncomputable abbrev zg (h:Heap) (q1:ZK):Heap:=h.push q1.ob
noncomputable abbrev BQ (h:Heap) (q1 q2:ZK):Heap:=(zg h q1).push q2.ob
noncomputable abbrev BU (h:Heap) (q1 q2:ZK):Heap:=(BQ h q1 q2).push { cls:=.type "tuple",data:=.seq #[.ref h.objs.size,.ref (zg h q1).objs.size] }
noncomputable abbrev BV (h:Heap) (q1 q2:ZK):Heap:=(BU h q1 q2).push { cls:=.type "tuple",data:=.seq #[.none,.none] }
noncomputable abbrev wm (h:Heap) (q1 q2:ZK):Heap:=(BV h q1 q2).push { cls:=.type "zip",data:=.fields #[.none,.bool false,.bool false,.ref (BQ h q1 q2).objs.size,.ref (BU h q1 q2).objs.size] }
theorem pW (q1 q2:ZK) :
 Meets (Builtin.«zip.__new__» ⟨[.type "zip",q1.val,q2.val],[]⟩) (fun _ R s=>q1.here s.heap/\q2.here (zg s.heap q1) ∧
  R (.ok (.ret (.ref (BV s.heap q1 q2).objs.size))) { s with heap:=wm s.heap q1 q2 }) :=
 .of_wp fun prog w A R s h=>by
  obtain ⟨hp,g,d,tk,os⟩:=s;obtain ⟨hl1,hl2,h⟩:=h
  have hsub:=sub_zip
  have J1:∀ {A:NT}{E:MZ->M0->Prop}{Q:MZ->M0->Prop},Q (.ref hp.objs.size) ⟨hp.push q1.ob,g,d,tk,os⟩->wpAny (Nv prog w) A (pyIter q1.val) Q E ⟨hp,g,d,tk,os⟩:=fun hQ=>uP (s:=⟨hp,g,d,tk,os⟩) hl1 hQ
  have J2:∀ {A:NT}{E:MZ->M0->Prop}{Q:MZ->M0->Prop},Q (.ref (hp.push q1.ob).objs.size) ⟨(hp.push q1.ob).push q2.ob,g,d,tk,os⟩->wpAny (Nv prog w) A (pyIter q2.val) Q E ⟨hp.push q1.ob,g,d,tk,os⟩:=fun hQ=>uP (s:=⟨hp.push q1.ob,g,d,tk,os⟩) hl2 hQ
  wp_walk using J1,J2
  exact ⟨_,rfl,h⟩
theorem ZK.wo {q:ZK}{h:Heap}{o:Obj} (z:q.here h):q.here (h.push o):=by
 cases q with
 | l a=>obtain ⟨us,p⟩:=z;exact ⟨us,p.at fun o e=>MY _ e⟩
 | t a=>obtain ⟨us,p⟩:=z;exact ⟨us,p.at fun o e=>MY _ e⟩
 | s _ _=>trivial
theorem ZK.IU {q:ZK}{h:Heap}{it:M9} (e:h.get? it=some q.ob):q.at it 0 h:=by
 cases q with
 | l a=>exact ⟨_,e,rfl,rfl⟩
 | t a=>exact ⟨_,e,rfl,rfl⟩
 | s x t=>exact ⟨_,e,rfl,rfl⟩
section
variable {prog:Nk}{w:Nz}{A:NT}{E:MZ->M0->Prop}{s:M0}
theorem BW {q1 q2:ZK}{Q:MZ->M0->Prop} (hl1:q1.here s.heap) (hl2:q2.here s.heap)
 (h:∀ h',Rh h' (s.heap.objs.size+4) (s.heap.objs.size+2) (s.heap.objs.size+3) .none->O1 h' (s.heap.objs.size+2) (.ref s.heap.objs.size) (.ref (s.heap.objs.size+1)) →
  O1 h' (s.heap.objs.size+3) .none .none->q1.at s.heap.objs.size 0 h'->q2.at (s.heap.objs.size+1) 0 h' →
  (∀ c o,s.heap.get? c=some o->h'.get? c=some o)->Q (.ref (s.heap.objs.size+4)) { s with heap:=h' }) :
 wpAny (Nv prog w) A (call (.type "zip") [q1.val,q2.val]) Q E s:=by
 refine callType_new F.called_zip (by decide) (F.typeCall_zip_2 _ _) (F.newCall_zip_2 _ _) (fun obj=>F.args_object_init_3 obj _ _) F.entry_zip_new
  (pW q1 q2) ⟨hl1,ZK.wo hl2,?_⟩
 have z1:(zg s.heap q1).objs.size=s.heap.objs.size+1:=OS ..
 have z2:(BQ s.heap q1 q2).objs.size=s.heap.objs.size+2:=by rw[OS,z1]
 have z3:(BU s.heap q1 q2).objs.size=s.heap.objs.size+3:=by rw[OS,z2]
 have z4:(BV s.heap q1 q2).objs.size=s.heap.objs.size+4:=by rw[OS,z3]
 have g5:(wm s.heap q1 q2).get? (BV s.heap q1 q2).objs.size=some _:=Nh _ rfl
 have g4:(wm s.heap q1 q2).get? (BU s.heap q1 q2).objs.size=some _:=MY _ (Nh _ rfl)
 have g3:(wm s.heap q1 q2).get? (BQ s.heap q1 q2).objs.size=some _:=MY _ (MY _ (Nh _ rfl))
 have g2:(wm s.heap q1 q2).get? (zg s.heap q1).objs.size=some _:=MY _ (MY _ (MY _ (Nh _ rfl)))
 have g1:(wm s.heap q1 q2).get? s.heap.objs.size=some _:=MY _ (MY _ (MY _ (MY _ (Nh _ rfl))))
 show _/\_
 rw[z2,z3,z4] at g5
 rw[z1,z2] at g3
 rw[z3] at g4
 rw[z1] at g2
 rw[z4]
 exact ⟨⟨_,g5,rfl⟩,h _ g5 g3 g4 (ZK.IU g1) (ZK.IU g2) fun c o x =>
  MY _ (MY _ (MY _ (MY _ (MY _ x))))⟩
theorem BY {z TI TO i1 i2:M9}{q1 q2:ZK}{k:Nat}{a b:MZ}{Q:Option MZ->M0->Prop} (D:ZA z TI TO i1 i2 q1 q2)
 (hz:Rh s.heap z TI TO .none) (hTI:O1 s.heap TI (.ref i1) (.ref i2)) (hTO:O1 s.heap TO a b) (h1:q1.at i1 k s.heap) (h2:q2.at i2 k s.heap) (e1:∃ u,q1.item k s.heap u) (e2:∃ u,q2.item k s.heap u)
 (hQ:∀ h' tk x y,q1.item k s.heap x->q2.item k s.heap y->Rh h' z TI TO (rawInt s.heap.objs.size)->O1 h' TO x y->q1.at i1 (k+1) h'->q2.at i2 (k+1) h'->O1 h' s.heap.objs.size x y →
  (∀ c o,c≠z->c≠TO->c≠i1->c≠i2->s.heap.get? c=some o->h'.get? c=some o)->Q (some (.ref s.heap.objs.size)) { s with heap:=h',toks:=tk }) :
 wpAny (Nv prog w) A (pyNext (.ref z)) Q E s:=by
 have hT:s.TypeIs (.ref z) "zip":=⟨_,hz,rfl⟩
 unfold pyNext
 exact MW (wpAny_attempt (N3 (name:=M4 "__next__") hT F.slot_zip_next
  (OH F.slot_zip_next hT F.entry_zip_next
   (BP D hz hTI hTO h1 h2 e1 e2 fun h' tk x y a1 a2 a3 a4 a5 a6 a7 a8=>wpAny_pure (hQ h' tk x y a1 a2 a3 a4 a5 a6 a7 a8)) (F.args_zip_next_1 _))))
theorem BZ {z TI TO i1 i2:M9}{q1 q2:ZK}{k:Nat}{a b:MZ}{Q:Option MZ->M0->Prop} (hh:A.handled=none) (D:ZA z TI TO i1 i2 q1 q2)
 (hz:Rh s.heap z TI TO .none) (hTI:O1 s.heap TI (.ref i1) (.ref i2)) (hTO:O1 s.heap TO a b) (h1:q1.at i1 k s.heap) (h2:q2.at i2 k s.heap) (hend:q1.done k s.heap\/((∃ u,q1.item k s.heap u)/\q2.done k s.heap))
 (hQ:∀ h' tk,(∀ c o,c≠z->c≠TO->c≠i1->c≠i2->s.heap.get? c=some o->h'.get? c=some o)->Q none { s with heap:=h',toks:=tk }):wpAny (Nv prog w) A (pyNext (.ref z)) Q E s:=by
 have hT:s.TypeIs (.ref z) "zip":=⟨_,hz,rfl⟩
 unfold pyNext
 refine MW (wpAny_attempt (N3 (name:=M4 "__next__") hT F.slot_zip_next
  (OH F.slot_zip_next hT F.entry_zip_next (Ft hh D hz hTI hTO h1 h2 hend fun h' tk e hk he=>?_) (F.args_zip_next_1 _))))
 obtain ⟨o,ho,hc⟩:=he
 refine MW (wpAny_isInstance (T:="StopIteration") (b:=true) ⟨o,ho,hc⟩ isSubtype_stop ?_)
 exact wpAny_pure (hQ _ _ hk)
end
noncomputable def ZK.has (q:ZK) (K:MV) (H:Hp) (i:Nat):Prop:=match q with
 | .l a=>∃ xs x,SqL K H a xs/\xs[i]?=some x
 | .t a=>∃ xs x,SqT K H a xs/\xs[i]?=some x
 | .s x _=>∃ c,x.cps[i]?=some c
noncomputable def ZK.is (q:ZK) (K:MV) (H:Hp) (i:Nat) (v:V):Prop:=match q with
 | .l a=>∀ xs,SqL K H a xs->xs[i]?=some v
 | .t a=>∀ xs,SqT K H a xs->xs[i]?=some v
 | .s x _=>∃ c,x.cps[i]?=some c/\v=.str ⟨#[c]⟩
noncomputable def ZK.over (q:ZK) (K:MV) (H:Hp) (i:Nat):Prop:=match q with
 | .l a=>∃ xs,SqL K H a xs/\xs.length<=i
 | .t a=>∃ xs,SqT K H a xs/\xs.length<=i
 | .s x _=>x.cps.size<=i
noncomputable def ItG (K:MV) (q1 q2:ZK):It :=
 ⟨fun i H=>q1.has K H i/\q2.has K H i,
  fun i H v H'=>∃ t x y,v=.ref t/\H t=none/\H'=upd H t (.tup [x,y])/\q1.is K H i x/\q2.is K H i y,
  fun i H=>q1.over K H i\/(q1.has K H i/\q2.over K H i)⟩
theorem B0 {h:Heap}{a:M9}{us vs:Array MZ} (x:h.IsList a us) (y:h.IsList a vs):us=vs:=by
 obtain ⟨o,e,c,n,d⟩:=x
 obtain ⟨o',e',c',n',d'⟩:=y
 rw[e] at e';cases e'
 rw[d] at d';cases d';rfl
theorem B3 {h:Heap}{a:M9}{us vs:Array MZ} (x:h.IsTuple a us) (y:h.IsTuple a vs):us=vs:=by
 obtain ⟨o,e,c,n,d⟩:=x
 obtain ⟨o',e',c',n',d'⟩:=y
 rw[e] at e';cases e'
 rw[d] at d';cases d';rfl
section
variable {X:Cx}{pins:List (M9×Obj)}{σ:L2.St}{H:Hp}{s:M0}
theorem sU {q:ZK}{i:Nat} (I:Inv X pins σ H s) (h:q.has X.K H i):∃ u,q.item i s.heap u:=by
 cases q with
 | l a =>
  obtain ⟨xs,x,hq,hx⟩:=h
  obtain ⟨its,rv,p,hz⟩:=I.list hq
  obtain ⟨u,hu,_⟩:=rv.get hx
  exact ⟨u,its,p.isList,hu⟩
 | t a =>
  obtain ⟨xs,x,hq,hx⟩:=h
  obtain ⟨its,rv,p,hz⟩:=I.tuple hq
  obtain ⟨u,hu,_⟩:=rv.get hx
  exact ⟨u,its,p,hu⟩
 | s x t =>
  obtain ⟨c,hc⟩:=h
  exact ⟨_,c,0,hc,rfl⟩
theorem Dl {q:ZK}{i:Nat}{u:MZ} (I:Inv X pins σ H s) (h:q.has X.K H i) (hu:q.item i s.heap u):∃ v,q.is X.K H i v/\RelV v u:=by
 cases q with
 | l a =>
  obtain ⟨xs,x,hq,hx⟩:=h
  obtain ⟨its,rv,p,hz⟩:=I.list hq
  obtain ⟨us,p2,e⟩:=hu
  have:=B0 p.isList p2
  have:its=us:=by simpa using this
  subst this
  obtain ⟨u',hu',r⟩:=rv.get hx
  rw[e] at hu';cases hu'
  exact ⟨x,fun xs' h'=>by rw[I.lK h' hq];exact hx,r⟩
 | t a =>
  obtain ⟨xs,x,hq,hx⟩:=h
  obtain ⟨its,rv,p,hz⟩:=I.tuple hq
  obtain ⟨us,p2,e⟩:=hu
  have:=B3 p p2
  have:its=us:=by simpa using this
  subst this
  obtain ⟨u',hu',r⟩:=rv.get hx
  rw[e] at hu';cases hu'
  exact ⟨x,fun xs' h'=>by rw[I.nS h' hq];exact hx,r⟩
 | s x t =>
  obtain ⟨c,t2,hc,rfl⟩:=hu
  exact ⟨_,⟨c,hc,rfl⟩,t2,rfl⟩
theorem uQ {q:ZK}{i:Nat} (I:Inv X pins σ H s) (h:q.over X.K H i):q.done i s.heap:=by
 cases q with
 | l a =>
  obtain ⟨xs,hq,hx⟩:=h
  obtain ⟨its,rv,p,hz⟩:=I.list hq
  have:=rv.length
  exact ⟨its,p.isList,by lia⟩
 | t a =>
  obtain ⟨xs,hq,hx⟩:=h
  obtain ⟨its,rv,p,hz⟩:=I.tuple hq
  have:=rv.length
  exact ⟨its,p,by lia⟩
 | s x t=>exact h
end
noncomputable def ZGS (z TI TO i1 i2:M9) (q1 q2:ZK) (i:Nat) (h:Heap):Prop:=Rh h z TI TO .none/\O1 h TI (.ref i1) (.ref i2)/\(∃ a b,O1 h TO a b)/\q1.at i1 i h/\q2.at i2 i h
theorem wu {P:Nk}{w:Nz}{K:MV}{elts:List M7}{kk:Nat}{tp:Pos}{z TI TO i1 i2:M9}{q1 q2:ZK} (D:ZA z TI TO i1 i2 q1 q2) :
 Turn P w K (.Tuple elts kk tp) (ItG K q1 q2) [z,TI,TO,i1,i2] z (ZGS z TI TO i1 i2 q1 q2) where
 mem:=by simp
 obj:=fun i h st b hb=>by
  obtain ⟨a1,a2,⟨xa,xb,a3⟩,a4,a5⟩:=st
  simp only[O3,Oo,or_false] at hb
  rcases hb with rfl | rfl | rfl | rfl | rfl
  ·exact ⟨_,a1,fun v q=>by cases (show Data.fields _=Data.cell v from q)⟩
  ·exact ⟨_,a2,fun v q=>by cases (show Data.seq _ _=Data.cell v from q)⟩
  ·exact ⟨_,a3,fun v q=>by cases (show Data.seq _ _=Data.cell v from q)⟩
  ·exact ZK.there a4
  ·exact ZK.there a5
 keep:=fun i h h' st k=>by
  obtain ⟨a1,a2,⟨xa,xb,a3⟩,a4,a5⟩:=st
  exact ⟨k _ (by simp) _ a1,k _ (by simp) _ a2,⟨xa,xb,k _ (by simp) _ a3⟩,ZK.stay a4 fun o e=>k _ (by simp) o e,ZK.stay a5 fun o e=>k _ (by simp) o e⟩
 item:=by
  intro X hP hw hK hc i pins s σ H E I hf st hg
  subst hP hw hK
  obtain ⟨g1,g2⟩:=hg
  obtain ⟨a1,a2,⟨xa,xb,a3⟩,a4,a5⟩:=st
  refine BY D a1 a2 a3 a4 a5 (sU I g1) (sU I g2) fun h' tk u1 u2 e1 e2 b1 b2 b3 b4 b5 b7=>?_
  obtain ⟨x,x1,x2⟩:=Dl I g1 e1
  obtain ⟨y,y1,y2⟩:=Dl I g2 e2
  refine ⟨_,rfl,wpAny_letOwnedTupleGo_zip b1 fun h2 c1 c2=>?_⟩
  have c2:NL z h' h2:=c2
  have old:∀ b o,b∉[z,TI,TO,i1,i2]->s.heap.get? b=some o->h2.get? b=some o:=fun b o hb e=>by
   simp only[O3,Oo,or_false,not_or] at hb
   exact c2.extBut b o hb.1 (b7 b o hb.1 hb.2.2.1 hb.2.2.2.1 hb.2.2.2.2 e)
  have hTI:h2.get? TI=some _:=c2.extBut _ _ D.TIz (b7 _ _ D.TIz D.TITO D.TIi1 D.TIi2 a2)
  have neT:s.heap.objs.size≠z:=PP (Na a1)
  have hpair:O1 h2 s.heap.objs.size u1 u2:=c2.extBut _ _ neT b5
  have hnew:H s.heap.objs.size=none:=I.hok.fresh (Nb _)
  have hok:HOk X.prog X.w (upd H s.heap.objs.size (.tup [x,y])) h2:=fun b u e=>by
   by_cases eb:b=s.heap.objs.size
   ·subst eb
    rw[dR] at e
    cases e
    exact ⟨by show 2<=sizeLine;decide,[u1,u2],.cons x2 (.cons y2 .nil),_,hpair,rfl,_,rfl⟩
   ·rw[c5 eb] at e
    refine (I.hok b u e).stay (fun c v hc q=>old c v (fun hb=>?_) q) (fun c q=>?_) fun c l q=>?_
    ·have:=(hf c hb).1
     rcases hc with rfl | hc
     ·rw[this] at e;exact cR e
     ·rw[this] at hc;exact cR hc
    ·rw[c5 (Nt (I.hok.lt q))];exact q
    ·rw[c5 (Nt (I.hok.lt q))];exact q
  refine ⟨.ref s.heap.objs.size,_,Inv.uI (s:=s) (tk:=tk) I hf old (fun b hb=>c5 (Nt hb)) hok,rfl,⟨_,x,y,rfl,hnew,rfl,x1,y1⟩,⟨c1,hTI,⟨u1,u2,c2.extBut _ _ D.TOz b2⟩,ZK.stay b3 fun o e=>c2.extBut _ o D.i1z e,ZK.stay b4 fun o e=>c2.extBut _ o D.i2z e⟩,fun b hb=>?_⟩
  have hlt:b < s.heap.objs.size:=by
   obtain ⟨o1,e1,_⟩:=ZK.there a4
   obtain ⟨o2,e2,_⟩:=ZK.there a5
   simp only[O3,Oo,or_false] at hb
   rcases hb with rfl | rfl | rfl | rfl | rfl
   ·exact Na a1
   ·exact Na a2
   ·exact Na a3
   ·exact Na e1
   ·exact Na e2
  rw[c5 (Nt hlt)]
  exact (hf b hb).1
 done:=by
  intro X hP hw hK hc i pins s σ H E I hf st hg
  subst hP hw hK
  obtain ⟨a1,a2,⟨xa,xb,a3⟩,a4,a5⟩:=st
  refine BZ (I.ok.hd hc) D a1 a2 a3 a4 a5 (hg.elim (fun q=>.inl (uQ I q)) fun q=>.inr ⟨sU I q.1,uQ I q.2⟩) fun h' tk b7=>⟨rfl,?_⟩
  refine Inv.uI (s:=s) (tk:=tk) I hf (fun b o hb e=>?_) (fun _ _=>rfl) fun b u e=>?_
  ·simp only[O3,Oo,or_false,not_or] at hb
   exact b7 b o hb.1 hb.2.2.1 hb.2.2.2.1 hb.2.2.2.2 e
  ·refine (I.hok b u e).stay (fun c v hc q=>b7 c v ?_ ?_ ?_ ?_ q) (fun _ q=>q) fun _ _ q=>q
   all_goals
    intro ec
    have hcn:H c=none:=(hf c (by simp[ec])).1
    rcases hc with rfl | hc
    ·rw[hcn] at e;exact cR e
    ·rw[hcn] at hc;exact cR hc
 self:=fun _ _ _ _ _ st h=>wpAny_pyIter_zip st.1 h
structure ZOk (K:MV) (m0:List M9) (H0:Hp) (q:ZK) (xs:List BT.D):Prop where
 has:∀ m H i,Ext m0 H0 m H->i < xs.length->q.has K H i
 is:∀ m H i v d,Ext m0 H0 m H->q.is K H i v->xs[i]?=some d->RD K m H v d
 over:∀ m H i,Ext m0 H0 m H->xs.length<=i->q.over K H i
theorem IV {K:MV}{m0:List M9}{H0:Hp}{a:M9}{vs:List V}{ds:List BT.D} (h:(Rd H0 a (.lst vs)/\a∉m0)\/KL K a vs) (r:RDs K m0 H0 vs ds):ZOk K m0 H0 (.l a) ds:=by
 have k:∀ {m H},Ext m0 H0 m H->SqL K H a vs:=fun x=>LL.sq (h.elim (fun q=>.inl (Rd.ext x q.1 q.2).1) .inr)
 refine ⟨fun m H i x hi=>⟨vs,_,k x,Ng (by rw[r.length];exact hi)⟩,fun m H i v d x y hd=>?_,fun m H i x hi=>⟨vs,k x,by rw[r.length];exact hi⟩⟩
 obtain ⟨u,h1,h2⟩:=(r.ext x).get hd
 have:=y vs (k x)
 rw[h1] at this
 cases this
 exact h2
theorem IW {K:MV}{m0:List M9}{H0:Hp}{a:M9}{vs:List V}{ds:List BT.D} (h:(Rd H0 a (.tup vs)/\a∉m0)\/KT K a vs) (r:RDs K m0 H0 vs ds):ZOk K m0 H0 (.t a) ds:=by
 have k:∀ {m H},Ext m0 H0 m H->SqT K H a vs:=fun x=>h.elim (fun q=>.inl (Rd.ext x q.1 q.2).1) fun ⟨o,its,n,q,_⟩=>.inr ⟨o,its,n,q⟩
 refine ⟨fun m H i x hi=>⟨vs,_,k x,Ng (by rw[r.length];exact hi)⟩,fun m H i v d x y hd=>?_,fun m H i x hi=>⟨vs,k x,by rw[r.length];exact hi⟩⟩
 obtain ⟨u,h1,h2⟩:=(r.ext x).get hd
 have:=y vs (k x)
 rw[h1] at this
 cases this
 exact h2
theorem lB (x:Str):(BT.nE x).length=x.cps.size:=by simp[BT.nE]
theorem zh {x:Str}{i:Nat}{d:BT.D} (h:(BT.nE x)[i]?=some d):∃ c,x.cps[i]?=some c/\d=.str ⟨#[c]⟩:=by
 unfold BT.nE at h
 rw[NK] at h
 obtain ⟨c,h1,h2⟩:=cY h
 exact ⟨c,by simpa using h1,h2.symm⟩
theorem IX {K:MV}{m0:List M9}{H0:Hp}{x:Str}{t:Tok} (ok:PyData.strOk x=true):ZOk K m0 H0 (.s x t) (BT.nE x):=by
 refine ⟨fun m H i _ hi=>?_,fun m H i v d _ y hd=>?_,fun m H i _ hi=>by rw[lB] at hi;exact hi⟩
 ·rw[lB] at hi
  exact ⟨_,Rv hi⟩
 ·obtain ⟨c,h1,rfl⟩:=zh hd
  obtain ⟨c',h2,rfl⟩:=y
  rw[h1] at h2
  cases h2
  refine .str _ (j8 ok ?_)
  exact Array.mem_toList_iff.mpr (Sh h1)
theorem B4:∀ (ds es:List BT.D),(BT.gY ds es).length=min ds.length es.length:=by
 intro ds
 induction ds with
 | nil=>intro es;cases es<;>simp[BT.gY]
 | cons d ds ih =>
  intro es
  cases es with
  | nil=>simp[BT.gY]
  | cons e es=>simp only[BT.gY,Ni,ih];lia
theorem Fv:∀ (ds es:List BT.D) (i:Nat) (d:BT.D),(BT.gY ds es)[i]?=some d->∃ x y,ds[i]?=some x/\es[i]?=some y/\d=.tup [x,y]:=by
 intro ds
 induction ds with
 | nil=>intro es i d e;cases es<;>simp[BT.gY] at e
 | cons d ds ih =>
  intro es i q e
  cases es with
  | nil=>simp[BT.gY] at e
  | cons e0 es =>
   cases i with
   | zero=>simp[BT.gY] at e;exact ⟨d,e0,rfl,rfl,e.symm⟩
   | succ i=>simp[BT.gY] at e;simpa using ih es i q e
theorem B5 {C:BT.HH->Prop}{K:MV}{m0:List M9}{H0:Hp}{q1 q2:ZK}{ds es:List BT.D} (z1:ZOk K m0 H0 q1 ds) (z2:ZOk K m0 H0 q2 es):nK K (ItG K q1 q2) m0 H0 (BT.gY ds es) C:=by
 have ln:=B4 ds es
 refine ⟨fun m H hh i x _ _ hi=>⟨z1.has m H i x (by lia),z2.has m H i x (by lia)⟩,fun m H hh i v H' d x RR _ hd y=>?_,fun m H _ x _ _=>?_⟩
 ·obtain ⟨t,v1,v2,rfl,hn,rfl,y1,y2⟩:=y
  obtain ⟨d1,d2,e1,e2,rfl⟩:=Fv ds es i d hd
  have xx:Ext m H m (upd H t (.tup [v1,v2])):=gH hn
  exact ⟨xx,ym hn,.tup (.inl ⟨.inl dR,RR.iE hn⟩) (.cons ((z1.is m H i v1 d1 x y1 e1).ext xx) (.cons ((z2.is m H i v2 d2 x y2 e2).ext xx) .nil))⟩
 ·by_cases c:ds.length<=(BT.gY ds es).length
  ·exact .inl (z1.over m H _ x c)
  ·exact .inr ⟨z1.has m H _ x (by lia),z2.over m H _ x (by lia)⟩
inductive ZV (X:Cx) (m:List M9) (H:Hp) (s:M0) (u:MZ) (xs:List BT.D):Prop where
 | mk (q:ZK) (e:u=q.val) (h:q.here s.heap) (f:∀ b,s.heap.objs.size<=b->q.off b) (z:ZOk X.K m H q xs):ZV X m H s u xs
theorem Dm {X:Cx}{pins:List (M9×Obj)}{σ:L2.St}{m:List M9}{H:Hp}{s:M0}{v:V}{u:MZ}{d:BT.D}{xs:List BT.D} (I:Inv X pins σ H s) (r:RD X.K m H v d) (rv:RelV v u) (e:BT.xR d=some xs):ZV X m H s u xs:=by
 cases r with
 | @tup a vs _ h r =>
  cases e
  cases rv
  obtain ⟨its,q1,p,hz⟩:=I.tuple (h.elim (fun q=>.inl q.1) fun ⟨o,its,n,q,_⟩=>.inr ⟨o,its,n,q⟩)
  obtain ⟨o,ho,r'⟩:=id p
  have:=Na ho
  exact ⟨.t a,rfl,⟨its,p⟩,fun b hb=>Nt (Nu this hb),IW h r⟩
 | @lst a vs _ h r =>
  cases e
  cases rv
  obtain ⟨its,q1,p,hz⟩:=I.list (LL.sq (h.elim (fun q=>.inl q.1) .inr))
  obtain ⟨o,ho,r'⟩:=p.isList
  have:=Na ho
  exact ⟨.l a,rfl,⟨its,p.isList⟩,fun b hb=>Nt (Nu this hb),IV h r⟩
 | str x ok =>
  cases e
  obtain ⟨t,rfl⟩:=rv
  exact ⟨.s x t,rfl,trivial,fun _ _=>trivial,IX ok⟩
 | _=>exact cR e
section
variable {F:FT}{G:Str->Option BT.W}
theorem B6 {X:Cx}{sc:NY}{N:List Str} (O:Ok X F G sc N) {tg ex ey:M7}{sa:BT.Es}{p pos:Pos} (hz:oi .zipG tg=true) (hg:dQ sc "zip"=true) (hs:noStar ex=true) (hs2:noStar ey=true) (hA:PA X [ex,ey] (tDs X F G sa)) :
 PI X tg (.Call (.Name "zip" p) [ex,ey] [] pos) (iD X F G .zipG sa):=by
 intro pins s σ H R I q
 obtain ⟨m,s',h,ws,h',ds,RR,S,e,e2,ha,post⟩:=q
 obtain ⟨xs,rfl⟩:=pO (ha.p (fun z=>by cases z))
 rw[pP,NP] at e2
 obtain ⟨d1,d2,rfl⟩:∃ d1 d2,xs=[d1,d2]:=by
  match xs,e2 with
  | [d1,d2],_=>exact ⟨d1,d2,rfl⟩
 rw[BT.iO] at e2
 obtain ⟨x1,g1,g2⟩:=Option.bind_eq_some_iff.mp e2
 obtain ⟨x2,g3,g4⟩:=cY g2
 subst g4
 refine Call_ (jc (u:=.type "zip") I (dS O hg) (O.blt _ (by decide)) (by decide +kernel) (Oc (thn (hA pos pins s σ H (fun vs H1=>∃ m1 v1 v2,vs=[v1,v2]/\Ext m H m1 H1/\RH X.K m1 H1 h'/\RD X.K m1 H1 v1 d1/\RD X.K m1 H1 v2 d2) I
  ⟨m,s',h,_,h',RR,S,e,fun vs H1 m1 x1 R1 r1=>?_⟩) fun us s1 ⟨vs,H1,I1,r1,q1⟩=>?_) (cV hs) (dw (by simp[cU,hs2]))))
 ·cases r1 with
  | cons ra t =>
   cases t with
   | cons rb t =>
    cases t
    cases ra with
    | p ra =>
     cases rb with
     | p rb=>exact ⟨m1,_,_,rfl,x1,R1,ra,rb⟩
 ·obtain ⟨m1,v1,v2,rfl,x1,R1,ra,rb⟩:=q1
  obtain ⟨u1,u2,rfl,ru1,ru2⟩:=r1.two
  obtain ⟨q1,rfl,h1,f1,z1⟩:=Dm I1 ra ru1 g1
  obtain ⟨q2,rfl,h2,f2,z2⟩:=Dm I1 rb ru2 g3
  refine BW h1 h2 fun h2' y1 y2 y3 y4 y5 y7=>?_
  refine wpAny_pyIter_zip y1 ?_
  have D:ZA (s1.heap.objs.size+4) (s1.heap.objs.size+2) (s1.heap.objs.size+3) s1.heap.objs.size (s1.heap.objs.size+1) q1 q2:=by
   have ne:∀ (i j:Nat),i≠j->s1.heap.objs.size+i≠s1.heap.objs.size+j:=fun i j hij z=>hij (Nat.add_left_cancel z)
   have n0:∀ (i:Nat),i≠0->s1.heap.objs.size+i≠s1.heap.objs.size:=fun i hi=>ne i 0 hi
   exact ⟨ne 2 4 (by decide),ne 3 4 (by decide),(n0 4 (by decide)).symm,ne 1 4 (by decide),ne 2 3 (by decide),n0 2 (by decide),ne 2 1 (by decide),n0 3 (by decide),ne 3 1 (by decide),(n0 1 (by decide)).symm,
    ⟨f1 _ (N2 _ _),f1 _ (N2 _ _),f1 _ (Nb _),f1 _ (N2 _ _)⟩,⟨f2 _ (N2 _ _),f2 _ (N2 _ _),f2 _ (Nb _),f2 _ (N2 _ _)⟩⟩
  cases tg with
  | Tuple elts kk tp =>
   refine ⟨s1.heap.objs.size+4,_,_,_,H1,rfl,I1.kept (t':=s1.toks) fun b o e=>y7 b o e,wu D,⟨y1,y2,⟨_,_,y3⟩,y4,y5⟩,fun c hc=>?_,post H1 m1 _ x1 R1 (B5 z1 z2)⟩
   have hle:s1.heap.objs.size<=c:=by
    simp only[O3,Oo,or_false] at hc
    rcases hc with rfl | rfl | rfl | rfl | rfl
    ·exact N2 _ _
    ·exact N2 _ _
    ·exact N2 _ _
    ·exact Nb _
    ·exact N2 _ _
   exact I1.rN hle (I1.hok.fresh hle)
  | _=>exact BT.dN hz
noncomputable def Itc (x:Str):It:=⟨fun i _=>i < x.cps.size,fun i H v H'=>H'=H/\∃ c,x.cps[i]?=some c/\v=.str ⟨#[c]⟩,fun i _=>x.cps.size<=i⟩
theorem zj {P:Nk}{w:Nz}{K:MV}{tg:M7} (it:M9) (x:Str) (t:Tok):Turn P w K tg (Itc x) [it] it (fun i h=>h.IsStrIter it (Nq x) x t i) where
 mem:=by simp
 obj:=fun i h st b hb=>by
  have e:b=it:=by simpa using hb
  subst e
  obtain ⟨o,e,c,d⟩:=st
  exact ⟨o,e,fun v z=>by rw[d] at z;cases z⟩
 keep:=fun i h h' st k=>let ⟨q,e,r⟩:=st;⟨q,k it (by simp) q e,r⟩
 item:=by
  intro X hP hw hK hc i pins s σ H E I hf st hg
  subst hP hw hK
  obtain ⟨f0,f1,f2,f3,f4,f5⟩:=hf it (by simp)
  have fin:∀ {ty:String}{v:MZ}{h':Heap}{tk:Nat},Nq x=ty->(["enumerate","zip","dict_itemiterator","dict_reverseitemiterator","odict_iterator","itertools.zip_longest","itertools.pairwise"].contains ty=false)->(∃ c u,x.cps[i]?=some c/\v=.str ⟨#[c]⟩ u)->h'.IsStrIter it ty x t (i+1)->(∀ b o,b∉[it]->s.heap.get? b=some o->h'.get? b=some o) →
   ∃ u,some v=some u/\wpAny (Nv X.prog X.w) X.A (PV tg (.ref it) u) (fun _ s2=>∃ x' H',Inv X pins σ H' s2/\RelV x' u/\(Itc x).yld i H x' H'/\s2.heap.IsStrIter it (Nq x) x t (i+1)/\∀ b∈[it],H' b=none) E { s with heap:=h',toks:=tk }:=by
   intro ty v h' tk ety hn hv st' kk
   obtain ⟨c,u,hc,rfl⟩:=hv
   have I1:Inv X pins σ H { s with heap:=h',toks:=tk }:=I.turned (fun b o hb e=>kk b o (by simpa using hb) e) f0 f1 f3 f4 f5
   obtain ⟨o,e,c',d⟩:=id st'
   refine ⟨_,rfl,nT (s:={ s with heap:=h',toks:=tk }) (n:=ty) e c' d hn ⟨.str ⟨#[c]⟩,H,I1,⟨u,rfl⟩,⟨rfl,c,hc,rfl⟩,by rw[ety];exact st',fun b hb=>(hf b hb).1⟩⟩
  have st:s.heap.IsStrIter it (Nq x) x t i:=st
  cases ha:x.cps.all (· < 128) with
  | true =>
   have ey:Nq x="str_ascii_iterator":=by unfold Nq;rw[if_pos ha]
   rw[ey] at st
   exact (Walks.strAscii (prog:=X.prog) (w:=X.w) (I.ok.hd hc) it x t).item i s _ _ hg st fun v h' tk hv st' kk=>fin ey (by decide) hv st' kk
  | false =>
   have ey:Nq x="str_iterator":=by unfold Nq;rw[if_neg (by rw[ha];decide)]
   rw[ey] at st
   exact (Walks.strWide (prog:=X.prog) (w:=X.w) (I.ok.hd hc) it x t).item i s _ _ hg st fun v h' tk hv st' kk=>fin ey (by decide) hv st' kk
 done:=by
  intro X hP hw hK hc i pins s σ H E I hf st hg
  subst hP hw hK
  obtain ⟨f0,f1,f2,f3,f4,f5⟩:=hf it (by simp)
  have st:s.heap.IsStrIter it (Nq x) x t i:=st
  have hi:x.cps[i]?=none:=Array.getElem?_eq_none hg
  cases ha:x.cps.all (· < 128) with
  | true =>
   have ey:Nq x="str_ascii_iterator":=by unfold Nq;rw[if_pos ha]
   rw[ey] at st
   exact wpAny_pyNext_ascii_end (I.ok.hd hc) st hi fun h' eb=>⟨rfl,I.turned (t':=s.toks) (fun b o hb e=>eb b o hb e) f0 f1 f3 f4 f5⟩
  | false =>
   have ey:Nq x="str_iterator":=by unfold Nq;rw[if_neg (by rw[ha];decide)]
   rw[ey] at st
   exact wpAny_pyNext_wide_end (I.ok.hd hc) st hi fun h' eb=>⟨rfl,I.turned (t':=s.toks) (fun b o hb e=>eb b o hb e) f0 f1 f3 f4 f5⟩
 self:=fun _ _ s _ _ st h=>by
  have st:s.heap.IsStrIter it (Nq x) x t _:=st
  cases ha:x.cps.all (· < 128) with
  | true =>
   have ey:Nq x="str_ascii_iterator":=by unfold Nq;rw[if_pos ha]
   rw[ey] at st
   exact wpAny_pyIter_striter_ascii st h
  | false =>
   have ey:Nq x="str_iterator":=by unfold Nq;rw[if_neg (by rw[ha];decide)]
   rw[ey] at st
   exact wpAny_pyIter_striter_wide st h
theorem Fw {C:BT.HH->Prop}{K:MV}{m0:List M9}{H0:Hp}{x:Str} (ok:PyData.strOk x=true):nK K (Itc x) m0 H0 (BT.nE x) C:=by
 refine ⟨fun m H hh i _ _ _ hi=>by rw[lB] at hi;exact hi,fun m H hh i v H' d _ RR _ hd y=>?_,fun m H _ _ _ _=>by rw[lB];exact Nb _⟩
 obtain ⟨rfl,c,h1,rfl⟩:=y
 obtain ⟨c',h2,rfl⟩:=zh hd
 rw[h1] at h2
 cases h2
 exact ⟨.refl _ _,fun _ _ e=>e,.str _ (j8 ok (Array.mem_toList_iff.mpr (Sh h1)))⟩
theorem Fx {X:Cx}{tg x:M7}{a:BT.E} (he:PE X x (tD X F G a)):PI X tg x (iD X F G .chs (.cons a .nil)):=by
 intro pins s σ H R I q
 obtain ⟨m,s',h,ws,h',ds,RR,S,e,e2,ha,post⟩:=q
 obtain ⟨w,rfl,e4⟩:=ly e
 obtain ⟨y,rfl,rfl⟩:∃ y,w=.p (.str y)/\ds=BT.nE y:=by
  have hp:=ha.p (fun z=>by cases z)
  cases w with
  | p d =>
   rw[show ([BT.W.p d]:List BT.W)=[d].map BT.W.p from rfl,pP,NP] at e2
   cases d with
   | str y=>cases e2;exact ⟨y,rfl,rfl⟩
   | _=>exact cR e2
  | _=>exact BT.dN hp
 refine thn (he pins s σ H (fun v H1=>∃ m1,v=.str y/\PyData.strOk y=true/\Ext m H m1 H1/\RH X.K m1 H1 h') I ⟨m,s',h,_,h',RR,S,e4,fun v H1 m1 x1 R1 r1=>?_⟩) fun v s1 ⟨x,H1,I1,r1,q1⟩=>?_
 ·cases r1 with
  | p r1 =>
   cases r1 with
   | str _ ok=>exact ⟨m1,rfl,ok,x1,R1⟩
 ·obtain ⟨m1,rfl,ok,x1,R1⟩:=q1
  obtain ⟨t,rfl⟩:=r1
  refine wpAny_pyIter_strU ?_
  refine ⟨s1.heap.objs.size,[s1.heap.objs.size],_,_,H1,rfl,I1.kept (t':=s1.toks) fun b o e=>MY _ e,zj _ y t,⟨_,Nh _ rfl,rfl,rfl⟩,fun b hb=>?_,post H1 m1 _ x1 R1 (Fw ok)⟩
  have e:b=s1.heap.objs.size:=by simpa using hb
  subst e
  exact I1.rN (Nb _) (I1.hok.fresh (Nb _))
end
section
variable {prog:Nk}{w:Nz}{A:NT}{E:MZ->M0->Prop}{s:M0}
theorem B7 (n:Nat):NZ none none (-1) (n:Int)=((n:Int) - 1,-1):=by
 unfold NZ
 have h1:((-1:Int) < 0):=by decide
 simp only[h1,if_true]
theorem sV (n:Nat):NI ((n:Int) - 1) (-1) (-1)=n:=by
 unfold NI
 have h1:¬ ((-1:Int) > 0):=by decide
 simp only[h1,if_false]
 have:(-(-1:Int))=1:=by decide
 rw[this,Int.ediv_one]
 split<;>lia
theorem rj {sl:M9}{n:Nat}{u:Tok}{Q:Int×Int×Nat->M0->Prop} (hs:s.heap.IsSliceOf sl .none .none (.int (-1) u)) (h:Q ((n:Int) - 1,-1,n) s) :
 wpAny (Nv prog w) A (OE (.ref sl) (pure (n:Int))) Q E s:=by
 obtain ⟨os,hos,hcs,hds⟩:=id hs
 unfold OE QE
 refine MW (MW (NW hos hds (x:=.none) rfl (MW (NW hos hds (x:=.none) rfl (MW (NW hos hds (x:=.int (-1) u) rfl (wpAny_pure ?_)))))))
 refine MW (slicePart_int ?_)
 show wpAny _ _ (if ((-1:Int)==0)=true then _ else _) _ _ s
 rw[if_neg (by decide)]
 refine MW (QK (MW (QK (MW (wpAny_pure ?_)))))
 show wpAny _ _ (match NZ none none (-1) (n:Int) with | (lo,hi)=>pure (lo,(-1:Int),NI lo hi (-1))) _ _ s
 rw[B7 n]
 show wpAny _ _ (pure ((n:Int) - 1,(-1:Int),NI ((n:Int) - 1) (-1) (-1))) _ _ s
 rw[sV n]
 exact wpAny_pure h
theorem zk (xs:List MZ):((OG xs.length).filterMap fun (k:Nat)=>xs.toArray[((xs.length:Int) - 1+(k:Int)*(-1)).toNat]?).toArray=xs.reverse.toArray:=by
 congr 1
 have gen:∀ l:List Nat,(∀ k∈l,k < xs.length)->l.filterMap (fun (k:Nat)=>xs.toArray[((xs.length:Int) - 1+(k:Int)*(-1)).toNat]?)=l.map fun k=>xs.getD (xs.length - 1 - k) .none:=by
  intro l
  induction l with
  | nil=>intro _;rfl
  | cons k l ih =>
   intro h
   have hk:=h k M5
   rw[N8,NF,ih fun y hy=>h y (M1 _ hy),show ((xs.length:Int) - 1+(k:Int)*(-1)).toNat=xs.length - 1 - k by lia,So,Rt,Ng (by lia)]
   rfl
 rw[gen _ fun k hk=>List.mem_range.mp hk]
 refine List.ext_getElem? fun i=>?_
 rw[NK]
 by_cases c:i < xs.length
 ·rw[Qw c,Sq c,O0,Rt,Ng (by lia)];rfl
 ·rw[Nr (by simpa using c),Nr (by simpa using c)];rfl
theorem B8 {t sl:M9}{items:List MZ}{u:Tok}{Q:MZ->M0->Prop} (ht:IsTup s.heap t items.toArray) (hs:s.heap.IsSliceOf sl .none .none (.int (-1) u))
 (h:Q (.ref s.heap.objs.size) { s with heap:=s.heap.push { cls:=.type "tuple",data:=.seq items.reverse.toArray } })
 (hsz:items.length<=sizeLine):wpAny (Nv prog w) A (Qm (.ref t) (.ref sl)) Q E s:=by
 have hdrop:sizeOk (.seq items.reverse.toArray):=by
  show items.reverse.toArray.size<=sizeLine
  rw[M3,SQ]
  exact hsz
 obtain ⟨os,hos,hcs,hds⟩:=id hs
 have hTs:s.TypeIs (.ref sl) "slice":=⟨os,hos,hcs⟩
 unfold Qm
 try with_reducible refine Pc ?_
 first | refine MW (wpAny_pure ?_) | skip
 refine MW (Rm ht.typeIs (by decide) ?_)
 refine MW (N3 (name:=M4 "__getitem__") ht.typeIs NO
  (OH NO ht.typeIs QT ?_ (Q9 _ _)))
 show wpAny _ _ (Pi (.ref t) >>= _) _ _ s
 refine MW (SV ht ?_)
 refine MW (Rx hTs ?_)
 rw[if_pos (by decide)]
 refine MW (rj hs ?_)
 rw[M3]
 show wpAny _ _ (if (((items.length:Int) - 1)==0&&(-1:Int)==1&&items.length==items.toArray.size)=true then _ else _) _ _ s
 rw[if_neg (by simp),zk items]
 first
  | exact MW (m:=NJ _) (NU (wpAny_pure ⟨_,rfl,wpAny_pure h⟩) hdrop)
  | exact MW (m:=NJ _) (NU (MW (wpAny_pure (wpAny_pure ⟨_,rfl,wpAny_pure h⟩))) hdrop)
  | exact MW (MW (m:=NJ _) (NU (wpAny_pure (wpAny_pure ⟨_,rfl,wpAny_pure h⟩)) hdrop))
  | exact MW (MW (m:=NJ _) (NU (wpAny_pure ⟨_,rfl,wpAny_pure h⟩) hdrop))
end
section
variable {F:FT}{G:Str->Option BT.W}
theorem zl {vs:List V}{us:List MZ} (r:cX vs us):cX vs.reverse us.reverse:=by
 induction r with
 | nil=>exact .nil
 | cons q _ ih=>rw[P1,P1];exact ih.append (.cons q .nil)
theorem B9 {K:MV}{m:List M9}{H:Hp}{vs:List V}{ds:List BT.D} (r:RDs K m H vs ds):RDs K m H vs.reverse ds.reverse:=by
 induction vs generalizing ds with
 | nil=>cases r;exact .nil
 | cons v vs ih =>
  cases r with
  | cons a t=>rw[P1,P1];exact (ih t).append (.cons a .nil)
theorem Fy {X:Cx}{a:BT.E}{x:M7}{c:Nat}{p1 p2 p3 p:Pos} (ha:PE X x (tD X F G a)) (hs:PE X (.UnaryOp .USub (.Constant (.int 1) c p1) p3) (tC (.int (-1)))):PE X (.Subscript x (.Slice none none (some (.UnaryOp .USub (.Constant (.int 1) c p1) p3)) p2) p) (tD X F G (.rvs a)):=by
 intro pins s σ H Q I q
 obtain ⟨m,sl,h,z,h',R,S,ee,post⟩:=q
 simp only[BT.ev] at ee
 obtain ⟨w,h1,e1,e2⟩:=cT ee
 obtain ⟨xs,rfl,rfl,rfl⟩:∃ xs,w=.p (.tup xs)/\z=.p (.tup xs.reverse)/\h'=h1:=by
  cases w with
  | p d =>
   cases d with
   | tup xs=>cases e2;exact ⟨xs,rfl,rfl,rfl⟩
   | _=>exact cR e2
  | _=>exact cR e2
 refine SJ (thn (ha pins s σ H (fun v H1=>∃ m1 b vs,v=.ref b/\Ext m H m1 H1/\RH X.K m1 H1 h'/\SqT X.K H1 b vs/\RDs X.K m1 H1 vs xs) I ⟨m,sl,h,_,h',R,S,e1,fun v H1 m1 x1 R1 r1=>?_⟩) fun v s1 ⟨y,H1,I1,r1,m1,b,vs,ey,x1,R1,hq,rr⟩=>?_)
 ·cases r1 with
  | p r1 =>
   cases r1 with
   | @tup b vs _ hb r=>exact ⟨m1,b,vs,rfl,x1,R1,hb.elim (fun q=>.inl q.1) fun ⟨o,its,n,q,_⟩=>.inr ⟨o,its,n,q⟩,r⟩
 ·subst ey
  cases r1
  refine wpAny_Slice ?_
  rw[Q6]
  refine wpAny_pure (wpAny_pure ?_)
  rw[SY]
  refine thn (hs pins s1 σ H1 (fun v H'=>v=.int (-1)/\H'=H1) I1 ⟨rfl,rfl⟩) fun u3 s3 zq=>?_
  obtain ⟨y,H3,I3,r3,hy,hh⟩:=zq
  subst hy hh
  obtain ⟨t,rfl⟩:=r3
  have I4:Inv X pins σ H3 { s3 with heap:=s3.heap.push { cls:=.type "slice",data:=.fields #[.none,.none,.int (-1) t] } }:=I3.kept (t':=s3.toks) fun b ob q=>MY _ q
  obtain ⟨its,rv,pt,hz⟩:=I4.tuple hq
  have hlen:=rv.length
  have hg:wpAny (Nv X.prog X.w) X.A (Qm (.ref b) (.ref s3.heap.objs.size)) (EP X pins σ Q) X.xe { s3 with heap:=s3.heap.push { cls:=.type "slice",data:=.fields #[.none,.none,.int (-1) t] } }:=by
   refine B8 pt (Qa ..) ?_ (by lia)
   refine ⟨.ref _,_,I4.laid (t':=s3.toks) (o:=.tup vs.reverse) (fun b ob q=>MY _ q) (Nb _) ⟨by rw[SQ];lia,its.reverse,zl rv,IsTup.new _ _⟩,rfl,iQ R1 (I4.hok.fresh (Nb _)) (B9 rr) fun v5 H5 m5 x5 R5 r5=>post v5 H5 m5 (x1.trans x5) R5 r5⟩
  show wpAny (Nv X.prog X.w) X.A (Q5 x _ (.ref b) (.ref s3.heap.objs.size)) (EP X pins σ Q) X.xe _
  exact RU (ops:=[.ref b,.ref s3.heap.objs.size]) pt.typeIs PyProof.Rows.slot_tuple_getitem.lookup hg (by with_unfolding_all rfl)
end
section
variable {X:Cx}{F:FT}{G:Str->Option BT.W}
end
section
theorem wA {X:Cx}{v:V}{ds:List BT.D} (r:∀ m H,RW X.prog X.w X.K m H v (.p (.tup ds))):∃ a vs,v=.ref a/\KT X.K a vs:=by
 have z:=r [] (fun _=>none)
 cases z with
 | p z =>
  cases z with
  | @tup a vs _ h _ =>
   rcases h with ⟨h,_⟩ | h
   ·rcases h with h | ⟨o,h⟩<;>exact cR h
   ·exact ⟨a,vs,rfl,h⟩
theorem wB {X:Cx}{sc:NY}{N:List Str} (O:Ok X F G sc N) {x:Str}{as:BT.Es}{es:List M7}{np apos cpos:Pos} (h2:dQ sc x=true) (h3:ff x=true) (hl:(apos.endLine==cpos.line)=true) (hlen:es.length < 20) (hc:CEs sc N as es) (ha:PA X es (tDs X F G as)) :
 PE X (.Call (.Attribute (.Name x np) "index" apos) es [] cpos) (tD X F G (.me .tindex (.glo x) as)):=by
 have hst:=gu hc
 intro pins s σ H Q I q
 obtain ⟨m,s',h,z,h',R,S,ee,post⟩:=q
 simp only[BT.ev] at ee
 obtain ⟨w,g,e1,e2⟩:=cT ee
 obtain ⟨_,e2⟩:=uy e2
 obtain ⟨ws,g2,e3,e4⟩:=cT e2
 obtain ⟨w',e5,e6⟩:=cY e1
 cases e6
 obtain ⟨u,v0,hm,rv,rw0⟩:=O.glob _ _ e5
 have hT:∃ ds xs,BT.dm ws=some ds/\w=.p (.tup xs)/\ds≠[]:=by
  cases w with
  | r n=>cases ws<;>(first | exact cR e4 | simp[BT.meW] at e4)
  | k q=>cases ws<;>(first | exact cR e4 | simp[BT.meW] at e4)
  | c _ _=>cases ws<;>(first | exact cR e4 | simp[BT.meW] at e4)
  | x _=>cases ws<;>(first | exact cR e4 | simp[BT.meW] at e4)
  | o q=>cases ws<;>(first | exact cR e4 | simp[BT.meW] at e4)
  | p d =>
   rw[BT.lS] at e4
   cases gp:BT.dm ws with
   | none=>rw[gp] at e4;exact cR e4
   | some ds =>
    rw[gp] at e4
    obtain ⟨b,e7,e8⟩:=cY e4
    cases d with
    | tup xs=>refine ⟨ds,xs,rfl,rfl,fun z=>?_⟩;subst z;exact cR e7
    | _=>cases ds<;>exact cR e7
 obtain ⟨ds,xs,gp,rfl,hne⟩:=hT
 obtain ⟨a,vt,rfl,o,its,n,⟨k1,k2,k3,k4,k5⟩,k6⟩:=wA rw0
 cases es with
 | nil =>
  cases as with
  | cons a r=>exact (mE hc).elim
  | nil=>simp only[BT.evs] at e3;cases e3;simp[BT.dm] at gp;exact absurd gp hne
 | cons e es =>
  simp only[cU,M6] at hst
  have h30:decide ((e :: es).length+([]:List PJ).length+(if ([]:List PJ).isEmpty then 0 else 1) < 30)=true:=decide_eq_true (by
   simp only[Ni,Px,Q2,if_true] at hlen ⊢;lia)
  refine (C1 PySem.F.plainAttrs_tuple PySem.F.slot_tuple_index PySem.F.type_tuple_index (v7 O.hu) (tT (dS O h2) hm rv (fS h3).1) ha rfl (by
   rw[iI (es:=e :: es) (by simp only[cU,M6];exact hst),h30];rfl) hl (cV hst.1) (dw hst.2)) pins s σ H Q I ?_
  refine ⟨.inr (.inl ⟨rfl,o,k1,k2,k6⟩),m,s',h,ws,g2,R,S,e3,fun vs H2 m2 x2 R2 r2=>?_⟩
  exact ⟨m2,g2,.p (.tup xs),ws,z,h',R2,rw0 m2 H2,r2,e4,fun v5 H5 m5 x5 R5 r5=>post v5 H5 m5 (x2.trans x5) R5 r5⟩
theorem Fz {X:Cx}{me:BT.Me} (hm:me=.append\/me=.pop\/me=.extend) {o:BT.E}:∀ (m:List M9) (h h2:BT.HH) (H:Hp) (v:V) (x:BT.W) ws r,RH X.K m H h->RW X.prog X.w X.K m H v x->BT.nG x h=true->BT.meW me x ws h2=some r->(∃ σ s,RS X.prog X.w X.K m H σ s/\∃ h0,BT.ev F G o s h0=some (x,h))->tyV X.K "list" v H:=by
 intro m h h2 H v x ws r R rq ok e _
 obtain ⟨n,rfl⟩:=LK hm e
 exact ty_list R rq ok
theorem LQ {X:Cx}{o:BT.E}:∀ (m:List M9) (h h2:BT.HH) (H:Hp) (v:V) (x:BT.W) ws r,RH X.K m H h->RW X.prog X.w X.K m H v x->BT.nG x h=true->BT.meW .sindex x ws h2=some r->(∃ σ s,RS X.prog X.w X.K m H σ s/\∃ h0,BT.ev F G o s h0=some (x,h))->tyV X.K "str" v H:=by
 intro m h h2 H v x ws r R rq _ e _
 cases x with
 | r n=>cases ws<;>(first | exact cR e | simp[BT.meW] at e)
 | k q=>cases ws<;>(first | exact cR e | simp[BT.meW] at e)
 | c _ _=>cases ws<;>(first | exact cR e | simp[BT.meW] at e)
 | x _=>cases ws<;>(first | exact cR e | simp[BT.meW] at e)
 | o q=>cases ws<;>(first | exact cR e | simp[BT.meW] at e)
 | p d =>
  rw[BT.lT] at e
  cases g:BT.dm ws with
  | none=>rw[g] at e;exact cR e
  | some ds =>
   rw[g] at e
   obtain ⟨b,e7,e8⟩:=cY e
   cases d with
   | str y=>cases rq with | p r=>cases r;exact rfl
   | _=>cases ds<;>exact cR e7
theorem IY {X:Cx}{me:BT.Me} (hm:me=.count\/me=.lindex) {o:BT.E}:∀ (m:List M9) (h h2:BT.HH) (H:Hp) (v:V) (x:BT.W) ws r,RH X.K m H h->RW X.prog X.w X.K m H v x->BT.nG x h=true->BT.meW me x ws h2=some r->(∃ σ s,RS X.prog X.w X.K m H σ s/\∃ h0,BT.ev F G o s h0=some (x,h))->tyV X.K "list" v H:=by
 intro m h h2 H v x ws r R rq _ e _
 have key:∃ xs,x=.p (.lst xs):=by
  cases x with
  | r n=>rcases hm with rfl | rfl<;>cases ws<;>(first | exact cR e | simp[BT.meW] at e)
  | k q=>rcases hm with rfl | rfl<;>cases ws<;>(first | exact cR e | simp[BT.meW] at e)
  | c _ _=>rcases hm with rfl | rfl<;>cases ws<;>(first | exact cR e | simp[BT.meW] at e)
  | x _=>rcases hm with rfl | rfl<;>cases ws<;>(first | exact cR e | simp[BT.meW] at e)
  | o q=>rcases hm with rfl | rfl<;>cases ws<;>(first | exact cR e | simp[BT.meW] at e)
  | p d =>
   rw[qU] at e
   cases g:BT.dm ws with
   | none=>rw[g] at e;exact cR e
   | some ds =>
    rw[g] at e
    obtain ⟨b,e7,e8⟩:=cY e
    cases d with
    | lst y=>exact ⟨y,rfl⟩
    | _=>rcases hm with rfl | rfl<;>cases ds<;>exact cR e7
 obtain ⟨xs,rfl⟩:=key
 cases rq with
 | p r =>
  cases r with
  | @lst a vs _ h _=>exact .inl ⟨rfl,vs,LL.sq (h.elim (fun q=>.inl q.1) .inr)⟩
theorem LR (σ:L2.St) (H:Hp) (Q:Bool->Hp->Prop) (q:tDT X F G e σ H Q):tB (tD X F G e) σ H Q:=by
 obtain ⟨m,s,h0,b,h',R,S,ee,post⟩:=q
 refine ⟨m,s,h0,_,h',R,S,ee,fun v H' m' x R' r=>?_⟩
 exact ⟨b,j9 r,post H' m' x R'⟩
noncomputable def XE (F:FT) (G:Str->Option BT.W) (X:Cx) (e':BT.E) (e:M7):Prop:=PE X e (tD X F G e')/\(tOK e'=true->PT X e (tDT X F G e')/\∀ op vs p,e=.BoolOp op vs p->PW X e (tDT X F G e'))
noncomputable def XO (F:FT) (G:Str->Option BT.W) (X:Cx) (es':BT.Es) (o:Option M7):Prop:=∃ t,PO X o t ∧
 ∀ σ H (Q:Option Int->Hp->Prop),(∃ m s h l zs h',RH X.K m H h/\RS X.prog X.w X.K m H σ s/\BT.evs F G es' s h=some (zs,h')/\(BT.dm zs).bind BT.o4=some l/\∀ H' m',Ext m H m' H'->RH X.K m' H' h'->Q l H')->t σ H Q
theorem dY (p:PE X e (tD X F G e')) (hb:∀ op vs q,e≠.BoolOp op vs q) (he:∀ whole,isTrue e X.env whole=(do let v ← whole;RZ e.pos;Ql [v] (truthy v)):=by intro _;rfl):XE F G X e' e :=
 ⟨p,fun _=>⟨PT.weak (DC p he) LR,fun op vs q z=>absurd z (hb op vs q)⟩⟩
theorem FA:XO F G X .nil none:=⟨_,AF,fun σ H Q q=>by
 obtain ⟨m,s,h,l,zs,h',R,S,e1,e2,post⟩:=q
 simp only[BT.evs] at e1
 cases e1
 simp[BT.dm,BT.o4] at e2
 subst e2
 exact post H m (.refl _ _) R⟩
theorem FD (ha:PE X e (tD X F G a)):XO F G X (.cons a .nil) (some e):=by
 refine ⟨_,AG ha,fun σ H Q q=>?_⟩
 obtain ⟨m,s,h,l,zs,h',R,S,e1,e2,post⟩:=q
 simp only[BT.evs] at e1
 obtain ⟨x,h1,e3,e4⟩:=cT e1
 simp only[BT.mw,BT.dh,BT.gF] at e4
 cases e4
 refine ⟨m,s,h,x,h',R,S,e3,fun v H1 m1 x1 R1 r1=>?_⟩
 cases r1 with
 | r _=>simp[BT.dm] at e2
 | k _ _=>simp[BT.dm] at e2
 | kl _ _=>simp[BT.dm] at e2
 | c _ _=>simp[BT.dm] at e2
 | x _=>simp[BT.dm] at e2
 | g _ _=>simp[BT.dm] at e2
 | o _=>simp[BT.dm] at e2
 | p r =>
  cases r<;>simp[BT.dm,BT.o4] at e2
  subst e2
  exact ⟨_,rfl,post H1 m1 x1 R1⟩
theorem gM (ha:PE X e (tD X F G a)) (hs:noStar e=true):PA X [e] (tDs X F G (.cons a .nil)) :=
 PA.weak (gA ha oU (cV hs)) fun σ H Q q=>by
  obtain ⟨m,s,h,z0,h',R,S,ee,post⟩:=cons_of σ H Q q
  exact ⟨m,s,h,z0,h',R,S,ee,fun v H1 m1 x1 R1 r1=>iV (post v H1 m1 x1 R1 r1)⟩
theorem pX (ha:PE X e (tD X F G a)) (hb:PE X f (tD X F G b)) (hs:noStar e=true) (hs2:noStar f=true):PA X [e,f] (tDs X F G (.cons a (.cons b .nil))) :=
 PA.weak (gA ha (gM hb hs2) (cV hs)) cons_of
noncomputable def IZ (sc:NY) (oe:M7) (o:BT.E):Prop:=∃ x p,o=.glo x/\oe=.Name x p/\dQ sc x=true/\ff x=true
noncomputable def LS (sc:NY):Tq->Prop
 | .e o oe=>sJ o=false\/IZ sc oe o
 | _=>True
theorem Ca (h:CQ sc N t):LS sc t:=by
 induction h with
 | glo hg hn=>exact .inr ⟨_,_,rfl,rfl,hg,hn⟩
 | _=>first | exact .inl rfl | exact OY
theorem FE (h:CE' sc N o oe):sJ o=false\/IZ sc oe o:=Ca h
theorem sMe (O:Ok X F G sc N) (h1:EB m o=true) (h2:name=yj m) (h3:dj oe=true) (h6:(apos.endLine==cpos.line)=true) (h7:es.length < 20) (ho:CE' sc N o oe) (ha:CEs sc N as es) (hO:PE X oe (tD X F G o)) (hA:PA X es (tDs X F G as)) :
 PE X (.Call (.Attribute oe name apos) es [] cpos) (tD X F G (.me m o as)):=by
 subst h2
 cases m with
 | append=>exact kg (sc:=sc) (N:=N) Ow PySem.F.slot_list_append PySem.F.type_list_append vY h3 h6 h7 hO ha hA (Fz (.inl rfl))
 | pop=>exact kg (sc:=sc) (N:=N) Ow PySem.F.slot_list_pop PySem.F.type_list_pop ER h3 h6 h7 hO ha hA (Fz (.inr (.inl rfl)))
 | extend=>exact kg (sc:=sc) (N:=N) Ow PySem.F.slot_list_extend PySem.F.type_list_extend vZ h3 h6 h7 hO ha hA (Fz (.inr (.inr rfl)))
 | sindex=>exact kg (sc:=sc) (N:=N) P5 PySem.F.slot_str_index PySem.F.type_str_index v8 h3 h6 h7 hO ha hA LQ
 | tindex =>
  rcases FE ho with z | ⟨x,p,rfl,rfl,hg,hn⟩
  ·exact Bool.noConfusion (z.symm.trans h1)
  ·exact wB O hg hn h6 h7 ha hA
 | dget=>simp[EB] at h1
 | count=>exact kg (sc:=sc) (N:=N) Ow PySem.F.slot_list_count PySem.F.type_list_count (yR O.hu) h3 h6 h7 hO ha hA (IY (.inl rfl))
 | lindex=>exact kg (sc:=sc) (N:=N) Ow PySem.F.slot_list_index PySem.F.type_list_index (we O.hu) h3 h6 h7 hO ha hA (IY (.inr rfl))
theorem I0 (pe:PE X (.BoolOp .And (x :: r) p) (tD X F G (.and a b))) (w:tOK (.and a b)=true->PW X (.BoolOp .And (x :: r) p) (tDT X F G (.and a b))):XE F G X (.and a b) (.BoolOp .And (x :: r) p) :=
 ⟨pe,fun ht=>⟨(w ht).pt,fun _ _ _ e=>by cases e;exact w ht⟩⟩
theorem sOr (pe:PE X (.BoolOp .Or (x :: r) p) (tD X F G (.or a b))) (w:tOK (.or a b)=true->PW X (.BoolOp .Or (x :: r) p) (tDT X F G (.or a b))):XE F G X (.or a b) (.BoolOp .Or (x :: r) p) :=
 ⟨pe,fun ht=>⟨(w ht).pt,fun _ _ _ e=>by cases e;exact w ht⟩⟩
theorem lC (h:tOK (.and a b)=true):tOK a=true/\tOK b=true:=by
 have h:(tOK a&&tOK b)=true:=h
 simpa only[M6] using h
theorem pY (h:tOK (.or a b)=true):tOK a=true/\tOK b=true:=by
 have h:(tOK a&&tOK b)=true:=h
 simpa only[M6] using h
noncomputable def MX (F:FT) (G:Str->Option BT.W) (sc:NY) (N:List Str):Tq->Prop
 | .e e' e=>∀ (X:Cx),Ok X F G sc N->XE F G X e' e
 | .es as es=>∀ (X:Cx),Ok X F G sc N->PA X es (tDs X F G as)
 | .o es' o=>∀ (X:Cx),Ok X F G sc N->XO F G X es' o
 | .c cond ifs=>mQ F G sc N cond ifs
 | .i sr sa iter=>∀ (X:Cx),Ok X F G sc N->∀ (tg:M7),oi sr tg=true->PI X tg iter (iD X F G sr sa)
theorem sQ (h:CQ sc N t):MX F G sc N t:=by
 refine @CQ.rec (fun sc N t _=>MX F G sc N t)
  (fun h1 h2 h3 X O=>dY (ux O h1 h2 h3) (fun _ _ _ z=>nomatch z))
  (fun h X O=>dY (Bd h) (fun _ _ _ z=>nomatch z))
  (fun h2 h3 X O=>dY (Be O h2 h3) (fun _ _ _ z=>nomatch z))
  (fun h _ _ ia ib X O=>dY (PE.weak (GZ (opB h) (ia _ O).1 (ib _ O).1) (pL fun s h=>by simp only[BT.ev])) (fun _ _ _ z=>nomatch z))
  (fun _ ia X O=>dY (PE.weak (xo rQ (ia _ O).1) EZ) (fun _ _ _ z=>nomatch z))
  (fun _ ia X O=>⟨PE.weak (DG (ia _ O).1) Bj,fun ht=>⟨PT.weak (DF ((ia _ O).2 ht).1) Bh,fun _ _ _ e=>nomatch e⟩⟩)
  (fun _ _ ia ib X O=>I0 (PE.weak (wX (ia _ O).1 (wW (ib _ O).1)) uB) fun ht=>PW.weak (wV ((ia _ O).2 (lC ht).1).1 (Ao ((ib _ O).2 (lC ht).2).1)) uC)
  (fun _ _ ia ib X O=>I0 (PE.weak (wX (ia _ O).1 (ib _ O).1) uB) fun ht=>PW.weak (wV ((ia _ O).2 (lC ht).1).1 (((ib _ O).2 (lC ht).2).2 _ _ _ rfl)) uC)
  (fun _ _ ia ib X O=>sOr (PE.weak (CW (ia _ O).1 (wW (ib _ O).1)) yF) fun ht=>PW.weak (CP ((ia _ O).2 (pY ht).1).1 (DE ((ib _ O).2 (pY ht).2).1)) yG)
  (fun _ _ ia ib X O=>sOr (PE.weak (CW (ia _ O).1 (ib _ O).1) yF) fun ht=>PW.weak (CP ((ia _ O).2 (pY ht).1).1 (((ib _ O).2 (pY ht).2).2 _ _ _ rfl)) yG)
  (fun h _ _ hm ia ib X O=>⟨PE.weak (tY (opC O h) (ia _ O).1 (ib _ O).1 hm) (pL fun s h=>by simp only[BT.ev]),fun _=>⟨PT.weak (tZ (opC O h) (ia _ O).1 (ib _ O).1 hm) (mF (pL fun s h=>by simp only[BT.ev])),fun _ _ _ e=>nomatch e⟩⟩)
  (fun h h' _ _ _ hm ia ib ic X O=>⟨PE.weak (xu (opC O h) (opC O h') (ia _ O).1 (ib _ O).1 (ic _ O).1 hm) qW,fun _=>⟨PT.weak (xw (opC O h) (opC O h') (ia _ O).1 (ib _ O).1 (ic _ O).1 hm) (mF qW),fun _ _ _ e=>nomatch e⟩⟩)
  (fun h _ _ _ ic ia ib X O=>⟨PE.weak (wY ((ic _ O).2 h).1 (ia _ O).1 (ib _ O).1) EY,fun ht=>nomatch ht⟩)
  (fun _ ia X O=>⟨PE.weak (DY (ia _ O)) E3,fun ht=>nomatch ht⟩)
  (fun _ ia X O=>⟨PE.weak (DZ (ia _ O)) E4,fun ht=>nomatch ht⟩)
  (fun _ _ hs ia ii X O=>dY (PE.weak (Hi EO (ia _ O).1 (ii _ O).1 (yC hs)) (pL fun s h=>by simp only[BT.ev])) (fun _ _ _ z=>nomatch z))
  (fun _ _ _ ia il iu X O=>dY (by
   obtain ⟨tl,hl1,hl2⟩:=il _ O
   obtain ⟨tu,hu1,hu2⟩:=iu _ O
   exact PE.weak (xN osl (ia _ O).1 hl1 hu1) (E1 hl2 hu2)) (fun _ _ _ z=>nomatch z))
  (fun hg hn ha ia X O=>dY (yH O hg hn ha (ia _ O)) (fun _ _ _ z=>nomatch z))
  (fun hu hb hg hs _ ia X O=>dY (E2 O hu hb hg (by simp[cU,hs]) (gM (ia _ O).1 hs)) (fun _ _ _ z=>nomatch z))
  (fun hb hg hg2 hs _ ia X O=>dY (yI O hb hg hg2 hs (ia _ O).1) (fun _ _ _ z=>nomatch z))
  (fun h1 h2 h3 h6 h7 ho ha io ia X O=>dY (sMe O h1 h2 h3 h6 h7 ho ha (io _ O).1 (ia _ O)) (fun _ _ _ z=>nomatch z))
  (fun hu hk ht hz hs _ _ _ ii ic ie X O=>⟨BJ O hu hk ht hs (ii _ O _ hz) ic fun X' O'=>(ie _ O').1,fun ht=>nomatch ht⟩)
  (fun hb hf _ ia X O=>dY (Bl (sc:=sc) (N:=N) hb hf (ia _ O).1) (fun _ _ _ z=>nomatch z))
  (fun h3 h6 h7 _ ha io ia X O=>dY (yK O h3 h6 h7 (io _ O).1 ha (ia _ O)) (fun _ _ _ z=>nomatch z))
  (fun hk _ ia X O=>dY (Bm hk (ia _ O).1) (fun _ _ _ z=>nomatch z))
  (fun hu hb hg hs1 hs2 _ _ ia ib X O=>dY (Bo O hu hb hg (by simp[cU,hs1,hs2]) (pX (ia _ O).1 (ib _ O).1 hs1 hs2)) (fun _ _ _ z=>nomatch z))
  (fun hg hn ha ia X O=>dY (yL O hg hn ha (ia _ O)) (fun _ _ _ z=>nomatch z))
  (fun _ ia X O=>dY (Fy (ia _ O).1 (PE.weak (xo rQ oQ) fun σ H Q q=>⟨_,rfl,q⟩)) (fun _ _ _ z=>nomatch z))
  (fun h3 h6 hs _ _ io ia X O=>dY (pQ P5 PySem.F.slot_str_join PySem.F.type_str_join (ty_str (k:=.join) (fun q=>nomatch q) fun ds d e=>let ⟨x,ys,ts,h,_⟩:=qY e;⟨x,_,h⟩) BA h3 h6 (by simp[cU,hs]) (by simp) (io _ O).1 (gM (ia _ O).1 hs)) (fun _ _ _ z=>nomatch z))
  (fun h3 h6 hs _ _ io ia X O=>dY (pQ P5 PySem.F.slot_str_split PySem.F.type_str_split (ty_str (k:=.split) (fun q=>nomatch q) fun ds d e=>let ⟨x,y,h,_⟩:=oz e;⟨x,_,h⟩) yX h3 h6 (by simp[cU,hs]) (by simp) (io _ O).1 (gM (ia _ O).1 hs)) (fun _ _ _ z=>nomatch z))
  (fun h3 h6 hs _ _ io ia X O=>dY (pQ Rr O9 RO ty_dict zb h3 h6 (by simp[cU,hs]) (by simp) (io _ O).1 (gM (ia _ O).1 hs)) (fun _ _ _ z=>nomatch z))
  (fun h3 h6 hs hs2 _ _ _ io ia ib X O=>dY (pQ Rr O9 RO ty_dict zb h3 h6 (by simp[cU,hs,hs2]) (by simp) (io _ O).1 (pX (ia _ O).1 (ib _ O).1 hs hs2)) (fun _ _ _ z=>nomatch z))
  (fun hg hs _ ia X O=>dY (PE.weak (fO Fg (dS O hg) (O.blt _ (by decide)) (by decide +kernel) (gM (ia _ O).1 hs) (by decide) (by decide) (cV hs) rfl) fun σ H Q z=>yY z) (fun _ _ _ z=>nomatch z))
  (fun hg hs _ ia X O=>dY (PE.weak (fO Fi (dS O hg) (O.blt _ (by decide)) (by decide +kernel) (gM (ia _ O).1 hs) (by decide) (by decide) (cV hs) rfl) fun σ H Q z=>yY z) (fun _ _ _ z=>nomatch z))
  (fun hu hg hs _ ia X O=>dY (PE.weak (gk (Fj (O.calm hu)) (dS O hg) (O.blt _ (by decide)) (by decide +kernel) (gM (ia _ O).1 hs) (by decide) (by decide) (cV hs) rfl) fun σ H Q z=>yY z) (fun _ _ _ z=>nomatch z))
  (fun _ _ hm ia ib X O=>⟨PE.weak (tY Di (ia _ O).1 (ib _ O).1 hm) y9,fun _=>⟨PT.weak (tZ Di (ia _ O).1 (ib _ O).1 hm) (mF y9),fun _ _ _ e=>nomatch e⟩⟩)
  (fun X O=>PA.weak oU fun σ H Q q=>iV q)
  (fun hs _ _ ia ir X O=>PA.weak (gA (ia _ O).1 (ir _ O) (cV hs)) cons_of)
  (fun X O=>FA)
  (fun _ ia X O=>FD (ia _ O).1)
  (.inl ⟨rfl,rfl⟩)
  (fun ht _ ia=>.inr ⟨_,_,rfl,rfl,fun X' O'=>((ia _ O').2 ht).1⟩)
  (fun hg hs _ ia X O _ _=>yU O hg hs (gM (ia _ O).1 hs))
  (fun hg hs hs2 hs3 _ _ _ ia ib ic X O _ _=>zf O hg hs hs2 hs3 (PA.weak (gA (ia _ O).1 (pX (ib _ O).1 (ic _ O).1 hs2 hs3) (cV hs)) cons_of))
  (fun hg hs _ ia X O _ _=>Bv O hg hs (ia _ O).1)
  (fun _ ia X O _ _=>Fx (ia _ O).1)
  (fun hg hs hs2 _ _ ia ib X O _ hz=>B6 O hz hg hs hs2 (pX (ia _ O).1 (ib _ O).1 hs hs2))
  (fun _ ia X O _ _=>Bu (ia _ O).1)
  sc N t h
theorem sE (h:CE' sc N e' e) (O:Ok X F G sc N):PE X e (tD X F G e'):=(sQ h X O).1
theorem sT (h:CE' sc N e' e) (O:Ok X F G sc N) (ht:tOK e'=true):PT X e (tDT X F G e')/\∀ op vs p,e=.BoolOp op vs p->PW X e (tDT X F G e'):=(sQ h X O).2 ht
theorem sCC {cond:BT.Es} (h:CC sc N cond ifs):mQ F G sc N cond ifs:=sQ h
theorem sCI (h:CI sc N sr sa iter) (O:Ok X F G sc N) (hz:oi sr tg=true):PI X tg iter (iD X F G sr sa):=sQ h X O tg hz
end
end BS
end
section
namespace BS
open PySem PySem.Spec PyProof.Rows L2
open Classical in
section
end
section
variable {F:FT}{G:Str->Option BT.W}
section
variable {X:Cx}{cl:List (Str×M9)}{H3 H5:Hp}{s3 s5:M0}{m2 m5:List M9}
end
end
end BS
end
section
namespace BS
open PySem PySem.Spec PyProof.Rows L2
noncomputable def kr:M7->Bool
 | .ListComp _ _ _ _=>false
 | .SetComp _ _ _ _=>false
 | .DictComp _ _ _ _ _=>false
 | _=>true
noncomputable def swB (sc scope:NY) (x:Str) (np pos:Pos):Bool :=
 (if sc.kind.isAnnotationScope then ScopeKind.function else sc.kind)==.function&&sc.names.lookup x==some .local&&np.line==pos.line&&!(scope.names.any fun (n,k)=>n==x&&(k==.local||k==.cell))
mutual
inductive CS (sc:NY) (N:List Str):BT.S->NX->Prop where
 | setc {i:Nat}{x:Str}{mu:Bool}{sr:BT.Sr}{sa:BT.Es}{tg:List Str}{fv:List (Nat×Str)}{cond:BT.Es}{elt:BT.E}{te iter elt':M7}{ifs:List M7}{scope:NY}{pos np p:Pos} (hu:f6 N=true) (h1:N[i]?=some x) (h3:(sc.names.lookup x==some .cell||swB sc scope x np pos)=true)
  (hk:jk sc N tg fv scope=true) (ht:qR (dP scope sc) tg te=true) (hz:oi sr te=true) (hs:ji iter=true) (hi:CI sc N sr sa iter) (hc:CC (dP scope sc) (tg++fv.map (·.2)) cond ifs) (he:CE' (dP scope sc) (tg++fv.map (·.2)) elt elt') :
  CS sc N (.set i (.comp mu sr sa tg fv cond elt)) (.Assign [.Name x np] (.ListComp elt' [⟨te,iter,ifs,0⟩] scope pos) p)
 | set {i:Nat}{x:Str}{e:BT.E}{v:M7}{np p:Pos} (h1:N[i]?=some x) (h2:mL sc x=true) (h3:kr v=true) (he:CE' sc N e v):CS sc N (.set i e) (.Assign [.Name x np] v p)
 | unp {tg:List (Nat×Str)}{e:BT.E}{es:List M7}{k:Nat}{fe:M7}{args:List M7}{kw:List PJ}{tp cp p:Pos} (hu:f6 N=true) (ht:CT sc N tg (.Tuple es k tp)) (he:CE' sc N e (.Call fe args kw cp)):CS sc N (.unp tg e) (.Assign [.Tuple es k tp] (.Call fe args kw cp) p)
 | put {i:Nat}{x:Str}{k e:BT.E}{ke v:M7}{np sp p:Pos} (h1:N[i]?=some x) (h2:qQ sc x=true) (h3:ff x=true) (h4:kr v=true) (h5:lq ke=true) (hk:CE' sc N k ke) (he:CE' sc N e v):CS sc N (.put i k e) (.Assign [.Subscript (.Name x np) ke sp] v p)
 | aug {i:Nat}{x:Str}{o:BT.Bin}{op:P8}{e:BT.E}{v:M7}{np p:Pos} (h1:N[i]?=some x) (h2:mL sc x=true) (h3:yM o op=true) (he:CE' sc N e v):CS sc N (.aug i o e) (.AugAssign (.Name x np) op v p)
 | setf {o e:BT.E}{f:Str}{oe v:M7}{np p:Pos} (h1:attrName f=true) (h2:kr v=true) (ho:CE' sc N o oe) (he:CE' sc N e v):CS sc N (.setf o f e) (.Assign [.Attribute oe f np] v p)
 | augf {o e:BT.E}{f:Str}{b:BT.Bin}{op:P8}{oe v:M7}{np p:Pos} (h1:attrName f=true) (h3:yM b op=true) (ho:CE' sc N o oe) (he:CE' sc N e v):CS sc N (.augf o f b e) (.AugAssign (.Attribute oe f np) op v p)
 | ex {e:BT.E}{v:M7}{p:Pos} (h:kr v=true) (he:CE' sc N e v):CS sc N (.ex e) (.Expr v p)
 | ret {e:BT.E}{v:M7}{p:Pos} (he:CE' sc N e v):CS sc N (.ret e) (.Return (some v) p)
 | ife {c:BT.E}{a b:BT.S}{t:M7}{xs ys:List NX}{p:Pos} (h:tOK c=true) (hc:CE' sc N c t) (ha:CSs sc N a xs) (hb:CSs sc N b ys):CS sc N (.ife c a b) (.If t xs ys p)
 | whl {c:BT.E}{b:BT.S}{t:M7}{xs:List NX}{p:Pos} (h:tOK c=true) (hc:CE' sc N c t) (hb:CSs sc N b xs):CS sc N (.whl c b) (.While t xs [] p)
 | for {tg:List (Nat×Str)}{sr:BT.Sr}{sa:BT.Es}{b:BT.S}{te iter:M7}{xs:List NX}{p:Pos} (hu:f6 N=true) (ht:CT sc N tg te) (hi:CI sc N sr sa iter) (hz:oi sr te=true) (hs:ji iter=true) (hb:CSs sc N b xs):CS sc N (.for tg sr sa b) (.For te iter xs [] p)
 | brk {p:Pos}:CS sc N .brk (.Break p)
 | cnt {p:Pos}:CS sc N .cnt (.Continue p)
 | bad {st:NX}:CS sc N .bad st
inductive CSs (sc:NY) (N:List Str):BT.S->List NX->Prop where
 | nil:CSs sc N .nil []
 | one {s:BT.S}{st:NX} (h:CS sc N s st):CSs sc N s [st]
 | cons {a b:BT.S}{st st2:NX}{r:List NX} (h:CS sc N a st) (hr:CSs sc N b (st2 :: r)):CSs sc N (.seq a b) (st :: st2 :: r)
end
noncomputable def jL (X:Cx) (m:List M9) (H:Hp) (fl:BT.Fl) (D:Ends):Prop:=match fl with
 | .nx s' h'=>∀ σ' H' m',Ext m H m' H'->RH X.K m' H' h'->RS X.prog X.w X.K m' H' σ' s'->D.nx σ' H'
 | .rt z h'=>∀ v H' m',Ext m H m' H'->RH X.K m' H' h'->RW X.prog X.w X.K m' H' v z->D.rt v H'
 | .bk s' h'=>∀ σ' H' m',Ext m H m' H'->RH X.K m' H' h'->RS X.prog X.w X.K m' H' σ' s'->D.bk σ' H'
 | .ct s' h'=>∀ σ' H' m',Ext m H m' H'->RH X.K m' H' h'->RS X.prog X.w X.K m' H' σ' s'->D.ct σ' H'
theorem jL.ext {D:Ends} (x:Ext m H m' H') (p:jL X m H fl D):jL X m' H' fl D:=by
 cases fl<;>exact fun a b c y=>p a b c (x.trans y)
inductive tDS (X:Cx) (F:FT) (G:Str->Option BT.W) (S:BT.S) (D:Ends) (σ:L2.St) (H:Hp):Prop where
 | mk (m:List M9) (s:BT.Sl) (h:BT.HH) (fl:BT.Fl) (R:RH X.K m H h) (r:RS X.prog X.w X.K m H σ s) (e:BT.evS F G S s h=some fl) (p:jL X m H fl D):tDS X F G S D σ H
theorem PS.weak {st:NX} (h:PS X st t) (q:∀ D σ H,t' D σ H->t D σ H):PS X st t':=fun pins s σ H D I hw=>h pins s σ H D I (q _ _ _ hw)
theorem PSs.weak {st:List NX} (h:PSs X st t) (q:∀ D σ H,t' D σ H->t D σ H):PSs X st t':=fun pins s σ H D I hw=>h pins s σ H D I (q _ _ _ hw)
section
theorem zm (D:Ends) (σ:L2.St) (H:Hp) (q:tDS X F G (.seq a b) D σ H):GN (tDS X F G a) (tDS X F G b) D σ H:=by
 obtain ⟨m,s,h,fl,R,S,e,post⟩:=q
 simp only[BT.evS] at e
 cases g:BT.evS F G a s h with
 | none=>rw[g] at e;exact cR e
 | some f1 =>
  rw[g] at e
  refine ⟨m,s,h,f1,R,S,g,?_⟩
  cases f1 with
  | nx s1 h1=>exact fun σ1 H1 m1 x1 R1 S1=>⟨m1,s1,h1,fl,R1,S1,e,post.ext x1⟩
  | rt z h1=>cases e;exact post
  | bk s1 h1=>cases e;exact post
  | ct s1 h1=>cases e;exact post
theorem kL {X:Cx}{S0:BT.S}{a:BT.E}{k:BT.Sl->BT.W->BT.HH->Option BT.Fl} (he:∀ s h,BT.evS F G S0 s h=BT.bnd (BT.ev F G a s h) (k s)) {D:Ends}{σ:L2.St}{H:Hp} (q:tDS X F G S0 D σ H) {R':V->Hp->Prop}
 (h1:∀ m s h x fl v H1,RH X.K m H1 h->RS X.prog X.w X.K m H1 σ s->RW X.prog X.w X.K m H1 v x->k s x h=some fl->jL X m H1 fl D->R' v H1):tD X F G a σ H R':=by
 obtain ⟨m,s,h,fl,R,S,ee,post⟩:=q
 rw[he] at ee
 obtain ⟨x,g,e1,e2⟩:=cT ee
 exact ⟨m,s,h,x,g,R,S,e1,fun v H1 m1 x1 R1 r1=>h1 m1 s g x fl v H1 R1 (S.ext x1) r1 e2 (post.ext x1)⟩
theorem uR (h:BT.tst x k=some fl):∃ b g,x=some (.p (.bl b),g)/\k b g=some fl:=by
 unfold BT.tst at h
 obtain ⟨w,g,e1,e2⟩:=cT h
 unfold BT.Ii at e2
 cases w with
 | p d =>
  cases d<;>simp only at e2<;>try contradiction
  exact ⟨_,g,e1,e2⟩
 | r n=>exact cR e2
 | k q=>exact cR e2
 | c _ _=>exact cR e2
 | x _=>exact cR e2
 | o q=>exact cR e2
theorem lD (h:kr e=true):PU e t l env=pure false:=by
 cases e<;>first | rfl | exact BT.dN h
theorem Cb (h:kr e=true):swapsWithSole [t] e l env=pure false:=lD h
theorem sW (h:lq i=true):∀ v,Rz (.Subscript o i pos) env v=(do
 let ov ← Ql [v] (eval o env)
 let iv ← Ql [v,ov] (eval i env)
 RZ pos
 Ql [v,ov,iv] (setItem ov iv v)
 release [v,ov,iv] []):=by
 intro v
 cases i<;>first | rfl | exact BT.dN h
theorem FF (D:Ends) (σ:L2.St) (H:Hp) (q:tDS X F G (.whl c b) D σ H):xh (tDT X F G c) (tDS X F G b) D σ H:=by
 obtain ⟨m0,s,h,fl,R,S,e,post⟩:=q
 simp only[BT.evS] at e
 refine ⟨fun n σ H=>∃ m s h,RH X.K m H h/\RS X.prog X.w X.K m H σ s/\BT.fz (BT.ev F G c) (BT.evS F G b) n s h=some fl/\jL X m H fl D,⟨BT.turns,m0,s,h,R,S,e,post⟩,?_⟩
 rintro n σ1 H1 ⟨m,s,h,R,S,e,post⟩
 cases n with
 | zero=>exact cR e
 | succ n =>
  rw[BT.fz] at e
  obtain ⟨t,g,e1,e2⟩:=uR e
  refine ⟨m,s,h,t,g,R,S,e1,fun H2 m2 x2 R2=>?_⟩
  cases t with
  | false =>
   rw[BT.Ex] at e2
   cases e2
   rw[if_neg (by decide)]
   exact post σ1 H2 m2 x2 R2 (S.ext x2)
  | true =>
   rw[BT.o9] at e2
   rw[if_pos rfl]
   refine ⟨fun σ' H'=>∃ m' s' h',RH X.K m' H' h'/\RS X.prog X.w X.K m' H' σ' s'/\BT.fz (BT.ev F G c) (BT.evS F G b) n s' h'=some fl/\jL X m' H' fl D,fun σ' H' ⟨m',s',h',a1,a2,a3,a4⟩=>⟨n,OW n,m',s',h',a1,a2,a3,a4⟩,?_⟩
   cases gb:BT.evS F G b s g with
   | none=>rw[gb] at e2;exact cR e2
   | some f1 =>
    rw[gb] at e2
    refine ⟨m2,s,g,f1,R2,S.ext x2,gb,?_⟩
    cases f1 with
    | nx s1 h1=>exact fun σ3 H3 m3 x3 R3 S3=>⟨m3,s1,h1,R3,S3,e2,(post.ext x2).ext x3⟩
    | ct s1 h1=>exact fun σ3 H3 m3 x3 R3 S3=>⟨m3,s1,h1,R3,S3,e2,(post.ext x2).ext x3⟩
    | bk s1 h1=>cases e2;exact fun σ3 H3 m3 x3 R3 S3=>post σ3 H3 m3 (x2.trans x3) R3 S3
    | rt z h1=>cases e2;exact fun v H3 m3 x3 R3 r3=>post v H3 m3 (x2.trans x3) R3 r3
theorem FG (D:Ends) (σ:L2.St) (H:Hp) (q:tDS X F G (.aug i o e) D σ H):GV i (tD X F G e) (E5 o) D σ H:=by
 obtain ⟨m,s,h,fl,R,S,ee,post⟩:=q
 simp only[BT.evS] at ee
 obtain ⟨y,g,e1,e2⟩:=cT ee
 unfold BT.Ir at e2
 have hs:∃ d d' z,s[i]?=some (some (.p d))/\y=.p d'/\BT.lR o d d'=some z/\fl=.nx (s.set i (some (.p z))) g:=by
  cases g1:s[i]? with
  | none=>rw[g1] at e2;cases y<;>exact cR e2
  | some ow =>
   cases ow with
   | none=>rw[g1] at e2;cases y<;>exact cR e2
   | some w0 =>
    rw[g1] at e2
    cases w0<;>cases y<;>simp only at e2<;>try contradiction
    obtain ⟨z,e3,e4⟩:=cY e2
    exact ⟨_,_,z,rfl,rfl,e3,e4.symm⟩
 obtain ⟨d,d',z,g1,rfl,e3,rfl⟩:=hs
 obtain ⟨a,b,k,rfl,rfl,rfl⟩:=uF e3
 obtain ⟨v,hv,rv⟩:=S.get i _ g1
 have ev:v=.int a:=by cases rv with | p rv=>cases rv;rfl
 subst ev
 refine ⟨_,hv,m,s,h,_,g,R,S,e1,fun u H1 m1 x1 R1 r1=>?_⟩
 cases r1 with
 | p r1 =>
  cases r1
  exact ⟨a,b,k,rfl,rfl,e3,post _ H1 m1 x1 R1 ((S.ext x1).set (.p (.int k)))⟩
theorem wC (e:BT.pq s f v x h=some fl):∃ n c fs,x=.o n/\BT.oat h n=some (c,fs)/\BT.attrOk v=true/\fs.length < 1000/\fl=.nx s (h.set n (.o c (BT.d8 f v fs))):=by
 cases x with
 | o n =>
  rw[BT.yc] at e
  cases g:BT.oat h n with
  | none=>rw[g] at e;exact cR e
  | some q =>
   obtain ⟨c,fs⟩:=q
   rw[g] at e
   simp only at e
   obtain ⟨c1,e⟩:=c6 e
   cases e
   simp only[M6,decide_eq_true_eq] at c1
   exact ⟨n,c,fs,rfl,g,c1.1,c1.2,rfl⟩
 | p d=>exact cR e
 | r n=>exact cR e
 | k q=>exact cR e
 | c _ _=>exact cR e
 | x _=>exact cR e
theorem rm {D:Ends} (R:RH X.K m H h) (S:RS X.prog X.w X.K m H σ s) (hn:m[n]?=some a) (h1:H a=some (.ins C dx vs)) (h2:oj X.K c C) (h3:RFs X.K m H vs fs) (ra:RA X.K m H v y)
 (post:jL X m H (.nx s (h.set n (.o c (BT.d8 f y fs)))) D):D.nx σ (upd H a (.ins C dx (L2.d8 f v vs))):=by
 have x:Ext m H m (upd H a (.ins C dx (L2.d8 f v vs))):=mz (Np hn) ⟨_,h1,rfl⟩
 exact post σ _ m x (R.setC hn ⟨_,h1,rfl⟩ ⟨C,dx,_,dR,h2,(RFs.put ra h3).ext x⟩) (S.ext x)
theorem Cd {X:Cx}{o e:BT.E}{f:Str} (hf:attrName f=true) (D:Ends) (σ:L2.St) (H:Hp) (q:tDS X F G (.setf o f e) D σ H):G6 X.K (tD X F G o) (tD X F G e) f D σ H:=by
 refine kL (k:=fun s=>BT.yd (BT.ev F G o s) s f) (fun s h=>by simp only[BT.evS]) q fun m s h y fl v H1 R S r e1 post=>?_
 rw[BT.ye] at e1
 obtain ⟨x,g,e2,e3⟩:=cT e1
 obtain ⟨n,c,fs,rfl,g1,ok,hl,rfl⟩:=wC e3
 refine ⟨m,s,h,.o n,g,R,S,e2,fun u H2 m2 x2 R2 r2=>?_⟩
 cases r2 with
 | @o a _ hn =>
  obtain ⟨C,dx,vs,q1,q2,q3⟩:=R2.qT _ _ _ _ hn g1
  exact ⟨a,C,dx,vs,rfl,q1,q2.cls,q2.no f hf,by rw[q3.length];exact hl,rm R2 (S.ext x2) hn q1 q2 q3 ((r.ext x2).ra ok) (post.ext x2)⟩
theorem zo (e:BT.uq ee s f op x h=some fl):∃ n c fs d y g fs' z,x=.o n/\BT.oat h n=some (c,fs)/\BT.gZ f fs=some (.p d)/\ee h=some (.p y,g)/\BT.oat g n=some (c,fs')/\BT.lR op d y=some z/\fs'.length < 1000/\fl=.nx s (g.set n (.o c (BT.d8 f (.p z) fs'))):=by
 cases x with
 | o n =>
  rw[BT.A1] at e
  cases g1:BT.oat h n with
  | none=>rw[g1] at e;exact cR e
  | some q =>
   obtain ⟨c,fs⟩:=q
   rw[g1] at e
   simp only at e
   cases g2:BT.gZ f fs with
   | none=>rw[g2] at e;exact cR e
   | some w0 =>
    rw[g2] at e
    cases w0 with
    | p d =>
     simp only at e
     obtain ⟨y,g,e1,e2⟩:=cT e
     cases y with
     | p y =>
      rw[BT.yf] at e2
      cases g3:BT.oat g n with
      | none=>rw[g3] at e2;exact cR e2
      | some q =>
       obtain ⟨c',fs'⟩:=q
       rw[g3] at e2
       simp only at e2
       cases g4:BT.lR op d y with
       | none=>rw[g4] at e2;exact cR e2
       | some z =>
        rw[g4] at e2
        simp only at e2
        obtain ⟨c1,e2⟩:=c6 e2
        cases e2
        obtain ⟨rfl,c1⟩:=c1
        exact ⟨n,c',fs,d,y,g,fs',z,rfl,g1,g2,e1,g3,g4,c1,rfl⟩
     | r n=>exact cR e2
     | k q=>exact cR e2
     | c _ _=>exact cR e2
     | x _=>exact cR e2
     | o n=>exact cR e2
    | r n=>exact cR e
    | k q=>exact cR e
    | c _ _=>exact cR e
    | x _=>exact cR e
    | o n=>exact cR e
 | p d=>exact cR e
 | r n=>exact cR e
 | k q=>exact cR e
 | c _ _=>exact cR e
 | x _=>exact cR e
theorem Ce {X:Cx}{o e:BT.E}{f:Str}{b:BT.Bin} (hf:attrName f=true) (D:Ends) (σ:L2.St) (H:Hp) (q:tDS X F G (.augf o f b e) D σ H):ua X.K (tD X F G o) (tD X F G e) (E5 b) f D σ H:=by
 refine kL (k:=fun s=>BT.uq (BT.ev F G e s) s f b) (fun s h=>by simp only[BT.evS]) q fun m s h y fl v H1 R S r e1 post=>?_
 obtain ⟨n,c,fs,d,y,g,fs',z,rfl,g1,g2,e2,g3,g4,hl,rfl⟩:=zo e1
 obtain ⟨i,j,k,rfl,rfl,rfl⟩:=uF g4
 cases r with
 | @o a _ hn =>
  obtain ⟨C,dx,vs,q1,q2,q3⟩:=R.qT _ _ _ _ hn g1
  obtain ⟨u,l,ra⟩:=q3.get g2
  have eu:u=.int i:=by cases ra with | p ra=>cases ra;rfl
  subst eu
  refine ⟨a,C,dx,vs,_,rfl,q1,q2.cls,q2.no f hf,l,m,s,h,_,g,R,S,e2,fun u2 H2 m2 x2 R2 r2=>?_⟩
  cases r2 with
  | p r2 =>
   cases r2
   obtain ⟨C',dx',vs',p1,p2,p3⟩:=R2.qT _ _ _ _ (x2.ix hn) g3
   cases p2.cn.inj q2.cn
   exact ⟨i,j,k,rfl,rfl,g4,dx',vs',p1,by rw[p3.length];exact hl,rm R2 (S.ext x2) (x2.ix hn) p1 p2 p3 (.p (.int k)) (post.ext x2)⟩
theorem FH {X:Cx}{i:Nat}{k e:BT.E} (D:Ends) (σ:L2.St) (H:Hp) (q:tDS X F G (.put i k e) D σ H):w6 (tD X F G e) (GU (tD X F G (.var i)) (tD X F G k) CZ) D σ H:=by
 refine kL (k:=fun s=>BT.Ez (BT.ev F G k s) s i) (fun s h=>by simp only[BT.evS]) q fun m s h y fl v H1 R S r e1 post=>?_
 unfold BT.Ez at e1
 cases y with
 | r n=>exact cR e1
 | k q=>exact cR e1
 | c _ _=>exact cR e1
 | x _=>exact cR e1
 | o q=>exact cR e1
 | p d =>
  cases g:s[i]? with
  | none=>rw[g] at e1;exact cR e1
  | some o =>
   cases o with
   | none=>rw[g] at e1;exact cR e1
   | some wz =>
    cases wz with
    | p _=>rw[g] at e1;exact cR e1
    | k _=>rw[g] at e1;exact cR e1
    | c _ _=>rw[g] at e1;exact cR e1
    | x _=>rw[g] at e1;exact cR e1
    | o _=>rw[g] at e1;exact cR e1
    | r n =>
     rw[g] at e1
     simp only at e1
     obtain ⟨q,h2,e2,e3⟩:=cT e1
     refine ⟨m,s,h,.r n,h,R,S,by simp only[BT.ev,g],fun o H2 m2 x2 R2 r2=>⟨m2,s,h,q,h2,R2,S.ext x2,e2,fun ki H3 m3 x3 R3 r3=>?_⟩⟩
     unfold BT.C7 at e3
     cases q with
     | r _=>exact cR e3
     | k _=>exact cR e3
     | c _ _=>exact cR e3
     | x _=>exact cR e3
     | o _=>exact cR e3
     | p dk =>
      cases g2:BT.lat h2 n with
      | none=>rw[g2] at e3;cases dk<;>exact cR e3
      | some xs =>
       rw[g2] at e3
       cases dk with
       | int j =>
        simp only at e3
        cases g3:BT.place xs.length j with
        | none=>rw[g3] at e3;exact cR e3
        | some mm =>
         rw[g3] at e3
         cases e3
         have r2':=r2.ext x3
         cases r2' with
         | @r a _ hn =>
          cases r3 with
          | p r3 =>
           cases r3
           obtain ⟨us,hH,ru⟩:=R3.cell n a xs hn g2
           refine ⟨a,us,j,mm,rfl,rfl,hH,by rw[ru.length];exact g3,?_⟩
           have x4:Ext m3 H3 m3 (upd H3 a (.lst (us.set mm v))):=gq (Np hn) hH
           cases r with
           | p r=>exact post σ _ m3 ((x2.trans x3).trans x4) (R3.set hn hH (RDs.set ((r.ext x2).ext x3) mm ru)) (((S.ext x2).ext x3).ext x4)
       | _=>exact cR e3
end
section
theorem FI (hg:GOk X tg g) (D:Ends) (σ:L2.St) (H:Hp) (q:tDS X F G (.for tg sr sa b) D σ H):GY (iD X F G sr sa) g (tDS X F G b) D σ H:=by
 obtain ⟨m,s,h,fl,R,S,e,post⟩:=q
 simp only[BT.evS] at e
 obtain ⟨ws,h1,e1,e2⟩:=cT e
 unfold BT.kFor at e2
 cases g1:(BT.rds ws h1).bind (BT.fH sr) with
 | none=>rw[g1] at e2;exact cR e2
 | some ds =>
  rw[g1] at e2
  simp only at e2
  split at e2
  ·rename_i ca
   refine ⟨m,s,h,ws,h1,ds,R,S,e1,g1,.inl ca,fun H1 m1 J x1 R1 it=>?_⟩
   refine ⟨fun i n σ H=>i<=ds.length/\n=ds.length - i/\∃ m s h,Ext m1 H1 m H/\RH X.K m H h/\RS X.prog X.w X.K m H σ s/\BT.eN (BT.evS F G b) tg (ds.drop i) s h=some fl/\jL X m H fl D,
    ⟨ds.length,Py _,rfl,m1,s,h1,.refl _ _,R1,S.ext x1,by rw[List.drop_zero];exact e2,post.ext x1⟩,?_⟩
   rintro i n σ2 H2 ⟨hi,rfl,m2,s2,h2,x2,R2,S2,e3,post2⟩
   by_cases c:i < ds.length
   ·refine .inr ⟨it.go m2 H2 h2 i x2 R2 (mJ ca) c,_,fun σ' H' z=>⟨ds.length - (i+1),by lia,c,rfl,z⟩,fun x H3 y=>?_⟩
    obtain ⟨x3,k3,r3⟩:=it.yld m2 H2 h2 i x H3 ds[i] x2 R2 (mJ ca) (Ng c) y
    rw[RJ c,BT.eN] at e3
    cases g2:BT.target tg.length ds[i] with
    | none=>rw[g2] at e3;exact cR e3
    | some dd =>
     rw[g2] at e3
     simp only at e3
     have R3:=R2.ext x3 k3
     refine hg m2 H3 σ2 s2 x ds[i] dd _ (S2.ext x3) r3 g2 fun σ4 S4=>?_
     cases g3:BT.evS F G b (BT.sets tg dd s2) h2 with
     | none=>rw[g3] at e3;exact cR e3
     | some f1 =>
      rw[g3] at e3
      refine ⟨m2,_,h2,f1,R3,S4,g3,?_⟩
      cases f1 with
      | nx s5 h5=>exact fun σ5 H5 m5 x5 R5 S5=>⟨m5,s5,h5,(x2.trans x3).trans x5,R5,S5,e3,(post2.ext x3).ext x5⟩
      | ct s5 h5=>exact fun σ5 H5 m5 x5 R5 S5=>⟨m5,s5,h5,(x2.trans x3).trans x5,R5,S5,e3,(post2.ext x3).ext x5⟩
      | bk s5 h5=>cases e3;exact fun σ5 H5 m5 x5 R5 S5=>post2 σ5 H5 m5 (x3.trans x5) R5 S5
      | rt z h5=>cases e3;exact fun v H5 m5 x5 R5 r5=>post2 v H5 m5 (x3.trans x5) R5 r5
   ·have ei:i=ds.length:=by lia
    subst ei
    refine .inl ⟨it.stop m2 H2 h2 x2 R2 (mJ ca),?_⟩
    rw[List.drop_length,BT.eN] at e3
    cases e3
    exact post2 σ2 H2 m2 (.refl _ _) R2 S2
  ·exact cR e2
theorem Ja {X:Cx}{sc:NY}{N:List Str} (O:Ok X F G sc N) {x:Str}{np pos p:Pos}{elt':M7}{gs:List Comprehension}{scope:NY} (h:swB sc scope x np pos=true):PU (.ListComp elt' gs scope pos) (some (.Name x np)) p.line X.env=pure true:=by
 have e:PU (.ListComp elt' gs scope pos) (some (.Name x np)) p.line X.env=pure (swB X.env.scope scope x np pos):=rfl
 rw[e,O.hsc,h]
theorem Cf (c:(sc.names.lookup x==some .cell)=true):mL sc x=true:=by
 unfold mL
 rw[eq_of_beq c]
theorem zp (h:swB sc scope x np pos=true):sc.names.lookup x=some .local:=by
 unfold swB at h
 simp only[M6] at h
 exact eq_of_beq h.1.1.2
theorem Jb {X:Cx}{sc:NY}{N:List Str} (O:Ok X F G sc N) {x:Str}{np pos p:Pos}{elt':M7}{gs:List Comprehension}{scope:NY} (c:(sc.names.lookup x==some .cell)=true):PU (.ListComp elt' gs scope pos) (some (.Name x np)) p.line X.env=pure false:=by
 have e:PU (.ListComp elt' gs scope pos) (some (.Name x np)) p.line X.env=pure (swB X.env.scope scope x np pos):=rfl
 have z:swB sc scope x np pos=false:=by
  cases h:swB sc scope x np pos with
  | false=>rfl
  | true =>
   have:=zp h
   rw[eq_of_beq c] at this
   cases this
 rw[e,O.hsc,z]
theorem zu:PSs X [] (tDS X F G .nil):=PSs.weak Aq fun D σ H q=>by
 obtain ⟨m,s,h,fl,R,S,e,post⟩:=q
 simp only[BT.evS] at e
 cases e
 exact post σ H m (.refl _ _) R S
theorem sS (O:Ok X F G sc N) (hf:∀ x,X.fn x=true) {st:NX} (hh:CS sc N s st):PS X st (tDS X F G s) :=
 CS.rec (motive_1:=fun s st _=>PS X st (tDS X F G s)) (motive_2:=fun s sts _=>PSs X sts (tDS X F G s))
  (@fun i x mu sr sa tg fv cond elt te iter elt' ifs scope pos np p hu h1 h3 hk ht hz hs hi hc he=>by
   have K:∀ (D:Ends) (σ:L2.St) (H:Hp),tDS X F G (.set i (.comp mu sr sa tg fv cond elt)) D σ H->w6 (tD X F G (.comp mu sr sa tg fv cond elt)) (tV i) D σ H:=fun D σ H q =>
    kL (k:=fun s=>BT.ya s i) (fun s h=>rfl) q fun m s h y fl v H1 R S r e1 post=>by
     simp only[BT.ya] at e1
     cases e1
     exact post _ H1 m (.refl _ _) R (S.set r)
   by_cases c:(sc.names.lookup x==some .cell)=true
   ·exact PS.weak (xg (i:=i) O.nd (by rw[O.hN];exact h1) (mO O (Cf c)) (sE (CQ.comp hu hk ht hz hs hi hc he) O) (Jb O c) (.inl (hf x))) K
   ·have h4:swB sc scope x np pos=true:=by
     rw[ON] at h3
     exact h3.resolve_left c
    exact PS.weak (BK O hu hk ht hs (sCI hi O hz) (sCC hc) (fun X' O'=>sE he O') h1 (zp h4) (Ja O h4)) K)
  (@fun i x e v np p h1 h2 h3 he=>PS.weak (xg (i:=i) O.nd (by rw[O.hN];exact h1) (mO O h2) (sE he O) (lD h3) (.inl (hf x))) fun D σ H q =>
   kL (k:=fun s=>BT.ya s i) (fun s h=>by simp only[BT.evS]) q fun m s h y fl v H1 R S r e1 post=>by
    simp only[BT.ya] at e1
    cases e1
    exact post _ H1 m (.refl _ _) R (S.set r))
  (@fun tg e es k fe args kw tp cp p hu ht he=>by
   obtain ⟨g,hg1,hg2⟩:=sCT O (O.calm hu) ht fun q _=>.inl (hf q.2)
   exact PS.weak (w9 (sE he O) hg1 rfl rfl) fun D σ H q=>kL (k:=fun s=>BT.Ey s tg) (fun s h=>by simp only[BT.evS]) q fun m s h y fl v H1 R S r e1 post=>by
    cases r with
    | p r =>
     simp only[BT.Ey] at e1
     rename_i d
     cases g1:BT.unpack tg.length d with
     | none=>rw[g1] at e1;exact cR e1
     | some ds =>
      rw[g1] at e1
      cases e1
      refine hg2 m H1 σ s _ d ds _ S r ?_ fun σ' S'=>post _ H1 m (.refl _ _) R S'
      cases ht with
      | tup hl _ =>
       unfold BT.target
       rw[if_neg (by have:=SD hl;lia)];exact g1
    | _=>exact cR e1)
  (fun h1 h2 h3 h4 h5 hk he=>PS.weak (w9 (sE he O) (DL (ux O h1 h2 h3) (sE hk O) set_list (sW h5)) (Cb h4) rfl) FH)
  (fun h1 h2 h3 he=>PS.weak (DM O.nd (by rw[O.hN];exact h1) (mO O h2) (sE he O) (uE h3) (.inl (hf _))) FG)
  (fun h1 h2 ho he=>PS.weak (DX (sE ho O) (sE he O) (lD h2)) (Cd h1))
  (fun h1 h3 ho he=>PS.weak (vH (sE ho O) (sE he O) (uE h3)) (Ce h1))
  (fun h he=>PS.weak (Ar (sE he O) (lD h)) fun D σ H q =>
   kL (k:=fun s=>BT.kEx s) (fun s h=>by simp only[BT.evS]) q fun m s h y fl v H1 R S r e1 post=>by
    simp only[BT.kEx] at e1
    cases e1
    exact post σ H1 m (.refl _ _) R S)
  (fun he=>PS.weak (DI (sE he O)) fun D σ H q =>
   kL (k:=fun s=>BT.EA) (fun s h=>by simp only[BT.evS]) q fun m s h y fl v H1 R S r e1 post=>by
    simp only[BT.EA] at e1
    cases e1
    exact post v H1 m (.refl _ _) R r)
  (fun h hc ha hb ia ib=>PS.weak (GQ (sT hc O h).1 ia ib) fun D σ H q=>by
   obtain ⟨m,s,h,fl,R,S,e,post⟩:=q
   simp only[BT.evS] at e
   obtain ⟨t,g,e1,e2⟩:=uR e
   refine ⟨m,s,h,t,g,R,S,e1,fun H1 m1 x1 R1=>?_⟩
   simp only[BT.kIf] at e2
   cases t with
   | true=>exact ⟨m1,s,g,fl,R1,S.ext x1,e2,post.ext x1⟩
   | false=>exact ⟨m1,s,g,fl,R1,S.ext x1,e2,post.ext x1⟩)
  (fun h hc hb ib=>PS.weak (xj O.own (sT hc O h).1 ib) FF)
  (fun hu ht hi hz hs hb ib=>by
   obtain ⟨g,hg1,hg2⟩:=sCT O (O.calm hu) ht (fun q _=>.inl (hf q.2))
   exact PS.weak (DO O.own (O.calm hu) (sCI hi O hz) hg1 ib (uJ hs)) (FI hg2))
  (PS.weak wZ fun D σ H q=>by
   obtain ⟨m,s,h,fl,R,S,e,post⟩:=q
   simp only[BT.evS] at e
   cases e
   exact post σ H m (.refl _ _) R S)
  (PS.weak qz fun D σ H q=>by
   obtain ⟨m,s,h,fl,R,S,e,post⟩:=q
   simp only[BT.evS] at e
   cases e
   exact post σ H m (.refl _ _) R S)
  (fun pins s σ H D I q=>by
   obtain ⟨m,s,h,fl,R,S,e,post⟩:=q
   simp only[BT.evS] at e
   exact cR e)
  zu
  (fun _ ih=>tU ih)
  (fun _ _ ih ir=>PSs.weak (qy ih ir) zm)
  hh
theorem sSs (O:Ok X F G sc N) (hf:∀ x,X.fn x=true) {sts:List NX} (hh:CSs sc N s sts):PSs X sts (tDS X F G s):=by
 refine CSs.rec (motive_1:=fun _ _ _=>True) (motive_2:=fun s sts _=>PSs X sts (tDS X F G s)) ?_ ?_ ?_ ?_ ?_ ?_ ?_ ?_ ?_ ?_ ?_ ?_ ?_ ?_ ?_ zu (fun h _=>tU (sS O hf h)) (fun h _ _ ir=>PSs.weak (qy (sS O hf h) ir) zm) hh<;>(intros;trivial)
end
section
variable {K:MV}
mutual
theorem RD.shrink (x:∀ a∈m,a∈m'):∀ {v:V}{d:BT.D},RD K m' H v d->RD K m H v d
 | _,_,.non=>.non
 | _,_,.bl b=>.bl b
 | _,_,.int i=>.int i
 | _,_,.str y h=>.str y h
 | _,_,.tup h r=>.tup (h.elim (fun q=>.inl ⟨q.1,fun z=>q.2 (x _ z)⟩) .inr) (RDs.shrink x r)
 | _,_,.lst h r=>.lst (h.elim (fun q=>.inl ⟨q.1,fun z=>q.2 (x _ z)⟩) .inr) (RDs.shrink x r)
theorem RDs.shrink (x:∀ a∈m,a∈m'):∀ {vs:List V}{ds:List BT.D},RDs K m' H vs ds->RDs K m H vs ds
 | _,_,.nil=>.nil
 | _,_,.cons r t=>.cons (RD.shrink x r) (RDs.shrink x t)
end
end
theorem RFs.shrink {K:MV}:∀ {vs0 vs:List (Str×V)}{fs:List (Str×BT.W)},RFs K m H vs0 fs->RFs K (m++ex) H' vs fs->RFs K m H' vs fs
 | _,_,_,.nil,.nil=>.nil
 | _,_,_,.cons r0 t0,.cons r t=>by
  refine .cons ?_ (RFs.shrink t0 t)
  have back:∀ {n:Nat}{a b:M9},m[n]?=some b->(m++ex)[n]?=some a->m[n]?=some a:=fun {n a b} h1 h2=>by
   rw[Nf (getD_some h1)] at h2
   exact h2
  cases r with
  | p r=>exact .p (r.shrink fun a ha=>Pq _ ha)
  | r h=>cases r0 with | r h0=>exact .r (back h0 h)
  | o h=>cases r0 with | o h0=>exact .o (back h0 h)
theorem RKs.shrink {K:MV} (sub:∀ a∈m,a∈m') (r:RKs K m' H vs kvs):RKs K m H vs kvs:=by
 induction r with
 | nil=>exact .nil
 | cons hk r t ih=>exact .cons (hk.shrink sub) (r.shrink sub) ih
theorem ku {K:MV} (e:BT.fin h y g=some (z,h')) (R:RH K m H h) (x:Ext m H m' H') (R':RH K m' H' g) (r:RW P w K m' H' v y) :
 ∃ m2,Ext m H m2 H'/\RH K m2 H' h'/\RW P w K m2 H' v z:=by
 unfold BT.fin at e
 split at e
 ·cases e;exact ⟨m',x,R',r⟩
 ·split at e
  ·rename_i c1 c2
   obtain ⟨ex,rfl,hx⟩:=x.pre
   have sub:∀ a∈m,a∈m++ex:=fun a ha=>Pq _ ha
   have x2:Ext m H m H':=⟨⟨[],by simp,by simp⟩,x.keep,x.live,x.frz⟩
   have R2:RH K m H' h:=by
    refine ⟨R.nd,R.len,fun i a xs e1 e2=>?_,R'.tb⟩
    have hi:i < m.length:=getD_some e1
    have hi2:i < h.length:=by rw[← R.len];exact hi
    have e3:g[i]?=some xs:=by
     rw[← c2,RP hi2] at e2
     exact e2
    have z:=R'.cl i a xs (by rw[Nf hi];exact e1) e3
    cases xs with
    | l ys=>obtain ⟨vs,q1,q2⟩:=z;exact ⟨vs,q1,q2.shrink sub⟩
    | o c fs =>
     obtain ⟨C0,dx0,vs0,_,_,q0⟩:=R.cl i a _ e1 e2
     obtain ⟨C,dx,vs,q1,q2,q3⟩:=z
     exact ⟨C,dx,vs,q1,q2,q0.shrink q3⟩
    | d kvs=>obtain ⟨vs,q1,q2⟩:=z;exact ⟨vs,q1,q2.shrink sub⟩
    | z=>exact z
   cases r with
   | p r=>cases e;exact ⟨m,x2,R2,.p (r.shrink sub)⟩
   | k _ _=>exact cR e
   | kl _ _=>exact cR e
   | c _ _=>exact cR e
   | x _=>exact cR e
   | g _ _=>exact cR e
   | @o a n hn =>
    simp only at e
    split at e
    ·rename_i c3
     cases e
     refine ⟨m,x2,R2,.o ?_⟩
     rw[Nf (by rw[R.len];exact c3)] at hn
     exact hn
    ·cases e;exact ⟨m++ex,x,R',.o hn⟩
   | @r a n hn =>
    simp only at e
    split at e
    ·rename_i c3
     cases e
     refine ⟨m,x2,R2,.r ?_⟩
     rw[Nf (by rw[R.len];exact c3)] at hn
     exact hn
    ·rename_i c3
     obtain ⟨xs,e4,e5⟩:=cY e
     cases e5
     obtain ⟨vs,q1,q2⟩:=R'.cell n a xs hn e4
     refine ⟨m,x2,R2,.p (.lst (.inl ⟨.inl q1,fun z=>?_⟩) (q2.shrink sub))⟩
     obtain ⟨j,hj⟩:=Ot z
     have hjl:=getD_some hj
     have ej:(m++ex)[j]?=some a:=by rw[Nf hjl];exact hj
     have:=om R'.nd ej hn
     rw[R.len] at hjl
     lia
  ·cases e;exact ⟨m',x,R',r⟩
theorem rA {K:MV} (r:RWs P w K m H vs ws):RS P w K m H (L2.start N vs) (BT.gG N.length ws):=by
 have hl:=r.length
 refine ⟨by simp[L2.start,BT.gG,hl],fun i y e=>?_⟩
 simp only[BT.gG] at e
 by_cases c:i < ws.length
 ·rw[Nf (by simpa using c),NK] at e
  obtain ⟨z,e1,e2⟩:=cY e
  cases e2
  have:∀ {vs:List V}{ws:List BT.W}{i:Nat},RWs P w K m H vs ws->ws[i]?=some y->∃ v,vs[i]?=some v/\RW P w K m H v y:=by
   intro vs ws i r
   induction r generalizing i with
   | nil=>intro e;simp at e
   | cons r t ih =>
    intro e
    cases i with
    | zero=>simp at e;subst e;exact ⟨_,rfl,r⟩
    | succ i=>simpa using ih (by simpa using e)
  obtain ⟨v,h1,h2⟩:=this r e1
  refine ⟨v,?_,h2⟩
  unfold L2.start
  rw[Nf (by simp;lia),NK,h1];rfl
 ·rw[NC (by simpa using c),O5] at e
  split at e<;>cases e
theorem FJ {K:MV} (hT:BT.sI L=some ⟨ns,ns,.ret bt⟩)
 (hg:∀ ws h r,g ws h=some r->ws.length=ns.length/\BT.sH (BT.evS F G (.ret bt) (BT.gG ns.length ws) h) (BT.fin h)=some r)
 (hO:∀ (q:Str) (sc:NY) (cl:List (Str×M9)) (f c':M9) (A:NT) (outer:List Env) (s:M0) (H:Hp),ns.Nodup->eH k (A.deeper (Pv q sc s.heap.objs.size f (.ref c') cl))->Ok (yQ P w K mg base ns q sc cl f c' A outer s H) F G sc ns):qV P w K mg base (k+1) L g:=by
 intro A outer s H f us vs cvs m ws cs h z h' Q E hr e0 rv R rw nc la rc e post
 obtain ⟨bt',ps,fs,pa,be,sc,cl,pm,ctv,c',oc,os,t,q,l0,l1,l2,l3,l4,l5,l6,l7,l8,l9,l10⟩:=la
 rw[hT] at l0
 cases l0
 have lf:=LM l2
 obtain ⟨hwl,e1⟩:=hg _ _ _ e
 have C:=l10.cells l5
 have Ga:=rv.length
 have Gb:=rw.length
 have CK:=l10.len
 have Gc:cvs.length=cs.length:=by
  clear e e1 hwl l10 CK
  induction rc with
  | nil=>rfl
  | cons _ _ ih=>simp[ih]
 have hu:us.length=ps.length:=by
  simp only[Nl,Nd] at hwl
  lia
 refine PySem.W.kla_callFunE hr.depth (e0.hok _ _ l6.1).1 rfl lf.co lf.ge rfl ⟨c',oc,os,t,rfl,(e0.hok _ _ l7.1).1,l8,l9⟩ ?_
 rw[Bp l1 hu]
 refine wpAny_pure (wpAny_newFunctionEnv lf.cell (fun y hy=>lf.loc y.1 (Pw hy).1) (fun h1 hns hsb=>?_) lf.kd)
 have hk1:∀ b o,s.heap.get? b=some o->h1.get? b=some o:=fun b o e=>hsb.extBut b o (Nt (Na e)) (MY _ e)
 refine ⟨e0.mod.nolimit.keeps fun b o e=>hk1 b o (e0.bs b o e).1,?_⟩
 show codeAny _ _ (.expr be (Pv q sc s.heap.objs.size f (.ref c') cl)) _ _
 refine PySem.W.kla_codeExpr ?_
 have I:=Br (q:=q) (f:=f) (c':=c') (tk:=s.toks+(ps.zip us).length) l1 lf l4 l5 l10 hr.hd e0 rv hu hns hk1
 have hr1:eH k (A.deeper (Pv q sc s.heap.objs.size f (.ref c') cl)):=hr.deeper _
 have O:=hO q sc cl f c' A outer s H lf.nd hr1
 simp only[BT.evS] at e1
 cases g1:BT.ev F G bt (BT.gG (ps++fs).length (ws++cs.map BT.Cp.w)) h with
 | none=>rw[g1] at e1;exact cR e1
 | some yg =>
  obtain ⟨y,gh⟩:=yg
  rw[g1] at e1
  have e2:BT.fin h y gh=some (z,h'):=e1
  have hs:RS P w K m (hid cl H) (vs.map some++cvs.map some) (BT.gG (ps++fs).length (ws++cs.map BT.Cp.w)):=by
   have r0:=rA (N:=ps++fs) ((rw.tr C.sq nc).app (RCs.ws (P:=P) (w:=w) (rc.tr C.sq)))
   have e3:L2.start (ps++fs) (vs++cvs)=vs.map some++cvs.map some:=by
    unfold L2.start
    simp only[Nl]
    rw[show ps.length+fs.length - (vs.length+cvs.length)=0 by lia]
    simp
   rw[e3] at r0;exact r0
  refine OT (sE l3 O [] _ _ _ (fun v H'=>∃ m',Ext m (hid cl H) m' H'/\RH K m' H' gh/\RW P w K m' H' v y) I ⟨m,_,h,y,gh,C.rh R,hs,g1,fun v H' m' x' R' r'=>⟨m',x',R',r'⟩⟩) (fun u s' ⟨v,H',I',rv',m',x',R',r'⟩=>?_) (fun e s' hx=>Od hx)
  have N':∀ x c,cl.lookup x=some c->H' c=none:=fun x c e=>I'.freeC x c e
  have le:Le H' (ret cl H H'):=E8 N'
  obtain ⟨m2,x2,R2,r2⟩:=ku e2 (C.rh R) x' R' r'
  have B:Un (frs outer) [] (hid cl H) H' s.heap s'.heap:=I'.base
  have nc':∀ b,H b=none->¬ ∃ y,cl.lookup y=some b:=fun b n ⟨y,qq⟩=>by
   obtain ⟨o,uu,k1,_⟩:=C y b qq
   rw[n] at k1;exact cR k1
  refine ⟨v,ret cl H H',I'.os,I'.bare,⟨fun b o e n hb hx=>B.keep b o e (gv n) hb hx,fun b o e n hb hx=>B.slot b o e (gv n) hb hx,fun b o e n hx=>?_,fun b o e hx=>B.there b o e hx,fun b xs e=>?_,fun b o uu e=>?_,fun b qs e=>?_⟩,fun b uu e=>?_,rv',post v _ m2 (C.E9 N' x2 R2) (R2.le le) (r2.le le)⟩
  ·rw[fJ (nc' b n)];exact B.free b o e (gv n) hx
  ·rw[fJ (C.out e rfl)];exact B.tups b xs (C.hid e rfl)
  ·by_cases cc:∃ y,cl.lookup y=some b
   ·obtain ⟨y,qq⟩:=cc;rw[mG qq];exact e
   ·rw[fJ cc];exact B.frzs b o uu (by rw[iW cc];exact e)
  ·rw[fJ (C.out e rfl)];exact B.tbls b qs (C.hid e rfl)
  ·by_cases cc:∃ y,cl.lookup y=some b
   ·obtain ⟨y,qq⟩:=cc
    rw[mG qq] at e
    obtain ⟨o,u2,k1,k2⟩:=C y b qq
    rw[k1] at e
    cases e
    have k3:=B.keep b o (e0.hok _ _ k1).1 (yP qq) (fun hb=>by rw[e0.frf b hb] at k1;exact cR k1) (by simp)
    exact ⟨k3,_,k3⟩
   ·rw[fJ cc] at e
    exact (I'.hok b uu e).stay (fun _ _ _ q=>q) (fun d q=>le _ _ q) fun d xs q=>le _ _ q
noncomputable def mR (K:MV) (q:Str) (fd:Oz) (fn:BT.Fn):Prop:=∀ y,fn.ns.contains (BT.fR y)=true->q=y/\y∈BT.fZ ∧
 (∃ c P,Om K y=some (c,P)/\fd.code=.ref c/\QH K c P=true/\∀ z∈BT.fZ,∀ c2,Om K z=some (c2,P)->z=y) ∧
 ∃ bm ob,NH K Nj "__builtins__"=some (some (.ref bm))/\bm≠O7/\K.lookup bm=some ob/\ob.cls=.type "module"/\ob.dict=some O7/\ob.data=.plain
inductive Jc (K:MV) (mg:Str->Option MZ) (x:Str) (fn:BT.Fn):Prop where
 | mk (f:M9) (fd:Oz) (st:NX) (h1:mg x=some (.ref f)) (h2:Fun K x x st f fd) (h3:fm fn.ns fn.ps (cZ st)) (h4:Binds K fd fn.ps []) (h5:CSs (cZ st) fn.ns fn.body (dM st)) (h6:mR K x fd fn):Jc K mg x fn
structure Def (K:MV) (mg:Str->Option MZ) (x:Str) (fn:BT.Fn):Prop where
 ex:Jc K mg x fn
inductive Dn (K:MV) (mg:Str->Option MZ) (c m:Str) (fn:BT.Fn):Prop where
 | mk (C f:M9) (fd:Oz) (x qual:Str) (st:NX) (h1:oj K c C) (h2:mg c=some (.ref C)) (h3:xC K C m f) (h4:(m="__init__"->Mk K C f)) (h5:Fun K x qual st f fd) (h6:fm fn.ns fn.ps (cZ st)) (h7:Binds K fd fn.ps []) (h8:CSs (cZ st) fn.ns fn.body (dM st)) (h9:mR K qual fd fn):Dn K mg c m fn
structure FL (K:MV) (mg:Str->Option MZ) (c m:Str) (fn:BT.Fn):Prop where
 ex:Dn K mg c m fn
structure Txt (P:Nk) (w:Nz) (K:MV) (mg:Str->Option MZ) (T:BT.FK->Option BT.Fn) (G:Str->Option BT.W):Prop where
 defs:∀ x fn,T (.f x)=some fn->Def K mg x fn
 meths:∀ c m fn,T (.m c m)=some fn->FL K mg c m fn
 lams:∀ L fn,T (.l L)=some fn->BT.sI L=some fn/\∃ ns bt,fn=⟨ns,ns,.ret bt⟩/\∀ y,ns.contains (BT.fR y)=false
 glob:∀ x z,G x=some z->∃ u v,mg x=some u/\RelV v u/\∀ m H,RW P w K m H v z
 blt:∀ x∈IP,mg x=none
theorem uS (e:BT.runN T G k x ws h=some r):∃ fn,T x=some fn:=by
 cases k with
 | zero=>exact cR e
 | succ k =>
  rw[BT.runN] at e
  cases q:T x with
  | none=>rw[q] at e;exact cR e
  | some fn=>exact ⟨fn,rfl⟩
theorem Cg {K:MV}{st:NX} (F:Fun K x qual st f fd) (S:fm N ps (cZ st)) (len:∀ vs H Q E,sp vs H Q E->vs.length=ps.length)
 (hbody:∀ (cdv:MZ) (A:NT) (outer:List Env) (s:M0) (H:Hp) (vs:List V) (Q:VK) (E:XK),fd.code=cdv->eH k (A.deeper (R6 qual (cZ st) s.heap.objs.size f cdv))->Mod K mg base->sp vs H Q E →
  ∃ t,PSs (rX CX0 P w K mg base N qual (cZ st) f cdv A outer s H E).nox (dM st) t/\t { nx:=fun _ H'=>Q .non H',rt:=Q } (L2.start N vs) H):gB P w K mg base CX0 (k+1) f fd ps sp:=by
 obtain ⟨oc,od,kV,doc,pm,an,cdv,ct,osl,rfl,lk,hcd⟩:=F.ex
 refine ⟨len,fun A outer s H args us vs Q E hr e0 hb r hs=>?_⟩
 have F1:gB P w K mg base CX0 (k+1) f (Ou x qual (fk st) (dM st) (cZ st) .none kV doc pm an cdv ct) ps sp:=Hf lk hcd S len fun A outer s H vs Q E hr hsp=>by
  obtain ⟨t,h,q⟩:=hbody cdv A outer s H vs Q E rfl hr e0.mod hsp
  exact ⟨t,h.nox,q⟩
 exact F1.run A outer s H args us vs Q E hr e0 hb r hs
theorem Do {K:MV} (X:Txt P w K mg T G)
 (ih:∀ (x:BT.FK) (fn:BT.Fn),T x=some fn->∀ (f:M9) (fd:Oz) (nm qual:Str) (st:NX),Fun K nm qual st f fd->fm fn.ns fn.ps (cZ st)->CSs (cZ st) fn.ns fn.body (dM st)->mR K qual fd fn->gB P w K mg base CX0 (2*k) f fd fn.ps (spF P w K (BT.runN T G k x)))
 (il:∀ L,(∃ fn,T (.l L)=some fn)->qV P w K mg base (2*k) L (BT.runN T G k (.l L)))
 (e1:Y.prog=P) (e2:Y.w=w) (e3:Y.K=K) (e4:Y.mg=mg) (e5:Y.base=base) (hsc:Y.env.scope=sc) (hN:Y.N=N) (nd:Y.N.Nodup) (ca:Y.calm=true) (hr:eH (2*k+1) Y.A) (own:PassesOwn (Nv Y.prog Y.w) Y.A Y.env Y.xe)
 (lx:(∀ x,Y.fn x=true)->∀ x,N.contains (BT.fR x)=true->LX Y x):Ok Y (BT.runN T G k) G sc N:=by
 subst e1 e2 e3 e4 e5
 refine ⟨hsc,hN,nd,fun _=>ca,?_,own,X.glob,fun g ws h r e=>?_,fun c g ws h r e=>?_,fun c ws h r e=>?_,X.blt,fun L ws h r e=>⟨2*k,hr.mono (Pz _),il L (uS e)⟩,lx⟩
 ·have:=hr.un
  lia
 ·obtain ⟨fn',hTg⟩:=uS e
  obtain ⟨f',fd',st',a1,a2,a3,a4,a5,a6⟩:=(X.defs g fn' hTg).ex
  exact ⟨f',fd',fn'.ps,2*k,a1,a2.kp,a4,hr.mono (Pz _),ih _ fn' hTg f' fd' g g st' a2 a3 a5 a6⟩
 ·obtain ⟨fn',hTg⟩:=uS e
  obtain ⟨C,f',fd',x',q',st',b1,b2,b3,b4,a2,a3,a4,a5,a6⟩:=(X.meths c g fn' hTg).ex
  exact ⟨C,f',fd',fn'.ps,2*k,b1,b3,a4,hr.mono (Pz _),ih _ fn' hTg f' fd' x' q' st' a2 a3 a5 a6⟩
 ·obtain ⟨fn',hTg⟩:=uS e
  obtain ⟨C,f',fd',x',q',st',b1,b2,b3,b4,a2,a3,a4,a5,a6⟩:=(X.meths c _ fn' hTg).ex
  exact ⟨C,f',fd',fn'.ps,2*k,b1,b2,b4 rfl,a4,hr,ih _ fn' hTg f' fd' x' q' st' a2 a3 a5 a6⟩
theorem Ci {K:MV} (X:Txt P w K mg T G) :
 ∀ (k:Nat),(∀ (x:BT.FK) (fn:BT.Fn),T x=some fn->∀ (f:M9) (fd:Oz) (nm qual:Str) (st:NX),Fun K nm qual st f fd->fm fn.ns fn.ps (cZ st)->CSs (cZ st) fn.ns fn.body (dM st)->mR K qual fd fn->gB P w K mg base CX0 (2*k) f fd fn.ps (spF P w K (BT.runN T G k x))) ∧
  ∀ L,(∃ fn,T (.l L)=some fn)->qV P w K mg base (2*k) L (BT.runN T G k (.l L)):=by
 intro k
 induction k with
 | zero =>
  refine ⟨fun x fn hT f fd nm qual st h2 h3 h5 h6=>?_,fun L hL=>?_⟩
  ·have no:∀ vs H Q E,¬ spF P w K (BT.runN T G 0 x) vs H Q E:=fun vs H Q E h=>by
    obtain ⟨m,ws,h,z,h',_,_,e,_⟩:=h
    exact cR e
   exact ⟨fun vs H Q E h=>absurd h (no vs H Q E),fun A outer s H args us vs Q E _ _ _ _ h=>absurd h (no vs H Q E)⟩
  ·intro A outer s H f us vs cvs m ws cs h z h' Q E hr e0 rv R rw nc la rc e post
   exact cR e
 | succ k ihk =>
  obtain ⟨ih,il⟩:=ihk
  refine ⟨fun x fn hT f fd nm qual st h2 h3 h5 h6=>?_,fun L hL=>?_⟩
  ·show gB P w K mg base CX0 (2*k+1+1) f fd fn.ps (spF P w K (BT.runN T G (k+1) x))
   refine Cg h2 h3 (fun vs H Q E h=>?_) fun cdv A outer s H vs Q E hcd hr hM h=>?_
   ·obtain ⟨m,ws,h,z,h',R,r,e,post⟩:=h
    rw[BT.runN,hT] at e
    simp only at e
    split at e
    ·rename_i c;rw[r.length];exact c
    ·exact cR e
   ·obtain ⟨m,ws,h,z,h',R,r,e,post⟩:=h
    rw[BT.runN,hT] at e
    simp only at e
    split at e
    ·have O:Ok (rX CX0 P w K mg base fn.ns qual (cZ st) f cdv A outer s H E).nox (BT.runN T G k) G (cZ st) fn.ns:=by
      refine Do X ih il rfl rfl rfl rfl rfl rfl rfl h3.nd rfl hr QI fun _ y hy=>?_
      obtain ⟨t1,t2,⟨c,Pt,t3,t4,t5,t6⟩,bm,ob,t7,t8,t9,t10,t11,t12⟩:=h6 y hy
      exact ⟨t2,⟨c,Pt,t3,hcd.symm.trans t4,Sb hM.kin t5,t6⟩,by show qual++".<locals>."=_;rw[t1],bm,ob,OI hM.kin hM.glob t7,t8,hM.kin _ _ t9,t10,t11,t12⟩
     refine ⟨_,sSs O (fun _=>rfl) h5,?_⟩
     cases gg:BT.evS (BT.runN T G k) G fn.body (BT.gG fn.ns.length ws) h with
     | none=>rw[gg] at e;exact cR e
     | some fl =>
      rw[gg] at e
      refine ⟨m,_,h,fl,R,rA r,gg,?_⟩
      cases fl with
      | rt y g =>
       intro v H' m' x' R' r'
       obtain ⟨m2,y1,y2,y3⟩:=ku e R x' R' r'
       exact post v H' m2 y1 y2 y3
      | nx s' g =>
       intro σ' H' m' x' R' _
       obtain ⟨m2,y1,y2,y3⟩:=ku (v:=.non) e R x' R' (.p .non)
       exact post .non H' m2 y1 y2 y3
      | bk s' g=>exact cR e
      | ct s' g=>exact cR e
    ·exact cR e
  ·obtain ⟨fn,hT⟩:=hL
   obtain ⟨hl,ns,bt,rfl,nt⟩:=X.lams L fn hT
   show qV P w K mg base (2*k+1+1) L (BT.runN T G (k+1) (.l L))
   refine FJ (F:=BT.runN T G k) (G:=G) hl (fun ws h r e=>?_) fun q sc cl f c' A outer s H nd hr=>Do X ih il rfl rfl rfl rfl rfl rfl rfl nd rfl hr QI fun _ y hy=>absurd hy (by rw[nt y];decide)
   rw[BT.runN,hT] at e
   simp only at e
   split at e
   ·rename_i c;exact ⟨c,e⟩
   ·exact cR e
theorem FM {K:MV} (X:Txt P w K mg T G) (k:Nat) (x:BT.FK) (fn:BT.Fn) (hT:T x=some fn) (f:M9) (fd:Oz) (nm qual:Str) (st:NX) (h2:Fun K nm qual st f fd) (h3:fm fn.ns fn.ps (cZ st)) (h5:CSs (cZ st) fn.ns fn.body (dM st)) (h6:mR K qual fd fn) :
 gB P w K mg base CX0 (2*k) f fd fn.ps (spF P w K (BT.runN T G k x)):=(Ci X k).1 x fn hT f fd nm qual st h2 h3 h5 h6
end BS
end
section
namespace BT
open PySem
noncomputable def gO:Fn:=⟨["thing"],["thing"],
 (.ret (.cmp .mem (.var 0) (.glo "LETTERS")))⟩
theorem uT:M4 s=M4 t↔s=t:=by
 constructor
 ·intro h
  rw[Qg,Qg] at h
  have h1:(s.toList.map RT)=(t.toList.map RT):=by
   have:=congrArg (fun x:Str=>x.cps.toList) h
   simpa using this
  have inj:∀ (a b:List Char),a.map RT=b.map RT->a=b:=by
   intro a
   induction a with
   | nil=>intro b h;cases b with
    | nil=>rfl
    | cons _ _=>simp at h
   | cons x xs ih=>intro b h;cases b with
    | nil=>simp at h
    | cons y ys =>
     simp only[NF,Pn] at h
     have:x=y:=Char.toNat_inj.mp h.1
     rw[this,ih ys h.2]
  have h2:=inj _ _ h1
  exact String.toList_inj.mp h2
 ·intro h;rw[h]
@[simp] theorem Kc (s t:String):(M4 s==M4 t)=(s==t):=by
 by_cases h:s=t
 ·subst h;simp
 ·have h1:¬ M4 s=M4 t:=fun e=>h (uT.mp e)
  rw[beq_eq_false_iff_ne.mpr h1,beq_eq_false_iff_ne.mpr h]
@[simp] theorem LU (s t:String):(M4 s=M4 t)=(s=t):=propext uT
@[simp] theorem MO (h:List α) (a:α) (r:List α):(h++a :: r)[h.length]?=some a:=by simp
@[simp] theorem Jd (h:List α) (a b:α) (r:List α):(h++a :: b :: r)[h.length+1]?=some b:=by
 rw[NC (by lia)];simp
@[simp] theorem MP (h:List α) (a x:α) (r:List α):(h++a :: r).set h.length x=h++x :: r:=by simp
@[simp] theorem MQ (h:List α) (a b x:α) (r:List α):(h++a :: b :: r).set (h.length+1) x=h++a :: x :: r:=by
 rw[List.set_append_right _ _ (by lia)];simp
theorem cS (h:HH) (w:W):fin h w h=some (w,h):=by simp[fin]
theorem oF (h g:HH) (d:D):fin h (.p d) (h++g)=some (.p d,h):=by
 unfold fin
 cases g with
 | nil=>simp
 | cons c g=>simp
@[simp] theorem MR (h:HH) (a:Cl) (r:HH):lat (h++a :: r) h.length=qH a:=by simp[lat]
@[simp] theorem MS (h:HH) (a b:Cl) (r:HH):lat (h++a :: b :: r) (h.length+1)=qH b:=by
 unfold lat;rw[Jd];rfl
@[simp] theorem MT (h:HH) (a:Cl) (r:HH):oat (h++a :: r) h.length=qI a:=by simp[oat]
@[simp] theorem MU (h:HH) (a b:Cl) (r:HH):oat (h++a :: b :: r) (h.length+1)=qI b:=by
 unfold oat;rw[Jd];rfl
inductive Op where
 | add | sub | mul | less
noncomputable def Op.w:Op->String
 | .add=>"add" | .sub=>"sub" | .mul=>"mul" | .less=>"less"
inductive Nm where
 | a | b | c | d | e | f
noncomputable def Nm.w:Nm->String
 | .a=>"a" | .b=>"b" | .c=>"c" | .d=>"d" | .e=>"e" | .f=>"f"
noncomputable def Nm.ix:Nm->Nat
 | .a=>0 | .b=>1 | .c=>2 | .d=>3 | .e=>4 | .f=>5
inductive Sm where
 | num (n:Int)
 | nam (i:Nm)
 | cell (s:Sm)
 | two (o:Op) (s t:Sm)
noncomputable def Sm.enc:Sm->D
 | .num n=>.tup [.str "num",.int n]
 | .nam i=>.tup [.str "name",.str i.w]
 | .cell s=>.tup [.str "cell",s.enc]
 | .two o s t=>.tup [.str o.w,s.enc,t.enc]
noncomputable def Sm.size:Sm->Nat
 | .num _=>1
 | .nam _=>1
 | .cell s=>s.size+1
 | .two _ s t=>s.size+t.size+1
noncomputable def Wth (n:Int):Prop:=0<=n/\n<=10006
noncomputable def Sm.ok:Sm->Prop
 | .num n=>Wth n
 | .nam _=>True
 | .cell s=>s.ok
 | .two _ s t=>s.ok/\t.ok
theorem Sm.size_pos (s:Sm):1<=s.size:=by cases s<;>simp[Sm.size]
structure St where
 row:Nat
 names:List Int
 cells:List Int
 calls:List Nat
 asked:Nat
 said:List Int
noncomputable def c7 (xs:List Int):List D:=xs.map D.int
noncomputable def Je (xs:List Nat):List D:=xs.map fun (n:Nat)=>D.int (n:Int)
noncomputable def St.enc (s:St):D:=.tup [.int s.row,.tup (c7 s.names),.tup (c7 s.cells),.tup (Je s.calls),.int s.asked,.tup (c7 s.said)]
structure St.ok (s:St):Prop where
 nlen:s.names.length=6
 clen:s.cells.length=4
 nw:∀ x∈s.names,Wth x
 cw:∀ x∈s.cells,Wth x
noncomputable def two (o:Op) (x y:Int):Int:=match o with
 | .add=>(x+y) % 10007
 | .sub=>(x - y) % 10007
 | .mul=>(x*y) % 10007
 | .less=>if x < y then 1 else 0
noncomputable def Sm.val (st:St):Sm->Int
 | .num n=>n
 | .nam i=>st.names.getD i.ix 0
 | .cell s=>st.cells.getD (s.val st % 4).toNat 0
 | .two o s t=>BT.two o (s.val st) (t.val st)
section
noncomputable def Cj:List D:=[.str "a",.str "b",.str "c",.str "d",.str "e",.str "f"]
theorem Ck (x:Nm):fG .mem (.str x.w) (.tup Cj)=some true:=by cases x<;>simp[Cj,Nm.w]
end
section
variable {T:FK->Option Fn}{F:FK->List W->HH->Option (W×HH)}{G:Str->Option W}{i:Nat}{e e' c:E}{a b:S}{s s':Sl}{h g:HH}{w:W}{d d' z:D}
end
section
theorem jM (xs:List α) (i:Nat):atP xs (i:Int)=xs[i]?:=by
 unfold atP place
 by_cases h:i < xs.length
 ·have h1:((i:Int) < (xs.length:Int)):=by lia
  simp[h1,h]
 ·have h1:¬ ((i:Int) < (xs.length:Int)):=by lia
  simp[h1];lia
inductive Rw where
 | set (x:Nm) (s:Sm) | put (s t:Sm) | ask (x:Nm) | say (s:Sm) | jump (p:Nat) | unless (s:Sm) (p:Nat) | call (p:Nat) | back | stop
noncomputable def Rw.enc:Rw->D
 | .set x s=>.tup [.str "set",.str x.w,s.enc]
 | .put s t=>.tup [.str "put",s.enc,t.enc]
 | .ask x=>.tup [.str "ask",.str x.w]
 | .say s=>.tup [.str "say",s.enc]
 | .jump p=>.tup [.str "jump",.int p]
 | .unless s p=>.tup [.str "unless",s.enc,.int p]
 | .call p=>.tup [.str "call",.int p]
 | .back=>.tup [.str "back"]
 | .stop=>.tup [.str "stop"]
noncomputable def mS (s:Sm):Prop:=s.ok/\s.size<=15
noncomputable def Rw.ok (n:Nat):Rw->Prop
 | .set _ s=>mS s
 | .put s t=>mS s/\mS t
 | .ask _=>True
 | .say s=>mS s
 | .jump p=>p<=n
 | .unless s p=>mS s/\p<=n
 | .call p=>p<=n
 | .back=>True
 | .stop=>True
noncomputable abbrev Pg:=List Rw
noncomputable def gP (p:Pg):D:=.tup (p.map Rw.enc)
noncomputable def Pg.ok (p:Pg):Prop:=∀ r∈p,r.ok p.length
noncomputable def Rw.next (asked:List Int) (st:St):Rw->St
 | .set x s=>{ st with row:=st.row+1,names:=st.names.set x.ix (s.val st) }
 | .put s t=>{ st with row:=st.row+1,cells:=st.cells.set (s.val st % 4).toNat (t.val st) }
 | .ask x=>{ st with row:=st.row+1,names:=st.names.set x.ix (asked.getD st.asked 0),asked:=st.asked+1 }
 | .say s=>{ st with row:=st.row+1,said:=st.said++[s.val st] }
 | .jump p=>{ st with row:=p }
 | .unless s p=>{ st with row:=if s.val st=0 then p else st.row+1 }
 | .call p=>{ st with row:=p,calls:=st.calls++[st.row+1] }
 | .back=>{ st with row:=st.calls.getLast?.getD 0,calls:=st.calls.dropLast }
 | .stop=>st
noncomputable def Rw.over (st:St):Rw->Bool
 | .back=>st.calls.length==0
 | .call _=>decide (6<=st.calls.length)
 | .stop=>true
 | _=>false
noncomputable def over (p:Pg) (st:St):Bool:=match p[st.row]? with
 | some r=>r.over st
 | none=>true
noncomputable def step (p:Pg) (asked:List Int) (st:St):St:=match p[st.row]? with
 | some r=>r.next asked st
 | none=>st
noncomputable def St.zero:St:=⟨0,[0,0,0,0,0,0],[0,0,0,0],[],0,[]⟩
noncomputable def sts (p:Pg) (asked:List Int):Nat->St->List St
 | 0,st=>[st]
 | n+1,st=>if over p st then [st] else st :: sts p asked n (step p asked st)
noncomputable def Rw.word:Rw->String
 | .set _ _=>"set" | .put _ _=>"put" | .ask _=>"ask" | .say _=>"say" | .jump _=>"jump" | .unless _ _=>"unless" | .call _=>"call" | .back=>"back" | .stop=>"stop"
theorem zw (xs:List Int):(c7 xs).length=xs.length:=by simp[c7]
end
section
end
noncomputable def fB:Fn:=⟨["_law_script","_law_k"],["_law_script","_law_k"],
 (.seq (.ife (.cmp .eq (.var 0) (.lst false .nil)) (.ret (.bin .mul (.cst (.int 7)) (.var 1))) .nil)
 (.ret (.bin .add (.idx (.var 0) (.bin .mod (.var 1) (.bi .len false (.cons (.var 0) .nil)))) (.bin .mul (.cst (.int 6553)) (.bin .fdiv (.var 1) (.bi .len false (.cons (.var 0) .nil)))))))⟩
noncomputable def fK:Fn:=⟨["_law_script","_law_k","_law_many"],["_law_script","_law_k","_law_many","_law_cell_here"],
 (.seq (.set 3 (.bin .mod (.bin .add (.bin .mul (.bin .mod (.call "_law_cell" (.cons (.var 0) (.cons (.var 1) .nil))) (.cst (.int 2147483563))) (.cst (.int 69069))) (.bin .mul (.cst (.int 104723)) (.bin .add (.var 1) (.cst (.int 1))))) (.cst (.int 2147483563))))
 (.seq (.set 3 (.bin .mod (.bin .add (.bin .mul (.var 3) (.var 3)) (.bin .fdiv (.var 3) (.cst (.int 3)))) (.cst (.int 2147483399))))
 (.ret (.bin .mod (.bin .fdiv (.bin .mod (.bin .add (.bin .mul (.var 3) (.var 3)) (.bin .fdiv (.var 3) (.cst (.int 7)))) (.cst (.int 2147483647))) (.cst (.int 11))) (.var 2)))))⟩
noncomputable def smL:S:=(.seq (.ife (.cmp .eq (.call "_law_drawn" (.cons (.var 0) (.cons (.bin .add (.var 1) (.cst (.int 1))) (.cons (.cst (.int 2)) .nil)))) (.cst (.int 0))) (.ret (.tup (.cons (.cst (.str "num")) (.cons (.idx (.lst false (.cons (.cst (.int 0)) (.cons (.cst (.int 1)) (.cons (.cst (.int 2)) (.cons (.cst (.int 3)) (.cons (.cst (.int 10)) (.cons (.cst (.int 10006)) .nil))))))) (.call "_law_drawn" (.cons (.var 0) (.cons (.bin .add (.var 1) (.cst (.int 2))) (.cons (.cst (.int 6)) .nil))))) .nil)))) .nil)
 (.ret (.tup (.cons (.cst (.str "name")) (.cons (.idx (.cst (.str "abcf")) (.call "_law_drawn" (.cons (.var 0) (.cons (.bin .add (.var 1) (.cst (.int 2))) (.cons (.cst (.int 4)) .nil))))) .nil)))))
noncomputable def smR:S:=(.seq (.set 4 (.call "_law_sum" (.cons (.var 0) (.cons (.bin .add (.bin .mul (.var 1) (.cst (.int 2))) (.cst (.int 5))) (.cons (.bin .sub (.var 2) (.cst (.int 1))) .nil)))))
 (.seq (.ife (.cmp .lt (.var 3) (.cst (.int 6))) (.ret (.tup (.cons (.cst (.str "cell")) (.cons (.var 4) .nil)))) .nil)
 (.ret (.tup (.cons (.idx (.lst false (.cons (.cst (.str "add")) (.cons (.cst (.str "sub")) (.cons (.cst (.str "mul")) (.cons (.cst (.str "less")) .nil))))) (.bin .sub (.var 3) (.cst (.int 6)))) (.cons (.var 4) (.cons (.call "_law_sum" (.cons (.var 0) (.cons (.bin .add (.bin .mul (.var 1) (.cst (.int 2))) (.cst (.int 19))) (.cons (.bin .sub (.var 2) (.cst (.int 1))) .nil)))) .nil)))))))
noncomputable def eU:Fn:=⟨["_law_script","_law_at","_law_deep"],["_law_script","_law_at","_law_deep","_law_way","_law_one"],
 (.seq (.set 3 (.call "_law_drawn" (.cons (.var 0) (.cons (.var 1) (.cons (.cst (.int 10)) .nil)))))
 (.seq (.ife (.or (.cmp .eq (.var 2) (.cst (.int 0))) (.cmp .lt (.var 3) (.cst (.int 4)))) smL .nil)
 smR))⟩
noncomputable def gQ:Fn:=⟨["_law_script","_law_at","_law_size"],["_law_script","_law_at","_law_size","_law_way","_law_place","_law_name","_law_one"],
 (.seq (.set 3 (.call "_law_drawn" (.cons (.var 0) (.cons (.var 1) (.cons (.cst (.int 16)) .nil)))))
 (.seq (.set 4 (.call "_law_drawn" (.cons (.var 0) (.cons (.bin .add (.var 1) (.cst (.int 1))) (.cons (.bin .add (.var 2) (.cst (.int 1))) .nil)))))
 (.seq (.set 5 (.idx (.cst (.str "abc")) (.call "_law_drawn" (.cons (.var 0) (.cons (.bin .add (.var 1) (.cst (.int 2))) (.cons (.cst (.int 3)) .nil))))))
 (.seq (.set 6 (.call "_law_sum" (.cons (.var 0) (.cons (.bin .add (.var 1) (.cst (.int 3))) (.cons (.cst (.int 2)) .nil)))))
 (.seq (.ife (.cmp .lt (.var 3) (.cst (.int 5))) (.ret (.tup (.cons (.cst (.str "set")) (.cons (.var 5) (.cons (.var 6) .nil))))) .nil)
 (.seq (.ife (.cmp .lt (.var 3) (.cst (.int 7))) (.ret (.tup (.cons (.cst (.str "put")) (.cons (.call "_law_sum" (.cons (.var 0) (.cons (.bin .add (.var 1) (.cst (.int 9))) (.cons (.cst (.int 1)) .nil)))) (.cons (.var 6) .nil))))) .nil)
 (.seq (.ife (.cmp .lt (.var 3) (.cst (.int 9))) (.ret (.idx (.lst false (.cons (.tup (.cons (.cst (.str "ask")) (.cons (.var 5) .nil))) (.cons (.tup (.cons (.cst (.str "say")) (.cons (.var 6) .nil))) .nil))) (.bin .sub (.var 3) (.cst (.int 7))))) .nil)
 (.seq (.ife (.cmp .lt (.var 3) (.cst (.int 12))) (.ret (.idx (.lst false (.cons (.tup (.cons (.cst (.str "jump")) (.cons (.var 4) .nil))) (.cons (.tup (.cons (.cst (.str "unless")) (.cons (.var 6) (.cons (.var 4) .nil)))) (.cons (.tup (.cons (.cst (.str "unless")) (.cons (.tup (.cons (.cst (.str "name")) (.cons (.var 5) .nil))) (.cons (.var 4) .nil)))) .nil)))) (.bin .sub (.var 3) (.cst (.int 9))))) .nil)
 (.ret (.idx (.lst false (.cons (.tup (.cons (.cst (.str "call")) (.cons (.var 4) .nil))) (.cons (.tup (.cons (.cst (.str "call")) (.cons (.var 4) .nil))) (.cons (.tup (.cons (.cst (.str "back")) .nil)) (.cons (.idx (.lst false (.cons (.tup (.cons (.cst (.str "stop")) .nil)) (.cons (.tup (.cons (.cst (.str "back")) .nil)) .nil))) (.bin .mod (.var 4) (.cst (.int 2)))) .nil))))) (.bin .sub (.var 3) (.cst (.int 12)))))))))))))⟩
noncomputable def d7:Fn:=⟨["_law_script","_law_at"],["_law_script","_law_at","_law_size","_law_put","_law_sign","_law_rows"],
 (.seq (.set 2 (.bin .add (.cst (.int 1)) (.call "_law_drawn" (.cons (.var 0) (.cons (.var 1) (.cons (.cst (.int 9)) .nil))))))
 (.seq (.ife (.cmp .eq (.call "_law_drawn" (.cons (.var 0) (.cons (.bin .add (.var 1) (.cst (.int 1))) (.cons (.cst (.int 4)) .nil)))) (.cst (.int 0))) (.seq (.set 3 (.tup (.cons (.cst (.str "put")) (.cons (.tup (.cons (.cst (.str "name")) (.cons (.cst (.str "a")) .nil))) (.cons (.tup (.cons (.cst (.str "num")) (.cons (.call "_law_drawn" (.cons (.var 0) (.cons (.bin .add (.var 1) (.cst (.int 2))) (.cons (.cst (.int 9)) .nil)))) .nil))) .nil)))))
 (.seq (.set 4 (.idx (.lst false (.cons (.cst (.str "add")) (.cons (.cst (.str "sub")) .nil))) (.call "_law_drawn" (.cons (.var 0) (.cons (.bin .add (.var 1) (.cst (.int 3))) (.cons (.cst (.int 2)) .nil))))))
 (.seq (.set 5 (.tup (.cons (.tup (.cons (.cst (.str "ask")) (.cons (.cst (.str "a")) .nil))) (.cons (.tup (.cons (.cst (.str "call")) (.cons (.cst (.int 4)) .nil))) (.cons (.tup (.cons (.cst (.str "say")) (.cons (.tup (.cons (.cst (.str "name")) (.cons (.cst (.str "a")) .nil))) .nil))) (.cons (.tup (.cons (.cst (.str "jump")) (.cons (.cst (.int 0)) .nil))) (.cons (.var 3) .nil)))))))
 (.ret (.bin .add (.var 5) (.tup (.cons (.tup (.cons (.cst (.str "call")) (.cons (.cst (.int 7)) .nil))) (.cons (.tup (.cons (.cst (.str "back")) .nil)) (.cons (.tup (.cons (.cst (.str "set")) (.cons (.cst (.str "b")) (.cons (.tup (.cons (.var 4) (.cons (.tup (.cons (.cst (.str "name")) (.cons (.cst (.str "b")) .nil))) (.cons (.tup (.cons (.cst (.str "name")) (.cons (.cst (.str "a")) .nil))) .nil)))) .nil)))) (.cons (.tup (.cons (.cst (.str "back")) .nil)) .nil)))))))))) .nil)
 (.ret (.bi .tuple false (.cons (.comp false .rng1 (.cons (.var 2) .nil) ["_law_k"] [(0,"_law_script"),(1,"_law_at"),(2,"_law_size")] .nil (.call "_law_row" (.cons (.var 1) (.cons (.bin .add (.bin .add (.var 2) (.cst (.int 10))) (.bin .mul (.cst (.int 40)) (.var 0))) (.cons (.var 3) .nil))))) .nil)))))⟩
noncomputable def gR:Fn:=⟨["_law_script","_law_at"],["_law_script","_law_at"],
 (.ret (.comp false .rng1 (.cons (.call "_law_drawn" (.cons (.var 0) (.cons (.var 1) (.cons (.cst (.int 4)) .nil)))) .nil) ["_law_k"] [(0,"_law_script"),(1,"_law_at")] .nil (.idx (.lst false (.cons (.cst (.int 0)) (.cons (.cst (.int 1)) (.cons (.cst (.int 5)) (.cons (.cst (.int 10006)) .nil))))) (.call "_law_drawn" (.cons (.var 1) (.cons (.bin .add (.bin .add (.var 2) (.cst (.int 1))) (.var 0)) (.cons (.cst (.int 4)) .nil)))))))⟩
structure Lw (T:FK->Option Fn):Prop where
 cell:T "_law_cell"=some fB
 drawn:T "_law_drawn"=some fK
 sum:T "_law_sum"=some eU
 row:T "_law_row"=some gQ
 asked:T "_law_asked"=some gR
noncomputable def uU (ns:List Int) (k:Int):Int:=if ns=[] then 7*k else ns.getD (k % ns.length).toNat 0+6553*(k / ns.length)
noncomputable def drw (ns:List Int) (k many:Int):Int :=
 let a:=(uU ns k % 2147483563*69069+104723*(k+1)) % 2147483563
 let b:=(a*a+a / 3) % 2147483399
 (b*b+b / 7) % 2147483647 / 11 % many
theorem fE (ns:List Int) (k:Int) (h:0 < many):0<=drw ns k many:=Int.emod_nonneg _ (by lia)
theorem fF (ns:List Int) (k:Int) (h:0 < many):drw ns k many < many:=Int.emod_lt_of_pos _ h
theorem oG (h0:0<=i) (h1:i < 18446744073709551616):big i=true:=by
 unfold big;exact decide_eq_true (by lia)
section
theorem Cn (ns:List Int):eqv (.lst (c7 ns)) (.lst [])=decide (ns=[]):=by
 cases ns<;>simp[c7]
theorem zx (L:Lw T) (m:Nat) (ns:List Int) (hl:ns.length<=1000) (k:Int) (h:HH):runN T G (m+1) "_law_cell" [.p (.lst (c7 ns)),.p (.int k)] h=some (.p (.int (uU ns k)),h):=by
 rw[run_eq L.cell rfl]
 by_cases c:ns=[]
 ·subst c
  simp[fB,c7,uU,big,cS]
 ·have n0:0 < ns.length:=List.length_pos_iff.mpr c
  have q:eqv (.lst (c7 ns)) (.lst [])=false:=by rw[Cn];exact decide_eq_false c
  have p1:(0:Int) < (ns.length:Int):=by lia
  have p2:(ns.length:Int) < 1073741824:=by lia
  have m1:=Int.emod_nonneg k (b:=(ns.length:Int)) (by lia)
  have m2:=Int.emod_lt_of_pos k p1
  have i1:(k % (ns.length:Int)).toNat < ns.length:=by lia
  have n2:ns.length < 1073741824:=by lia
  simp[fB,-eqv,q,zw,p1,p2,n0,n2,m1,m2,big,cS,uU,c]
  simp[c7,i1,cS,n0,n2,m1,m2,big,p1,p2]
theorem fQ (L:Lw T) (m:Nat) (ns:List Int) (hl:ns.length<=1000) (k many:Int) (hm:0 < many) (h:HH) :
 runN T G (m+2) "_law_drawn" [.p (.lst (c7 ns)),.p (.int k),.p (.int many)] h=some (.p (.int (drw ns k many)),h):=by
 rw[run_eq L.drawn rfl]
 have r:=zx (G:=G) L m ns hl k
 have b0:big 69069=true:=by decide
 have b1:big 104723=true:=by decide
 have b2:∀ x:Int,big (x % 2147483563)=true:=fun x=>oG (by lia) (by lia)
 have b3:∀ x:Int,big (x % 2147483399)=true:=fun x=>oG (by lia) (by lia)
 simp[fK,r,b0,b1,b2,b3,cS,hm,drw]
theorem pZ:M4 "abcf"=⟨#[97,98,99,102]⟩:=by decide +kernel
theorem zy:M4 "abc"=⟨#[97,98,99]⟩:=by decide +kernel
theorem o_a:M4 "a"=⟨#[97]⟩:=by decide +kernel
theorem o_b:M4 "b"=⟨#[98]⟩:=by decide +kernel
theorem o_c:M4 "c"=⟨#[99]⟩:=by decide +kernel
theorem o_f:M4 "f"=⟨#[102]⟩:=by decide +kernel
theorem uV (i:Int) (h0:0<=i) (h1:i < 4):∃ x:Nm,fc (.str "abcf") (.int i)=some (.str x.w):=by
 have:i=0\/i=1\/i=2\/i=3:=by lia
 rcases this with rfl | rfl | rfl | rfl
 ·exact ⟨.a,by rw[Nm.w,pZ,o_a];rfl⟩
 ·exact ⟨.b,by rw[Nm.w,pZ,o_b];rfl⟩
 ·exact ⟨.c,by rw[Nm.w,pZ,o_c];rfl⟩
 ·exact ⟨.f,by rw[Nm.w,pZ,o_f];rfl⟩
theorem FN (i:Int) (h0:0<=i) (h1:i < 3):∃ x:Nm,fc (.str "abc") (.int i)=some (.str x.w):=by
 have:i=0\/i=1\/i=2:=by lia
 rcases this with rfl | rfl | rfl
 ·exact ⟨.a,by rw[Nm.w,zy,o_a];rfl⟩
 ·exact ⟨.b,by rw[Nm.w,zy,o_b];rfl⟩
 ·exact ⟨.c,by rw[Nm.w,zy,o_c];rfl⟩
theorem uW (i:Int) (h0:0<=i) (h1:i < 6):∃ n:Int,Wth n/\fc (.lst [.int 0,.int 1,.int 2,.int 3,.int 10,.int 10006]) (.int i)=some (.int n):=by
 have:i=0\/i=1\/i=2\/i=3\/i=4\/i=5:=by lia
 rcases this with rfl | rfl | rfl | rfl | rfl | rfl
 ·exact ⟨0,⟨by decide,by decide⟩,rfl⟩
 ·exact ⟨1,⟨by decide,by decide⟩,rfl⟩
 ·exact ⟨2,⟨by decide,by decide⟩,rfl⟩
 ·exact ⟨3,⟨by decide,by decide⟩,rfl⟩
 ·exact ⟨10,⟨by decide,by decide⟩,rfl⟩
 ·exact ⟨10006,⟨by decide,by decide⟩,rfl⟩
theorem FO (i:Int) (h0:0<=i) (h1:i < 4):∃ o:Op,fc (.lst [.str "add",.str "sub",.str "mul",.str "less"]) (.int i)=some (.str o.w):=by
 have:i=0\/i=1\/i=2\/i=3:=by lia
 rcases this with rfl | rfl | rfl | rfl
 ·exact ⟨.add,rfl⟩
 ·exact ⟨.sub,rfl⟩
 ·exact ⟨.mul,rfl⟩
 ·exact ⟨.less,rfl⟩
theorem zA (L:Lw T) (ns:List Int) (hl:ns.length<=1000) (p n:Int) (k:Nat) (rest:Sl) (h:HH) (c:drw ns (p+1) 2=0) (en:fc (.lst [.int 0,.int 1,.int 2,.int 3,.int 10,.int 10006]) (.int (drw ns (p+2) 6))=some (.int n)) :
 evS (runN T G (k+2)) G smL (some (.p (.lst (c7 ns))) :: some (.p (.int p)) :: rest) h=some (.rt (.p (Sm.num n).enc) h):=by
 have dr:=fun q many (hm:0 < many)=>fQ (G:=G) L k ns hl q many hm
 simp[-eB,-iz,smL,dr,c,en,Sm.enc]
theorem zB (L:Lw T) (ns:List Int) (hl:ns.length<=1000) (p:Int) (x:Nm) (k:Nat) (rest:Sl) (h:HH) (c:¬ drw ns (p+1) 2=0) (ex:fc (.str "abcf") (.int (drw ns (p+2) 4))=some (.str x.w)) :
 evS (runN T G (k+2)) G smL (some (.p (.lst (c7 ns))) :: some (.p (.int p)) :: rest) h=some (.rt (.p (Sm.nam x).enc) h):=by
 have dr:=fun q many (hm:0 < many)=>fQ (G:=G) L k ns hl q many hm
 simp[-eB,-iz,smL,dr,c,ex,Sm.enc]
theorem qa (L:Lw T) (ns:List Int) (hl:ns.length<=1000):∀ (deep:Nat) (p:Int),∃ s:Sm,s.ok/\s.size+1<=2 ^ (deep+1)/\∀ (m:Nat) (h:HH),
 runN T G (m+deep+3) "_law_sum" [.p (.lst (c7 ns)),.p (.int p),.p (.int deep)] h=some (.p s.enc,h):=by
 intro deep
 induction deep with
 | zero =>
  intro p
  have dr:=fun m q many (hm:0 < many)=>fQ (G:=G) L m ns hl q many hm
  obtain ⟨x,ex⟩:=uV (drw ns (p+2) 4) (fE _ _ (by decide)) (fF _ _ (by decide))
  obtain ⟨n,hn,en⟩:=uW (drw ns (p+2) 6) (fE _ _ (by decide)) (fF _ _ (by decide))
  have key:∀ (s:Sm) (m:Nat) (h:HH),(∀ rest,evS (runN T G (m+2)) G smL (some (.p (.lst (c7 ns))) :: some (.p (.int p)) :: rest) h=some (.rt (.p s.enc) h))->runN T G (m+0+3) "_law_sum" [.p (.lst (c7 ns)),.p (.int p),.p (.int ((0:Nat):Int))] h=some (.p s.enc,h):=fun s m h q=>by
   rw[run_eq L.sum rfl]
   simp[eU,dr,q,cS]
  by_cases c:drw ns (p+1) 2=0
  ·exact ⟨.num n,hn,by simp[Sm.size],fun m h=>key _ m h fun rest=>zA L ns hl p n m rest h c en⟩
  ·exact ⟨.nam x,trivial,by simp[Sm.size],fun m h=>key _ m h fun rest=>zB L ns hl p x m rest h c ex⟩
 | succ deep ih =>
  intro p
  have dr:=fun m q many (hm:0 < many)=>fQ (G:=G) L m ns hl q many hm
  obtain ⟨x,ex⟩:=uV (drw ns (p+2) 4) (fE _ _ (by decide)) (fF _ _ (by decide))
  obtain ⟨n,hn,en⟩:=uW (drw ns (p+2) 6) (fE _ _ (by decide)) (fF _ _ (by decide))
  obtain ⟨s,so,ss,sr0⟩:=ih (p*2+5)
  obtain ⟨t,to,tt,tr0⟩:=ih (p*2+19)
  have ee:∀ m,m+(deep+1)+2=m+deep+3:=fun m=>by lia
  have sr:=fun m h=>(ee m).symm ▸ sr0 m h
  have tr:=fun m h=>(ee m).symm ▸ tr0 m h
  have d0:¬ ((deep:Int)+1=0):=by lia
  have d1:((deep:Int)+1 - 1)=deep:=by lia
  have b2:big 2=true:=by decide
  have w0:=fE ns p (many:=10) (by decide)
  have w1:=fF ns p (many:=10) (by decide)
  have pw:2 ^ (deep+1+1)=2 ^ (deep+1)+2 ^ (deep+1):=by lia
  by_cases c1:drw ns p 10 < 4
  ·have key:∀ (s:Sm) (m:Nat) (h:HH),(∀ rest,evS (runN T G (m+deep+1+2)) G smL (some (.p (.lst (c7 ns))) :: some (.p (.int p)) :: rest) h=some (.rt (.p s.enc) h))->runN T G (m+(deep+1)+3) "_law_sum" [.p (.lst (c7 ns)),.p (.int p),.p (.int ((deep+1:Nat):Int))] h=some (.p s.enc,h):=fun s m h q=>by
    rw[run_eq L.sum rfl]
    have dq:=dr (m+(deep+1))
    have q:∀ rest,evS (runN T G (m+(deep+1)+2)) G smL (some (.p (.lst (c7 ns))) :: some (.p (.int p)) :: rest) h=some (.rt (.p s.enc) h):=q
    simp[eU,dq,c1,d0,q,cS]
   by_cases c:drw ns (p+1) 2=0
   ·exact ⟨.num n,hn,by simp only[Sm.size];lia,fun m h=>key _ m h fun rest=>zA L ns hl p n (m+deep+1) rest h c en⟩
   ·exact ⟨.nam x,trivial,by simp only[Sm.size];lia,fun m h=>key _ m h fun rest=>zB L ns hl p x (m+deep+1) rest h c ex⟩
  ·by_cases c2:drw ns p 10 < 6
   ·refine ⟨.cell s,so,by simp only[Sm.size];lia,fun m h=>?_⟩
    rw[run_eq L.sum rfl]
    simp[-eB,-iz,eU,smR,dr,c1,c2,d0,d1,b2,sr,cS,Sm.enc]
   ·obtain ⟨o,eo⟩:=FO (drw ns p 10 - 6) (by lia) (by lia)
    refine ⟨.two o s t,⟨so,to⟩,by simp only[Sm.size];lia,fun m h=>?_⟩
    rw[run_eq L.sum rfl]
    simp[-eB,-iz,eU,smR,dr,c1,c2,d0,d1,b2,sr,tr,eo,cS,Sm.enc]
end
noncomputable def Dp:S:=(.ret (.idx (.lst false (.cons (.tup (.cons (.cst (.str "call")) (.cons (.var 4) .nil))) (.cons (.tup (.cons (.cst (.str "call")) (.cons (.var 4) .nil))) (.cons (.tup (.cons (.cst (.str "back")) .nil)) (.cons (.idx (.lst false (.cons (.tup (.cons (.cst (.str "stop")) .nil)) (.cons (.tup (.cons (.cst (.str "back")) .nil)) .nil))) (.bin .mod (.var 4) (.cst (.int 2)))) .nil))))) (.bin .sub (.var 3) (.cst (.int 12)))))
noncomputable def rA3:S:=(.ret (.idx (.lst false (.cons (.tup (.cons (.cst (.str "jump")) (.cons (.var 4) .nil))) (.cons (.tup (.cons (.cst (.str "unless")) (.cons (.var 6) (.cons (.var 4) .nil)))) (.cons (.tup (.cons (.cst (.str "unless")) (.cons (.tup (.cons (.cst (.str "name")) (.cons (.var 5) .nil))) (.cons (.var 4) .nil)))) .nil)))) (.bin .sub (.var 3) (.cst (.int 9)))))
noncomputable def zC:S:=(.seq (.ife (.cmp .lt (.var 3) (.cst (.int 12))) rA3 .nil) Dp)
noncomputable def rA2:S:=(.ret (.idx (.lst false (.cons (.tup (.cons (.cst (.str "ask")) (.cons (.var 5) .nil))) (.cons (.tup (.cons (.cst (.str "say")) (.cons (.var 6) .nil))) .nil))) (.bin .sub (.var 3) (.cst (.int 7)))))
noncomputable def uX:S:=(.seq (.ife (.cmp .lt (.var 3) (.cst (.int 9))) rA2 .nil) zC)
noncomputable def rA1:S:=(.ret (.tup (.cons (.cst (.str "put")) (.cons (.call "_law_sum" (.cons (.var 0) (.cons (.bin .add (.var 1) (.cst (.int 9))) (.cons (.cst (.int 1)) .nil)))) (.cons (.var 6) .nil)))))
noncomputable def rB:S:=(.seq (.ife (.cmp .lt (.var 3) (.cst (.int 7))) rA1 .nil) uX)
noncomputable def rA0:S:=(.ret (.tup (.cons (.cst (.str "set")) (.cons (.var 5) (.cons (.var 6) .nil)))))
noncomputable def sX:S:=(.seq (.ife (.cmp .lt (.var 3) (.cst (.int 5))) rA0 .nil) rB)
theorem nM:gQ=⟨["_law_script","_law_at","_law_size"],["_law_script","_law_at","_law_size","_law_way","_law_place","_law_name","_law_one"],
 (.seq (.set 3 (.call "_law_drawn" (.cons (.var 0) (.cons (.var 1) (.cons (.cst (.int 16)) .nil)))))
 (.seq (.set 4 (.call "_law_drawn" (.cons (.var 0) (.cons (.bin .add (.var 1) (.cst (.int 1))) (.cons (.bin .add (.var 2) (.cst (.int 1))) .nil)))))
 (.seq (.set 5 (.idx (.cst (.str "abc")) (.call "_law_drawn" (.cons (.var 0) (.cons (.bin .add (.var 1) (.cst (.int 2))) (.cons (.cst (.int 3)) .nil))))))
 (.seq (.set 6 (.call "_law_sum" (.cons (.var 0) (.cons (.bin .add (.var 1) (.cst (.int 3))) (.cons (.cst (.int 2)) .nil)))))
 sX))))⟩:=rfl
section
theorem Co (L:Lw T) (ns:List Int) (hl:ns.length<=1000) (p:Int) (size:Nat):∃ r:Rw,r.ok size/\∀ (m:Nat) (h:HH),
 runN T G (m+6) "_law_row" [.p (.lst (c7 ns)),.p (.int p),.p (.int size)] h=some (.p r.enc,h):=by
 have dr:=fun m q many (hm:0 < many)=>fQ (G:=G) L m ns hl q many hm
 obtain ⟨x,ex⟩:=FN (drw ns (p+2) 3) (fE _ _ (by decide)) (fF _ _ (by decide))
 obtain ⟨s,so,ss,sr⟩:=qa (G:=G) L ns hl 2 (p+3)
 obtain ⟨t,to,tt,tr⟩:=qa (G:=G) L ns hl 1 (p+9)
 have w0:=fE ns p (many:=16) (by decide)
 have w1:=fF ns p (many:=16) (by decide)
 have sz:(0:Int) < (size:Int)+1:=by lia
 have p0:=fE ns (p+1) sz
 have p1:=fF ns (p+1) sz
 obtain ⟨pl,hpl⟩:∃ pl:Nat,drw ns (p+1) ((size:Int)+1)=(pl:Int):=⟨(drw ns (p+1) ((size:Int)+1)).toNat,by lia⟩
 have ple:pl<=size:=by lia
 have sok:mS s:=⟨so,by lia⟩
 have tok:mS t:=⟨to,by lia⟩
 have sr':=fun m h=>sr (m+0) h
 have tr':=fun m h=>tr (m+1) h
 simp at sr' tr'
 have dp:=fun m h=>dr m (p+1) ((size:Int)+1) sz h
 rw[hpl] at dp
 have pre:∀ (m:Nat) (h:HH),runN T G (m+6) "_law_row" [.p (.lst (c7 ns)),.p (.int p),.p (.int size)] h =
  sH (evS (runN T G (m+5)) G sX [some (.p (.lst (c7 ns))),some (.p (.int p)),some (.p (.int size)),some (.p (.int (drw ns p 16))),some (.p (.int (pl:Int))),some (.p (.str x.w)),some (.p s.enc)] h) (fin h):=fun m h=>by
  rw[run_eq L.row rfl,nM]
  simp[-iz,dp,dr,ex,sr']
 by_cases c1:drw ns p 16 < 5
 ·refine ⟨.set x s,sok,fun m h=>?_⟩
  rw[pre]
  simp[-eB,-iz,sX,rA0,c1,cS,Rw.enc]
 ·by_cases c2:drw ns p 16 < 7
  ·refine ⟨.put t s,⟨tok,sok⟩,fun m h=>?_⟩
   rw[pre]
   simp[-eB,-iz,sX,rB,rA1,tr',c1,c2,cS,Rw.enc]
  ·by_cases c3:drw ns p 16 < 9
   ·obtain ⟨r,ro,ix⟩:∃ r:Rw,r.ok size/\fc (.lst [.tup [.str "ask",.str x.w],.tup [.str "say",s.enc]]) (.int (drw ns p 16 - 7))=some r.enc:=by
     have c:drw ns p 16=7\/drw ns p 16=8:=by lia
     rcases c with c | c<;>rw[c]
     ·exact ⟨.ask x,trivial,rfl⟩
     ·exact ⟨.say s,sok,rfl⟩
    refine ⟨r,ro,fun m h=>?_⟩
    rw[pre]
    simp[-eB,sX,rB,uX,rA2,c1,c2,c3,ix,cS]
   ·by_cases c4:drw ns p 16 < 12
    ·obtain ⟨r,ro,ix⟩:∃ r:Rw,r.ok size/\fc (.lst [.tup [.str "jump",.int pl],.tup [.str "unless",s.enc,.int pl],.tup [.str "unless",.tup [.str "name",.str x.w],.int pl]]) (.int (drw ns p 16 - 9))=some r.enc:=by
      have c:drw ns p 16=9\/drw ns p 16=10\/drw ns p 16=11:=by lia
      rcases c with c | c | c<;>rw[c]
      ·exact ⟨.jump pl,ple,rfl⟩
      ·exact ⟨.unless s pl,⟨sok,ple⟩,rfl⟩
      ·exact ⟨.unless (.nam x) pl,⟨⟨trivial,by simp[Sm.size]⟩,ple⟩,rfl⟩
     refine ⟨r,ro,fun m h=>?_⟩
     rw[pre]
     simp[-eB,sX,rB,uX,zC,rA3,c1,c2,c3,c4,ix,cS]
    ·obtain ⟨u,uo,iu⟩:∃ u:Rw,u.ok size/\fc (.lst [.tup [.str "stop"],.tup [.str "back"]]) (.int ((pl:Int) % 2))=some u.enc:=by
      have z:(pl:Int) % 2=0\/(pl:Int) % 2=1:=by lia
      rcases z with z | z<;>rw[z]
      ·exact ⟨.stop,trivial,rfl⟩
      ·exact ⟨.back,trivial,rfl⟩
     obtain ⟨r,ro,ix⟩:∃ r:Rw,r.ok size/\fc (.lst [.tup [.str "call",.int pl],.tup [.str "call",.int pl],.tup [.str "back"],u.enc]) (.int (drw ns p 16 - 12))=some r.enc:=by
      have c:drw ns p 16=12\/drw ns p 16=13\/drw ns p 16=14\/drw ns p 16=15:=by lia
      rcases c with c | c | c | c<;>rw[c]
      ·exact ⟨.call pl,ple,rfl⟩
      ·exact ⟨.call pl,ple,rfl⟩
      ·exact ⟨.back,trivial,rfl⟩
      ·exact ⟨u,uo,rfl⟩
     refine ⟨r,ro,fun m h=>?_⟩
     rw[pre]
     simp[-eB,sX,rB,uX,zC,Dp,c1,c2,c3,c4,iu,ix,cS]
theorem comp_map (f:List D->HH->Option (Option D×HH)) (g:D->D):∀ (ds:List D) (h:HH),(∀ d∈ds,∀ h,f [d] h=some (some (g d),h))->c8 f 1 ds h=some (ds.map g,h):=by
 intro ds
 induction ds with
 | nil=>intro h _;rfl
 | cons d r ih =>
  intro h hf
  have e1:=hf d M5 h
  have e2:=ih h fun x hx=>hf x (M1 _ hx)
  rw[c8,qO]
  simp[e1,e2]
theorem zD (h:d∈upto 0 n):∃ k:Nat,k < n/\d=.int k:=by
 simp[upto] at h
 obtain ⟨k,hk,e⟩:=h
 exact ⟨k,hk,e.symm⟩
theorem zE (n:Nat) (g:D->D):(upto 0 n).map g=(OG n).map fun (k:Nat)=>g (.int k):=by
 simp[upto,Function.comp_def]
noncomputable def zF:E:=.call "_law_row" (.cons (.var 1) (.cons (.bin .add (.bin .add (.var 2) (.cst (.int 10))) (.bin .mul (.cst (.int 40)) (.var 0))) (.cons (.var 3) .nil)))
structure Drawn (p:Pg):Prop where
 ok:Pg.ok p
 lo:1<=p.length
 hi:p.length<=9
noncomputable def iJ (n:Int) (o:Op):Pg:=[.ask .a,.call 4,.say (.nam .a),.jump 0,.put (.nam .a) (.num n),.call 7,.back,.set .b (.two o (.nam .b) (.nam .a)),.back]
theorem qb (n:Int) (o:Op) (h:Wth n):Drawn (iJ n o):=by
 refine ⟨?_,by simp[iJ],by simp[iJ]⟩
 intro r hr
 simp only[iJ,O3,Oo,or_false] at hr
 rcases hr with rfl | rfl | rfl | rfl | rfl | rfl | rfl | rfl | rfl<;>simp[Rw.ok,iJ,mS,Sm.ok,Sm.size,h]
theorem mT (L:Lw T)
 (ns:List Int) (hl:ns.length<=1000) (p:Int)
 (run1:∀ (m:Nat) (h:HH) (n:Int) (o:Op),drw ns (p+1) 4=0->n=drw ns (p+2) 9->fc (.lst [.str "add",.str "sub"]) (.int (drw ns (p+3) 2))=some (.str o.w) →
  (∀ m q many,0 < many->∀ h,runN T G (m+2) "_law_drawn" [.p (.lst (c7 ns)),.p (.int q),.p (.int many)] h=some (.p (.int (drw ns q many)),h)) →
  runN T G (m+7) "_law_program" [.p (.lst (c7 ns)),.p (.int p)] h=some (.p (gP (iJ n o)),h))
 (run2:∀ (m:Nat) (h:HH) (pg:Pg),drw ns (p+1) 4≠0->pg.length=(1+drw ns p 9).toNat →
  (∀ m q many,0 < many->∀ h,runN T G (m+2) "_law_drawn" [.p (.lst (c7 ns)),.p (.int q),.p (.int many)] h=some (.p (.int (drw ns q many)),h)) →
  (∀ h,c8 (dF (fun _ h=>some ([],h)) (ev (runN T G (m+6)) G zF) [some (.p (.lst (c7 ns))),some (.p (.int p)),some (.p (.int (1+drw ns p 9)))]) 1 (upto 0 (1+drw ns p 9).toNat) h=some (pg.map Rw.enc,h)) →
  runN T G (m+7) "_law_program" [.p (.lst (c7 ns)),.p (.int p)] h=some (.p (gP pg),h)) :
 ∃ pg:Pg,Drawn pg/\∀ (m:Nat) (h:HH),runN T G (m+7) "_law_program" [.p (.lst (c7 ns)),.p (.int p)] h=some (.p (gP pg),h):=by
 have dr:=fun m q many (hm:0 < many)=>fQ (G:=G) L m ns hl q many hm
 by_cases c:drw ns (p+1) 4=0
 ·have d0:=fE ns (p+3) (many:=2) (by decide)
  have d1:=fF ns (p+3) (many:=2) (by decide)
  have e0:=fE ns (p+2) (many:=9) (by decide)
  have e1:=fF ns (p+2) (many:=9) (by decide)
  have z:drw ns (p+3) 2=0\/drw ns (p+3) 2=1:=by lia
  have:∃ o:Op,fc (.lst [.str "add",.str "sub"]) (.int (drw ns (p+3) 2))=some (.str o.w):=by
   rcases z with z | z<;>rw[z]
   ·exact ⟨.add,rfl⟩
   ·exact ⟨.sub,rfl⟩
  obtain ⟨o,eo⟩:=this
  exact ⟨iJ (drw ns (p+2) 9) o,qb _ _ ⟨by lia,by lia⟩,fun m h=>run1 m h _ o c rfl eo dr⟩
 ·have d0:=fE ns p (many:=9) (by decide)
  have d1:=fF ns p (many:=9) (by decide)
  obtain ⟨sz,hsz⟩:∃ sz:Nat,1+drw ns p 9=(sz:Int):=⟨(1+drw ns p 9).toNat,by lia⟩
  have ch:∀ k:Nat,∃ r:Rw,r.ok sz/\∀ (m:Nat) (h:HH),runN T G (m+6) "_law_row" [.p (.lst (c7 ns)),.p (.int (p+10+40*(k:Int))),.p (.int sz)] h=some (.p r.enc,h) :=
   fun k=>Co L ns hl _ sz
  obtain ⟨g,hg⟩:=Classical.axiomOfChoice ch
  refine ⟨(OG sz).map g,⟨?_,by simp;lia,by simp;lia⟩,fun m h=>run2 m h _ c (by simp;lia) dr fun h=>?_⟩
  ·intro r hr
   simp at hr
   obtain ⟨k,_,rfl⟩:=hr
   simpa using (hg k).1
  ·rw[hsz]
   have b:big 40=true:=by decide
   have he:∀ (k:Nat) (h:HH),ev (runN T G (m+6)) G zF [some (.p (.int k)),some (.p (.lst (c7 ns))),some (.p (.int p)),some (.p (.int sz))] h=some (.p (g k).enc,h):=fun k h=>by
    have e:=(hg k).2
    simp[zF,e,b]
   have cm:=comp_map (dF (fun _ h=>some ([],h)) (ev (runN T G (m+6)) G zF) [some (.p (.lst (c7 ns))),some (.p (.int p)),some (.p (.int sz))]) (fun d=>match d with | .int k=>(g k.toNat).enc | _=>.non) (upto 0 sz) h (by
    intro d hd h
    obtain ⟨k,hk,rfl⟩:=zD hd
    simp[gj,he])
   rw[zE] at cm
   simp only[QX,PM]
   rw[cm]
   rfl
end
section
noncomputable def prA:S:=(.seq (.set 3 (.tup (.cons (.cst (.str "put")) (.cons (.tup (.cons (.cst (.str "name")) (.cons (.cst (.str "a")) .nil))) (.cons (.tup (.cons (.cst (.str "num")) (.cons (.call "_law_drawn" (.cons (.var 0) (.cons (.bin .add (.var 1) (.cst (.int 2))) (.cons (.cst (.int 9)) .nil)))) .nil))) .nil)))))
 (.seq (.set 4 (.idx (.lst false (.cons (.cst (.str "add")) (.cons (.cst (.str "sub")) .nil))) (.call "_law_drawn" (.cons (.var 0) (.cons (.bin .add (.var 1) (.cst (.int 3))) (.cons (.cst (.int 2)) .nil))))))
 (.seq (.set 5 (.tup (.cons (.tup (.cons (.cst (.str "ask")) (.cons (.cst (.str "a")) .nil))) (.cons (.tup (.cons (.cst (.str "call")) (.cons (.cst (.int 4)) .nil))) (.cons (.tup (.cons (.cst (.str "say")) (.cons (.tup (.cons (.cst (.str "name")) (.cons (.cst (.str "a")) .nil))) .nil))) (.cons (.tup (.cons (.cst (.str "jump")) (.cons (.cst (.int 0)) .nil))) (.cons (.var 3) .nil)))))))
 (.ret (.bin .add (.var 5) (.tup (.cons (.tup (.cons (.cst (.str "call")) (.cons (.cst (.int 7)) .nil))) (.cons (.tup (.cons (.cst (.str "back")) .nil)) (.cons (.tup (.cons (.cst (.str "set")) (.cons (.cst (.str "b")) (.cons (.tup (.cons (.var 4) (.cons (.tup (.cons (.cst (.str "name")) (.cons (.cst (.str "b")) .nil))) (.cons (.tup (.cons (.cst (.str "name")) (.cons (.cst (.str "a")) .nil))) .nil)))) .nil)))) (.cons (.tup (.cons (.cst (.str "back")) .nil)) .nil))))))))))
noncomputable def prB:S:=(.ret (.bi .tuple false (.cons (.comp false .rng1 (.cons (.var 2) .nil) ["_law_k"] [(0,"_law_script"),(1,"_law_at"),(2,"_law_size")] .nil zF) .nil)))
theorem f9:d7=⟨["_law_script","_law_at"],["_law_script","_law_at","_law_size","_law_put","_law_sign","_law_rows"],
 (.seq (.set 2 (.bin .add (.cst (.int 1)) (.call "_law_drawn" (.cons (.var 0) (.cons (.var 1) (.cons (.cst (.int 9)) .nil))))))
 (.seq (.ife (.cmp .eq (.call "_law_drawn" (.cons (.var 0) (.cons (.bin .add (.var 1) (.cst (.int 1))) (.cons (.cst (.int 4)) .nil)))) (.cst (.int 0))) prA .nil)
 prB))⟩:=rfl
theorem rC (L:Lw T) (hP:T "_law_program"=some d7) (ns:List Int) (hl:ns.length<=1000) (p:Int) :
 ∃ pg:Pg,Drawn pg/\∀ (m:Nat) (h:HH),runN T G (m+7) "_law_program" [.p (.lst (c7 ns)),.p (.int p)] h=some (.p (gP pg),h):=by
 refine mT L ns hl p (fun m h n o c en eo dr=>?_) (fun m h pg c el dr cm=>?_)
 ·rw[run_eq hP rfl]
  have d:=fun q many hm h=>dr (m+4) q many hm h
  rw[f9]
  simp[-eB,prA,d,c,eo,cS,gP,iJ,Rw.enc,Sm.enc,← en,Nm.w]
 ·rw[run_eq hP rfl]
  have d:=fun q many hm h=>dr (m+4) q many hm h
  have d0:=fE ns p (many:=9) (by decide)
  have d1:=fF ns p (many:=9) (by decide)
  have c0:-100000<=1+drw ns p 9:=by lia
  have c1:1+drw ns p 9<=100000:=by lia
  have c2:pg.length<=100000:=by lia
  have cm':=cm h
  rw[f9]
  simp[-dF,prB,d,c,c0,c1,c2,cm',cS,gP,jh]
mutual
theorem mU:∀ d:D,eqv d d=true
 | .non=>rfl
 | .bl b=>by simp
 | .int i=>by simp
 | .str x=>by simp
 | .tup xs=>by simp[iZ xs]
 | .lst xs=>by simp[iZ xs]
theorem iZ:∀ ds:List D,nA ds ds=true
 | []=>rfl
 | d :: r=>by simp[mU d,iZ r]
end
theorem rD (n:Nat) (xs:List Int):(c7 xs).all (dok n)=true:=by simp[c7,NQ]
@[simp] theorem FP (ds:List D):nA ds ds=true:=iZ ds
@[simp] theorem GD (d:D):eqv d d=true:=mU d
@[simp] theorem GE (x:D) (xs:List Int):dW x (.tup (c7 xs))=true:=sd (rD 99 xs)
@[simp] theorem Jf (x:D) (xs ys:List Int):dW x (.tup [.tup (c7 xs),.tup (c7 ys)])=true:=sd (by simp[rD])
end
section
variable {T:FK->Option Fn}{G:Str->Option W}
end
structure Tp where
 p:Pg
 asked:List Int
 gap:Nat
 most:Nat
 kept:List St
 far:Nat
 front:St
 now:Nat
noncomputable def Tp.fs (t:Tp) (r:Nat):List (Str×W):=[("program",.p (gP t.p)),("asked",.p (.lst (c7 t.asked))),("gap",.p (.int t.gap)),("most",.p (.int t.most)),("kept",.r r),("farthest",.p (.int t.far)),("front",.p t.front.enc),("now",.p (.int t.now))]
section
variable (t:Tp) (r:Nat)
end
noncomputable def fC:Fn:=⟨["thing"],["thing"],
 (.ret (.and (.bi .isInt false (.cons (.var 0) .nil)) (.not (.bi .isBool false (.cons (.var 0) .nil)))))⟩
section
noncomputable def Tp.keep (t:Tp) (st:St):Tp:=if t.kept.length < 8 then { t with kept:=t.kept++[st] } else { t with kept:=(OG 5).filterMap fun i=>(t.kept++[st])[2*i]?,gap:=2*t.gap }
end
noncomputable def jl (c:Nat):List (List Nat)->List Nat
 | []=>[]
 | [x]=>x
 | x :: y :: r=>x++c :: jl c (y :: r)
theorem uY (c:Nat):∀ ts:List Str,(M8 ⟨#[c]⟩ ts).cps.toList=jl c (ts.map fun t=>t.cps.toList)
 | []=>rfl
 | [x]=>rfl
 | x :: y :: r=>by
  have ih:=uY c (y :: r)
  show ((x++⟨#[c]⟩++M8 ⟨#[c]⟩ (y :: r):Str)).cps.toList=x.cps.toList++c :: jl c ((y :: r).map fun t=>t.cps.toList)
  rw[← ih]
  show (x.cps++#[c]++(M8 ⟨#[c]⟩ (y :: r)).cps).toList=_
  simp
theorem zG {c:Nat}:∀ {x y a b:List Nat},c∉x->c∉y->x++c :: a=y++c :: b->x=y/\a=b
 | [],[],a,b,_,_,h=>⟨rfl,(PN h).2⟩
 | [],y :: ys,a,b,_,hy,h=>absurd ((PN h).1 ▸ M5) hy
 | x :: xs,[],a,b,hx,_,h=>absurd ((PN h).1 ▸ M5) hx
 | x :: xs,y :: ys,a,b,hx,hy,h=>by
  obtain ⟨h1,h2⟩:=PN h
  obtain ⟨q1,q2⟩:=zG (fun z=>hx (M1 _ z)) (fun z=>hy (M1 _ z)) h2
  exact ⟨by rw[h1,q1],q2⟩
theorem zH {c:Nat}:∀ {xs ys:List (List Nat)},xs≠[]->ys≠[]->(∀ x∈xs,c∉x)->(∀ y∈ys,c∉y)->jl c xs=jl c ys->xs=ys
 | [],_,h,_,_,_,_=>absurd rfl h
 | _ :: _,[],_,h,_,_,_=>absurd rfl h
 | [x],[y],_,_,_,_,h=>by
  have h:x=y:=h
  rw[h]
 | [x],y :: y' :: r,_,_,hx,_,h=>by
  have h:x=y++c :: jl c (y' :: r):=h
  exact absurd (by rw[h];simp) (hx x M5)
 | x :: x' :: r,[y],_,_,_,hy,h=>by
  have h:x++c :: jl c (x' :: r)=y:=h
  exact absurd (by rw[← h];simp) (hy y M5)
 | x :: x' :: r,y :: y' :: r',_,_,hx,hy,h=>by
  have h:x++c :: jl c (x' :: r)=y++c :: jl c (y' :: r'):=h
  obtain ⟨h1,h2⟩:=zG (hx x M5) (hy y M5) h
  have:=zH (by simp) (by simp) (fun z hz=>hx z (M1 _ hz)) (fun z hz=>hy z (M1 _ hz)) h2
  rw[h1,this]
theorem jN {x y:Str} (h:x.cps.toList=y.cps.toList):x=y:=by
 obtain ⟨a⟩:=x
 obtain ⟨b⟩:=y
 have:a=b:=Array.toList_inj.mp h
 rw[this]
theorem zI (x y:Str):Txt.split x y≠[]:=by
 unfold Txt.split
 split
 ·simp
 ·split
  ·simp
  ·intro h
   have:=length_partsBetween x (Ob x y 0 x.length (x.length+1)) y.length
   rw[h] at this
   simp at this
theorem map_toList_inj:∀ {ts us:List Str},ts.map (fun t=>t.cps.toList)=us.map (fun t=>t.cps.toList)->ts=us
 | [],[],_=>rfl
 | [],_ :: _,h=>by cases h
 | _ :: _,[],h=>by cases h
 | t :: ts,u :: us,h=>by
  obtain ⟨h1,h2⟩:=PN h
  rw[jN h1,map_toList_inj h2]
noncomputable def Fre (c:Nat) (t:Str):Prop:=c∉t.cps.toList
theorem zJ {c:Nat}{ts us:List Str} (h1:ts≠[]) (h2:us≠[]) (f1:∀ t∈ts,Fre c t) (f2:∀ t∈us,Fre c t) (h:M8 ⟨#[c]⟩ ts=M8 ⟨#[c]⟩ us):ts=us:=by
 have e:=congrArg (fun x:Str=>x.cps.toList) h
 simp only[uY] at e
 refine map_toList_inj (zH (by simpa using h1) (by simpa using h2) (fun x hx=>?_) (fun x hx=>?_) e)
 ·obtain ⟨t,ht,rfl⟩:=List.mem_map.mp hx;exact f1 t ht
 ·obtain ⟨t,ht,rfl⟩:=List.mem_map.mp hx;exact f2 t ht
theorem jr {c:Nat}{ts:List Str} (h1:ts≠[]) (f1:∀ t∈ts,Fre c t):Txt.split (M8 ⟨#[c]⟩ ts) ⟨#[c]⟩=ts :=
 zJ (zI _ _) h1 (fun t ht=>StrLaws.split_free _ c t ht) f1 (Sn _ _)
theorem jO (y:Str):∀ (xs zs:List Str),zs≠[]->M8 y (xs++[M8 y zs])=M8 y (xs++zs)
 | [],zs,h=>rfl
 | [x],zs,h=>by
  cases zs with
  | nil=>exact absurd rfl h
  | cons z zs=>rfl
 | x :: x' :: r,zs,h=>by
  have ih:=jO y (x' :: r) zs h
  show x++y++M8 y ((x' :: r)++[M8 y zs])=x++y++M8 y ((x' :: r)++zs)
  rw[ih]
theorem zK (y:Str) (xs zs us:List Str) (h1:zs≠[]) (h2:us≠[]):M8 y (xs++[M8 y zs,M8 y us])=M8 y (xs++(zs++us)):=by
 have e:∀ (zs us:List Str),zs≠[]->us≠[]->M8 y (zs++us)=M8 y zs++y++M8 y us:=by
  intro zs
  induction zs with
  | nil=>intro us h _;exact absurd rfl h
  | cons z zs ih =>
   intro us _ h2
   cases zs with
   | nil =>
    cases us with
    | nil=>exact absurd rfl h2
    | cons u us=>rfl
   | cons z' zs =>
    have:=ih us (by simp) h2
    show z++y++M8 y ((z' :: zs)++us)=(z++y++M8 y (z' :: zs))++y++M8 y us
    rw[this]
    apply jN
    show (z.cps++y.cps++(((M8 y (z' :: zs)).cps++y.cps)++(M8 y us).cps)).toList=((z.cps++y.cps++(M8 y (z' :: zs)).cps)++y.cps++(M8 y us).cps).toList
    simp
 have e2:M8 y (xs++[M8 y zs,M8 y us])=M8 y (xs++[M8 y (zs++us)]):=by
  rw[e zs us h1 h2]
  induction xs with
  | nil=>rfl
  | cons x xs ih =>
   cases xs with
   | nil=>rfl
   | cons x' xs =>
    show x++y++M8 y ((x' :: xs)++_)=x++y++M8 y ((x' :: xs)++_)
    rw[ih]
 rw[e2,jO y xs (zs++us) (by simp[h1])]
theorem mV:∀ (ls:List Str),M8 ⟨#[]⟩ (ls.map (fun l:Str=>l++(⟨#[10]⟩:Str)))=M8 ⟨#[10]⟩ (ls++[⟨#[]⟩])
 | []=>rfl
 | [x]=>by
  apply jN
  show (x.cps++#[10]).toList=(x.cps++#[10]++#[]).toList
  simp
 | x :: x' :: r=>by
  have ih:=mV (x' :: r)
  apply jN
  show ((x.cps++#[10])++#[]++(M8 ⟨#[]⟩ ((x' :: r).map (fun l:Str=>l++(⟨#[10]⟩:Str)))).cps).toList=(x.cps++#[10]++(M8 ⟨#[10]⟩ ((x' :: r)++[(⟨#[]⟩:Str)])).cps).toList
  rw[ih]
  simp
theorem join_le (y:Str) (B:Nat):∀ ts:List Str,(∀ t∈ts,t.length<=B)->(M8 y ts).length<=ts.length*(B+y.length)
 | [],_=>Py _
 | [x],h=>by
  have:=h x M5
  show x.length<=1*(B+y.length)
  lia
 | x :: x' :: r,h=>by
  have ih:=join_le y B (x' :: r) fun t ht=>h t (M1 _ ht)
  have:=h x M5
  have e:(M8 y (x :: x' :: r)).length=x.length+y.length+(M8 y (x' :: r)).length:=by
   show (x++y++M8 y (x' :: r)).length=_
   rw[Pd,Pd]
  rw[e,Ni,Nat.add_mul]
  lia
noncomputable def zL:S:=(.seq (.set 3 (.me .pop (.var 1) .nil))
 (.seq (.aug 2 .add (.cst (.int 1)))
 (.seq (.ife (.or (.cmp .gt (.var 2) (.glo "MOST_PARTS")) (.not (.call "has_sum_form" (.cons (.var 3) .nil)))) (.ret (.cst (.bl false))) .nil)
 (.ex (.me .extend (.var 1) (.cons (.call "inner_sums" (.cons (.var 3) .nil)) .nil))))))
noncomputable def wsB:S:=(.seq (.set 3 (.me .pop (.var 2) .nil))
 (.seq (.ex (.me .append (.var 1) (.cons (.call "written_word" (.cons (.var 3) .nil)) .nil)))
 (.ex (.me .extend (.var 2) (.cons (.rvs (.call "inner_sums" (.cons (.var 3) .nil))) .nil)))))
noncomputable def wrB:S:=(.ex (.me .append (.var 1) (.cons (.ite (.cmp .eq (.var 3) (.cst (.str "sum"))) (.call "written_sum" (.cons (.var 2) .nil)) (.tx .str (.cons (.var 2) .nil))) .nil)))
noncomputable def soB:S:=(.seq (.set 3 (.tx .dget (.cons (.glo "INNER_COUNTS") (.cons (.var 2) (.cons (.cst (.int 0)) .nil)))))
 (.seq (.ife (.cmp .gt (.var 3) (.bi .len false (.cons (.var 1) .nil))) .bad .nil)
 (.seq (.set 4 (.comp false .rng1 (.cons (.var 3) .nil) ["number"] [(1,"parts")] .nil (.me .pop (.var 1) .nil)))
 (.ex (.me .append (.var 1) (.cons (.ite (.cmp .gt (.var 3) (.cst (.int 0))) (.bin .add (.tup (.cons (.var 2) .nil)) (.bi .tuple false (.cons (.var 4) .nil))) (.call "leaf_of" (.cons (.var 2) .nil))) .nil))))))
noncomputable def seB:S:=(.seq (.aug 2 .add (.bin .sub (.tx .dget (.cons (.glo "INNER_COUNTS") (.cons (.idx (.var 0) (.var 1)) (.cons (.cst (.int 0)) .nil)))) (.cst (.int 1))))
 (.aug 1 .add (.cst (.int 1))))
noncomputable def roB:S:=(.seq (.set 5 (.var 3))
 (.seq (.ife (.cmp .eq (.var 5) (.bi .len false (.cons (.var 1) .nil))) .bad .nil)
 (.seq (.set 3 (.ite (.cmp .eq (.var 4) (.cst (.str "sum"))) (.call "sum_end" (.cons (.var 1) (.cons (.var 5) .nil))) (.bin .add (.var 5) (.cst (.int 1)))))
 (.ex (.me .append (.var 2) (.cons (.ite (.cmp .eq (.var 4) (.cst (.str "sum"))) (.call "sum_of" (.cons (.slc (.var 1) (.cons (.var 5) .nil) (.cons (.var 3) .nil)) .nil)) (.call "number_or_word" (.cons (.idx (.var 1) (.var 5)) .nil))) .nil))))))
noncomputable def gS:Fn:=⟨["thing"],["thing"],
 (.ret (.and (.call "is_whole" (.cons (.var 0) .nil)) (.chain .le .lt (.cst (.int 0)) (.var 0) (.glo "WORTH_COUNT"))))⟩
noncomputable def gT:Fn:=⟨["thing","row_count"],["thing","row_count"],
 (.ret (.and (.call "is_whole" (.cons (.var 0) .nil)) (.chain .le .le (.cst (.int 0)) (.var 0) (.var 1))))⟩
noncomputable def fL:Fn:=⟨["thing"],["thing"],
 (.seq (.ife (.and (.bi .isTuple false (.cons (.var 0) .nil)) (.and (.cmp .gt (.bi .len false (.cons (.var 0) .nil)) (.cst (.int 0))) (.bi .isStr false (.cons (.idx (.var 0) (.cst (.int 0))) .nil)))) (.ret (.idx (.var 0) (.cst (.int 0)))) .nil)
 (.ret (.cst .non)))⟩
noncomputable def dX:Fn:=⟨["part"],["part"],
 (.seq (.ife (.cmp .eq (.idx (.glo "INNER_COUNTS") (.idx (.var 0) (.cst (.int 0)))) (.cst (.int 0))) (.ret (.tup .nil)) .nil)
 (.ret (.slc (.var 0) (.cons (.cst (.int 1)) .nil) .nil)))⟩
noncomputable def dH:Fn:=⟨["thing"],["thing","word"],
 (.seq (.set 1 (.call "first_word" (.cons (.var 0) .nil)))
 (.seq (.ife (.cmp .eq (.var 1) (.cst (.str "num"))) (.ret (.and (.cmp .eq (.bi .len false (.cons (.var 0) .nil)) (.cst (.int 2))) (.call "is_worth" (.cons (.idx (.var 0) (.cst (.int 1))) .nil)))) .nil)
 (.seq (.ife (.cmp .eq (.var 1) (.cst (.str "name"))) (.ret (.and (.cmp .eq (.bi .len false (.cons (.var 0) .nil)) (.cst (.int 2))) (.call "is_name" (.cons (.idx (.var 0) (.cst (.int 1))) .nil)))) .nil)
 (.ret (.and (.cmp .mem (.var 1) (.glo "INNER_COUNTS")) (.cmp .eq (.bi .len false (.cons (.var 0) .nil)) (.bin .add (.idx (.glo "INNER_COUNTS") (.var 1)) (.cst (.int 1)))))))))⟩
noncomputable def jP:Fn:=⟨["thing"],["thing","waiting","parts","part"],
 (.seq (.set 1 (.lst true (.cons (.var 0) .nil)))
 (.seq (.set 2 (.cst (.int 0)))
 (.seq (.whl (.cmp .gt (.bi .len false (.cons (.var 1) .nil)) (.cst (.int 0))) zL)
 (.ret (.cst (.bl true))))))⟩
noncomputable def kB:Fn:=⟨["thing","form","row_count"],["thing","form","row_count"],
 (.seq (.ife (.cmp .eq (.var 1) (.cst (.str "name"))) (.ret (.call "is_name" (.cons (.var 0) .nil))) .nil)
 (.seq (.ife (.cmp .eq (.var 1) (.cst (.str "place"))) (.ret (.call "is_place" (.cons (.var 0) (.cons (.var 2) .nil)))) .nil)
 (.ret (.call "is_sum" (.cons (.var 0) .nil)))))⟩
noncomputable def jQ:Fn:=⟨["thing","row_count"],["thing","row_count","forms"],
 (.seq (.set 2 (.tx .dget (.cons (.glo "ROW_FORMS") (.cons (.call "first_word" (.cons (.var 0) .nil)) .nil))))
 (.seq (.ife (.or (.cmp .isN (.var 2) (.cst .non)) (.cmp .ne (.bi .len false (.cons (.var 0) .nil)) (.bin .add (.bi .len false (.cons (.var 2) .nil)) (.cst (.int 1))))) (.ret (.cst (.bl false))) .nil)
 (.ret (.tx .all (.cons (.comp false .zipG (.cons (.slc (.var 0) (.cons (.cst (.int 1)) .nil) .nil) (.cons (.var 2) .nil)) ["part","form"] [(1,"row_count")] .nil (.call "fits" (.cons (.var 0) (.cons (.var 1) (.cons (.var 2) .nil))))) .nil)))))⟩
noncomputable def fM:Fn:=⟨["thing"],["thing"],
 (.seq (.ife (.or (.not (.bi .isTuple false (.cons (.var 0) .nil))) (.cmp .gt (.bi .len false (.cons (.var 0) .nil)) (.glo "MOST_ROWS"))) (.ret (.cst (.bl false))) .nil)
 (.ret (.tx .all (.cons (.comp false .seq (.cons (.var 0) .nil) ["row"] [(0,"thing")] .nil (.call "is_row" (.cons (.var 0) (.cons (.bi .len false (.cons (.var 1) .nil)) .nil)))) .nil))))⟩
noncomputable def dI:Fn:=⟨["part"],["part"],
 (.seq (.ife (.cmp .eq (.idx (.var 0) (.cst (.int 0))) (.cst (.str "num"))) (.ret (.tx .str (.cons (.idx (.var 0) (.cst (.int 1))) .nil))) .nil)
 (.ret (.ite (.cmp .eq (.idx (.var 0) (.cst (.int 0))) (.cst (.str "name"))) (.idx (.var 0) (.cst (.int 1))) (.idx (.var 0) (.cst (.int 0))))))⟩
noncomputable def fq:Fn:=⟨["term"],["term","words","waiting","part"],
 (.seq (.set 1 (.lst true .nil))
 (.seq (.set 2 (.lst true (.cons (.var 0) .nil)))
 (.seq (.whl (.cmp .gt (.bi .len false (.cons (.var 2) .nil)) (.cst (.int 0))) wsB)
 (.ret (.tx .join (.cons (.cst (.str " ")) (.cons (.var 1) .nil)))))))⟩
noncomputable def fu:Fn:=⟨["row"],["row","words","part","form"],
 (.seq (.set 1 (.lst true (.cons (.idx (.var 0) (.cst (.int 0))) .nil)))
 (.seq (.for [(2,"part"),(3,"form")] .zipG (.cons (.slc (.var 0) (.cons (.cst (.int 1)) .nil) .nil) (.cons (.idx (.glo "ROW_FORMS") (.idx (.var 0) (.cst (.int 0)))) .nil)) wrB)
 (.ret (.tx .join (.cons (.cst (.str " ")) (.cons (.var 1) .nil))))))⟩
noncomputable def i6:Fn:=⟨["program"],["program"],
 (.ret (.tx .join (.cons (.cst (.str "")) (.cons (.comp false .seq (.cons (.var 0) .nil) ["row"] [] .nil (.bin .add (.call "written_row" (.cons (.var 0) .nil)) (.cst (.str "\n")))) .nil))))⟩
noncomputable def fN:Fn:=⟨["word"],["word"],
 (.ret (.and (.chain .lt .le (.cst (.int 0)) (.bi .len false (.cons (.var 0) .nil)) (.glo "MOST_FIGURES")) (.tx .all (.cons (.comp false .chs (.cons (.var 0) .nil) ["sign"] [] .nil (.tx .inS (.cons (.var 0) (.cons (.glo "FIGURES") .nil)))) .nil))))⟩
noncomputable def dU:Fn:=⟨["word"],["word"],
 (.ret (.ite (.call "is_figures" (.cons (.var 0) .nil)) (.tx .intS (.cons (.var 0) .nil)) (.var 0)))⟩
noncomputable def gy:Fn:=⟨["word"],["word","part"],
 (.seq (.set 1 (.call "number_or_word" (.cons (.var 0) .nil)))
 (.ret (.ite (.call "is_whole" (.cons (.var 1) .nil)) (.tup (.cons (.cst (.str "num")) (.cons (.var 1) .nil))) (.tup (.cons (.cst (.str "name")) (.cons (.var 1) .nil))))))⟩
noncomputable def jR:Fn:=⟨["words"],["words","parts","word","many","inner"],
 (.seq (.set 1 (.lst true .nil))
 (.seq (.for [(2,"word")] .rev (.cons (.var 0) .nil) soB)
 (.ret (.idx (.var 1) (.neg (.cst (.int 1)))))))⟩
noncomputable def i7:Fn:=⟨["words","start"],["words","start","missing"],
 (.seq (.set 2 (.cst (.int 1)))
 (.seq (.whl (.and (.cmp .gt (.var 2) (.cst (.int 0))) (.cmp .lt (.var 1) (.bi .len false (.cons (.var 0) .nil)))) seB)
 (.ret (.var 1))))⟩
noncomputable def jS:Fn:=⟨["line"],["line","words","row","behind","form","start"],
 (.seq (.set 1 (.tx .split (.cons (.var 0) (.cons (.cst (.str " ")) .nil))))
 (.seq (.set 2 (.lst true (.cons (.idx (.var 1) (.cst (.int 0))) .nil)))
 (.seq (.set 3 (.cst (.int 1)))
 (.seq (.for [(4,"form")] .seq (.cons (.tx .dget (.cons (.glo "ROW_FORMS") (.cons (.idx (.var 1) (.cst (.int 0))) (.cons (.tup .nil) .nil)))) .nil) roB)
 (.ret (.bi .tuple false (.cons (.var 2) .nil)))))))⟩
noncomputable def gU:Fn:=⟨["text"],["text","term"],
 (.seq (.set 1 (.call "sum_of" (.cons (.tx .split (.cons (.var 0) (.cons (.cst (.str " ")) .nil))) .nil)))
 (.seq (.ife (.or (.not (.call "is_sum" (.cons (.var 1) .nil))) (.cmp .ne (.call "written_sum" (.cons (.var 1) .nil)) (.var 0))) .bad .nil)
 (.ret (.var 1))))⟩
noncomputable def qc:Fn:=⟨["text"],["text","program"],
 (.seq (.set 1 (.bi .tuple false (.cons (.comp false .seq (.cons (.slc (.tx .split (.cons (.var 0) (.cons (.cst (.str "\n")) .nil))) .nil (.cons (.neg (.cst (.int 1))) .nil)) .nil) ["line"] [] .nil (.call "row_of" (.cons (.var 0) .nil))) .nil)))
 (.seq (.ife (.or (.not (.call "is_program" (.cons (.var 1) .nil))) (.cmp .ne (.call "written" (.cons (.var 1) .nil)) (.var 0))) .bad .nil)
 (.ret (.var 1))))⟩
noncomputable def dB:Fn:=⟨["_law_thing"],["_law_thing","_law_words"],
 (.seq (.ife (.not (.bi .isTuple false (.cons (.var 0) .nil))) (.ret (.tx .str (.cons (.var 0) .nil))) .nil)
 (.seq (.set 1 (.comp false .seq (.cons (.var 0) .nil) ["_law_part"] [] .nil (.call "_law_text" (.cons (.var 0) .nil))))
 (.seq (.ife (.cmp .mem (.idx (.var 0) (.cst (.int 0))) (.tup (.cons (.cst (.str "num")) (.cons (.cst (.str "name")) .nil)))) (.set 1 (.slc (.var 1) (.cons (.cst (.int 1)) .nil) .nil)) .nil)
 (.ret (.tx .join (.cons (.cst (.str " ")) (.cons (.var 1) .nil)))))))⟩
noncomputable def gW:List (Str×D):=[("num",.int 0),("name",.int 0),("cell",.int 1),("add",.int 2),("sub",.int 2),("mul",.int 2),("less",.int 2)]
noncomputable def Cq:List (Str×D):=[("set",.tup [.str "name",.str "sum"]),("put",.tup [.str "sum",.str "sum"]),("ask",.tup [.str "name"]),("say",.tup [.str "sum"]),("jump",.tup [.str "place"]),("unless",.tup [.str "sum",.str "place"]),("call",.tup [.str "place"]),("back",.tup []),("stop",.tup [])]
structure P80 (T:FK → Option Fn) (G:Str → Option W):Prop where
 is_whole:T "is_whole"=some fC
 is_worth:T "is_worth"=some gS
 is_name:T "is_name"=some gO
 is_place:T "is_place"=some gT
 first_word:T "first_word"=some fL
 inner_sums:T "inner_sums"=some dX
 has_sum_form:T "has_sum_form"=some dH
 is_sum:T "is_sum"=some jP
 fits:T "fits"=some kB
 is_row:T "is_row"=some jQ
 is_program:T "is_program"=some fM
 written_word:T "written_word"=some dI
 written_sum:T "written_sum"=some fq
 written_row:T "written_row"=some fu
 written:T "written"=some i6
 is_figures:T "is_figures"=some fN
 number_or_word:T "number_or_word"=some dU
 leaf_of:T "leaf_of"=some gy
 sum_of:T "sum_of"=some jR
 sum_end:T "sum_end"=some i7
 row_of:T "row_of"=some jS
 read_sum:T "read_sum"=some gU
 read:T "read"=some qc
 LETTERS:G "LETTERS"=some (.p (.tup [.str "a",.str "b",.str "c",.str "d",.str "e",.str "f"]))
 WORTH_COUNT:G "WORTH_COUNT"=some (.p (.int 10007))
 MOST_PARTS:G "MOST_PARTS"=some (.p (.int 15))
 MOST_ROWS:G "MOST_ROWS"=some (.p (.int 20))
 INNER_COUNTS:G "INNER_COUNTS"=some (.k (.t gW))
 ROW_FORMS:G "ROW_FORMS"=some (.k (.t Cq))
 FIGURES:G "FIGURES"=some (.p (.str "0123456789"))
 MOST_FIGURES:G "MOST_FIGURES"=some (.p (.int 5))
noncomputable def d9 (n:Int):Str:=M4 (toString n)
noncomputable def Sm.hd:Sm → Str
 | .num n=>d9 n
 | .nam i=>i.w
 | .cell _=>"cell"
 | .two o _ _=>o.w
noncomputable def Sm.inn:Sm → List Sm
 | .num _=>[]
 | .nam _=>[]
 | .cell s=>[s]
 | .two _ s t=>[s,t]
noncomputable def Sm.wds:Sm → List Str
 | .num n=>[d9 n]
 | .nam i=>[(i.w:Str)]
 | .cell s=>"cell" :: s.wds
 | .two o s t=>o.w :: (s.wds++t.wds)
theorem sY (s:Sm):s.wds=s.hd :: (s.inn.flatMap Sm.wds):=by
 cases s<;>simp[Sm.wds,Sm.hd,Sm.inn]
theorem mW (s:Sm):s.wds≠[]:=by rw[sY];simp
theorem gc:∀ s:Sm,s.wds.length=s.size
 | .num _=>rfl
 | .nam _=>rfl
 | .cell s=>by simp[Sm.wds,Sm.size,gc s]
 | .two o s t=>by simp[Sm.wds,Sm.size,gc s,gc t]
noncomputable def szs (l:List Sm):Nat:=(l.map Sm.size).sum
theorem wD (s:Sm):szs s.inn+1=s.size:=by cases s<;>simp[szs,Sm.inn,Sm.size]
theorem kC (a b:List Sm):szs (a++b)=szs a+szs b:=by simp[szs]
theorem wF (a:List Sm):szs a.reverse=szs a:=by simp[szs]
theorem sZ {s:Sm} (h:s.ok):∀ t∈s.inn,t.ok:=by
 cases s with
 | num _=>intro t ht;cases ht
 | nam _=>intro t ht;cases ht
 | cell s =>
  intro t ht
  have:t=s:=by simpa [Sm.inn] using ht
  subst this;exact h
 | two o a b =>
  intro t ht
  rcases (show t=a ∨ t=b by simpa [Sm.inn] using ht) with rfl | rfl
  ·exact h.1
  ·exact h.2
section
variable {T:FK → Option Fn}{G:Str → Option W}
theorem Dq (o:Op):dD (M4 o.w) gW=some (.int 2):=by cases o<;>rfl
theorem jT (P:P80 T G) (k:Nat) {s:Sm} (hs:s.ok) (h:HH):runN T G (k+1) "written_word" [.p s.enc] h=some (.p (.str s.hd),h):=by
 rw[run_eq P.written_word rfl]
 cases s with
 | num n =>
  have hb:big n=true:=by
   have:=hs
   unfold big
   exact decide_eq_true (by
    have h1:Wth n:=hs
    have h2:0 ≤ n ∧ n ≤ 10006:=h1
    lia)
  simp[dI,Sm.enc,Sm.hd,d9,kTx,txD,rds,hb,cS]
 | nam i=>simp[dI,Sm.enc,Sm.hd,cS]
 | cell s=>simp[dI,Sm.enc,Sm.hd,cS]
 | two o s t=>cases o<;>simp[dI,Sm.enc,Sm.hd,Op.w,cS]
theorem mX (P:P80 T G) (k:Nat) (s:Sm) (h:HH):runN T G (k+1) "inner_sums" [.p s.enc] h=some (.p (.tup (s.inn.map Sm.enc)),h):=by
 rw[run_eq P.inner_sums rfl]
 cases s with
 | num n=>simp[dX,Sm.enc,Sm.inn,P.INNER_COUNTS,gW,cS]
 | nam i=>simp[dX,Sm.enc,Sm.inn,P.INNER_COUNTS,gW,cS]
 | cell s=>simp[dX,Sm.enc,Sm.inn,P.INNER_COUNTS,gW,cS]
 | two o s t=>cases o<;>simp[dX,Sm.enc,Sm.inn,Op.w,P.INNER_COUNTS,gW,cS]
theorem jU (l:List Sm):l.length ≤ szs l:=by
 induction l with
 | nil=>simp[szs]
 | cons s l ih =>
  have h1:=s.size_pos
  simp only[szs,NF,P9,Ni] at ih ⊢
  lia
theorem mY (s:Sm) (l:List Sm):szs (s :: l)=szs (s.inn++l)+1:=by
 have:=wD s
 rw[kC]
 have e:szs (s :: l)=s.size+szs l:=by simp[szs]
 lia
noncomputable def wsC:E:=(.cmp .gt (.bi .len false (.cons (.var 2) .nil)) (.cst (.int 0)))
theorem Cr (P:P80 T G) (k:Nat) (h:HH) (t0:W):∀ (m:Nat) (stk:List Sm) (ps:List Str) (x:Option W),szs stk ≤ m → ps.length+szs stk ≤ 900 → (∀ s∈stk,s.ok) →
 ∃ x',fz (BT.ev (runN T G (k+1)) G wsC) (evS (runN T G (k+1)) G wsB) (m+1) [some t0,some (.r h.length),some (.r (h.length+1)),x] (h++[.l (ps.map .str),.l (stk.reverse.map Sm.enc)]) =
  some (.nx [some t0,some (.r h.length),some (.r (h.length+1)),x'] (h++[.l ((ps++stk.flatMap Sm.wds).map .str),.l []])):=by
 intro m
 induction m with
 | zero =>
  intro stk ps x hs _ _
  have:stk=[]:=by
   have:=jU stk
   exact OD (by lia)
  subst this
  exact ⟨x,by simp[fz,wsC,rd]⟩
 | succ m ih =>
  intro stk ps x hs hl hok
  cases stk with
  | nil=>exact ⟨x,by simp[fz,wsC,rd]⟩
  | cons s l =>
   have e:=mY s l
   have ok1:=hok s M5
   obtain ⟨x',q⟩:=ih (s.inn++l) (ps++[s.hd]) (some (.p s.enc)) (by lia) (by simp only[Nl,Qk];lia) (fun t ht=>by
    rcases List.mem_append.mp ht with z | z
    ·exact sZ ok1 t z
    ·exact hok t (M1 _ z))
   refine ⟨x',?_⟩
   have r:=mX P k s
   have r2:=jT P k ok1
   have hl2:=jU (s.inn++l)
   rw[Nl] at hl2
   have l1:l.length+s.inn.length ≤ 100000:=by lia
   have c1:(0:Int) < (l.length:Int)+1:=by lia
   have l2:ps.length < 100000:=by lia
   have hc:BT.ev (runN T G (k+1)) G wsC [some t0,some (.r h.length),some (.r (h.length+1)),x] (h++[.l (ps.map .str),.l ((s :: l).reverse.map Sm.enc)])=some (.p (.bl true),h++[.l (ps.map .str),.l ((s :: l).reverse.map Sm.enc)]):=by
    simp[wsC,rd,c1]
   have hb:evS (runN T G (k+1)) G wsB [some t0,some (.r h.length),some (.r (h.length+1)),x] (h++[.l (ps.map .str),.l ((s :: l).reverse.map Sm.enc)]) =
    some (.nx [some t0,some (.r h.length),some (.r (h.length+1)),some (.p s.enc)] (h++[.l ((ps++[s.hd]).map .str),.l ((s.inn++l).reverse.map Sm.enc)])):=by
    simp[wsB,r,r2,l1,l2]
   rw[fz,hc,sG,o9,hb,eX,q,QO,sY s,SS,NR]
   simp
theorem mZ:∀ ts:List Str,strsOf (ts.map .str)=some ts
 | []=>rfl
 | t :: ts=>by
  have ih:=mZ ts
  show (strsOf (ts.map .str)).map (t :: ·)=_
  rw[ih];rfl
theorem jV {x:Str}{ts:List Str}{h:HH}{w:W} (hw:rd w h=some (.lst (ts.map .str))) (h1:ts.length ≤ 1000) (h2:x.length ≤ 10) (h3:∀ t∈ts,t.length ≤ 1000):kTx .join [.p (.str x),w] h=some (.p (.str (M8 x ts)),h):=by
 show ((rds [.p (.str x),w] h).bind fun ds=>(txD .join ds).map fun d=>(W.p d,h))=_
 have e:rds [.p (.str x),w] h=some [.str x,.lst (ts.map .str)]:=by
  simp only[rds,hw,K6,NP,O0]
 rw[e,NP]
 show (((strsOf (ts.map .str)).bind fun ts=>if ts.length ≤ 1000 ∧ x.length ≤ 10 ∧ ∀ t∈ts,t.length ≤ 1000 then some (D.str (M8 x ts)) else none).map fun d=>(W.p d,h))=_
 rw[mZ,NP,if_pos ⟨h1,h2,h3⟩];rfl
theorem lE {n:Int} (h:Wth n):1 ≤ (d9 n).length ∧ (d9 n).length ≤ 5:=by
 obtain ⟨h0,h1⟩:=h
 obtain ⟨m,rfl⟩:=Sf h0
 have e:=Rf m
 have l:(d9 (m:Int)).length=(Nat.toDigits 10 m).length:=by
  show (M4 (toString ((m:Nat):Int))).cps.size=_
  rw[← Pu,e,Nd]
 rw[l]
 exact ⟨PyProof.Rows.tDigits_len_ge 10 m,PyProof.Rows.digits10_le (by decide) (by lia)⟩
theorem qd (i:Nm):(M4 i.w).length=1:=by cases i<;>rfl
theorem zM (o:Op):(M4 o.w).length ≤ 4:=by cases o<;>decide
theorem kD:∀ {s:Sm},s.ok → ∀ t∈s.wds,t.length ≤ 5
 | .num n,h,t,ht=>by
  have:t=d9 n:=by simpa [Sm.wds] using ht
  subst this
  exact (lE h).2
 | .nam i,h,t,ht=>by
  have:t=M4 i.w:=by simpa [Sm.wds] using ht
  subst this
  rw[qd];decide
 | .cell s,h,t,ht=>by
  rcases List.mem_cons.mp ht with rfl | ht
  ·decide
  ·exact kD (s:=s) h t ht
 | .two o a b,h,t,ht=>by
  rcases List.mem_cons.mp ht with rfl | ht
  ·have:=zM o;lia
  ·rcases List.mem_append.mp ht with ht | ht
   ·exact kD (s:=a) h.1 t ht
   ·exact kD (s:=b) h.2 t ht
noncomputable def Sm.txt (s:Sm):Str:=M8 " " s.wds
theorem fj (P:P80 T G) (k:Nat) {s:Sm} (hs:s.ok) (hz:s.size ≤ 100) (h:HH):runN T G (k+2) "written_sum" [.p s.enc] h=some (.p (.str s.txt),h):=by
 rw[run_eq P.written_sum rfl]
 obtain ⟨x',q⟩:=Cr P k h (.p s.enc) 99999 [s] [] none (by simp only[szs,NF,OM,P9,QW];lia) (by simp only[szs,NF,OM,P9,QW,Px];lia) (fun t ht=>by
  have:t=s:=by simpa using ht
  subst this;exact hs)
 simp only[QO,List.flatMap_nil,Oi,O2,Sd,NF,OM] at q
 have wl:=gc s
 have j:=jV (x:=" ") (ts:=s.wds) (h:=h++[.l (s.wds.map .str),.l []]) (w:=.r h.length) (by simp[rd]) (by lia) (by decide) fun t ht=>Nx (kD hs t ht) (by decide)
 have f:=oF h [.l (s.wds.map .str),.l []] (.str s.txt)
 rw[← Sm.txt] at j
 have eq:fq=⟨["term"],["term","words","waiting","part"],.seq (.set 1 (.lst true .nil)) (.seq (.set 2 (.lst true (.cons (.var 0) .nil))) (.seq (.whl wsC wsB) (.ret (.tx .join (.cons (.cst (.str " ")) (.cons (.var 1) .nil))))))⟩:=rfl
 rw[eq]
 simp[turns,q,j,f]
theorem zN (x:Str) (h:HH):kTx .str [.p (.str x)] h=some (.p (.str x),h):=rfl
theorem zO {n:Int} (hb:big n=true) (h:HH):kTx .str [.p (.int n)] h=some (.p (.str (d9 n)),h):=by
 show (((if big n=true then some (D.str (toString n)) else none):Option D).map fun d=>(W.p d,h))=_
 rw[if_pos hb];rfl
theorem qe {n:Int} (h:Wth n):big n=true:=by
 obtain ⟨h0,h1⟩:=h
 unfold big
 exact decide_eq_true (by lia)
theorem lt_str (hT:T "_law_text"=some dB) (k:Nat) (x:Str) (h:HH):runN T G (k+1) "_law_text" [.p (.str x)] h=some (.p (.str x),h):=by
 rw[run_eq hT rfl]
 simp[dB,zN,cS]
theorem lt_int (hT:T "_law_text"=some dB) (k:Nat) {n:Int} (hb:big n=true) (h:HH):runN T G (k+1) "_law_text" [.p (.int n)] h=some (.p (.str (d9 n)),h):=by
 rw[run_eq hT rfl]
 simp[dB,zO hb,cS]
theorem lF {s:Sm} (hs:s.ok) (hz:s.size ≤ 100):s.txt.length ≤ 600:=by
 have:=join_le " " 5 s.wds (kD hs)
 rw[gc] at this
 have e:(" ":Str).length=1:=rfl
 rw[e] at this
 exact Nx this (by lia)
noncomputable def ltW:E:=(.comp false .seq (.cons (.var 0) .nil) ["_law_part"] [] .nil (.call "_law_text" (.cons (.var 0) .nil)))
theorem cgo {F:FK → List W → HH → Option (W×HH)}{G:Str → Option W}{sr:Sr}{sa:Es}{tg:List Str}{fv:List (Nat×Str)}{cond:Es}{elt:E}{s:Sl}{h h1 h2:HH}{ws:List W}{ds xs:List D}{fs:Sl} (e1:evs F G sa s h=some (ws,h1)) (e2:(rds ws h1).bind (fH sr)=some ds) (e3:frees s fv=some fs) (e4:jh ws=true) (e5:c8 (dF (evs F G cond) (BT.ev F G elt) fs) tg.length ds h1=some (xs,h2)) (e6:xs.length ≤ 100000):BT.ev F G (.comp false sr sa tg fv cond elt) s h=some (.p (.lst xs),h2):=by
 rw[BT.ev,e1,dh]
 unfold n9
 rw[e2,e3]
 show (if jh ws=true then _ else _)=_
 rw[if_pos e4,e5,dh]
 unfold gn
 rw[if_pos (show xs.length ≤ lim from e6)];rfl
theorem uZ (F:FK → List W → HH → Option (W×HH)) (h:HH) (x1:Option W):∀ (ds:List D) (ts:List Str),ds.length=ts.length → ds.length ≤ 1000 → (∀ p∈ds.zip ts,F (.f "_law_text") [.p p.1] h=some (.p (.str p.2),h)) →
 BT.ev F G ltW [some (.p (.tup ds)),x1] h=some (.p (.lst (ts.map .str)),h):=by
 intro ds ts hl hz hf
 have go:∀ (ds:List D) (ts:List Str),ds.length=ts.length → (∀ p∈ds.zip ts,F (.f "_law_text") [.p p.1] h=some (.p (.str p.2),h)) → c8 (dF (evs F G .nil) (BT.ev F G (.call "_law_text" (.cons (.var 0) .nil))) []) 1 ds h=some (ts.map .str,h):=by
  intro ds
  induction ds with
  | nil=>intro ts hl _;cases ts with
   | nil=>rfl
   | cons _ _=>cases hl
  | cons d ds ih =>
   intro ts hl hf
   cases ts with
   | nil=>cases hl
   | cons t ts =>
    have f1:=hf (d,t) (by simp)
    have q:=ih ts (by simpa using hl) fun p hp=>hf p (by simp[hp])
    have st:c8 (dF (evs F G .nil) (BT.ev F G (.call "_law_text" (.cons (.var 0) .nil))) []) 1 (d :: ds) h=bnd (bnd (F (.f "_law_text") [.p d] h) i9) (kQ (c8 (dF (evs F G .nil) (BT.ev F G (.call "_law_text" (.cons (.var 0) .nil))) []) 1 ds)):=rfl
    rw[st,f1,dh]
    show bnd (some (some (D.str t),h)) _=_
    rw[dh,gE,q];rfl
 have c:=go ds ts hl hf
 exact cgo (ws:=[.p (.tup ds)]) (h1:=h) (fs:=[]) (by simp) rfl rfl rfl c (by rw[Nd];lia)
theorem lt_eq:dB=⟨["_law_thing"],["_law_thing","_law_words"],.seq (.ife (.not (.bi .isTuple false (.cons (.var 0) .nil))) (.ret (.tx .str (.cons (.var 0) .nil))) .nil)
 (.seq (.set 1 ltW) (.seq (.ife (.cmp .mem (.idx (.var 0) (.cst (.int 0))) (.tup (.cons (.cst (.str "num")) (.cons (.cst (.str "name")) .nil)))) (.set 1 (.slc (.var 1) (.cons (.cst (.int 1)) .nil) .nil)) .nil)
 (.ret (.tx .join (.cons (.cst (.str " ")) (.cons (.var 1) .nil))))))⟩:=rfl
theorem u0 (x:Str):fG .mem (.str x) (.tup [.str "num",.str "name"])=some (decide (x="num" ∨ x="name")):=by
 rw[dZ,if_pos (by simp)]
 congr 1
 rw[Bool.eq_iff_iff,decide_eq_true_eq]
 show ((("num":Str)==x)||((("name":Str)==x)||false))=true↔_
 rw[Bool.or_false,ON,beq_iff_eq,beq_iff_eq]
 exact ⟨fun q=>q.imp Eq.symm Eq.symm,fun q=>q.imp Eq.symm Eq.symm⟩
theorem tw (hT:T "_law_text"=some dB) (k:Nat) (x:Str) (ds:List D) (ts:List Str) (h:HH) (hx:¬ (x="num" ∨ x="name")) (hl:ds.length=ts.length) (hz:ds.length ≤ 100) (ht:∀ t∈ts,t.length ≤ 1000) (hx2:x.length ≤ 1000) (hf:∀ p∈ds.zip ts,runN T G (k+1) "_law_text" [.p p.1] h=some (.p (.str p.2),h)) :
 runN T G (k+2) "_law_text" [.p (.tup (.str x :: ds))] h=some (.p (.str (M8 " " (x :: ts))),h):=by
 rw[run_eq hT rfl,lt_eq]
 have c:=uZ (G:=G) (runN T G (k+1)) h none (.str x :: ds) (x :: ts) (by simp[hl]) (by simp;lia) (fun p hp=>by
  rcases List.mem_cons.mp (show p∈(D.str x,x) :: ds.zip ts from hp) with rfl | hp
  ·exact lt_str hT k x h
  ·exact hf p hp)
 have m:=u0 x
 rw[decide_eq_false hx] at m
 have i0:fc (.tup (.str x :: ds)) (.int 0)=some (.str x):=by
  show atP _ ((0:Nat):Int)=_
  rw[jM];rfl
 have j:=jV (x:=" ") (ts:=x :: ts) (h:=h) (w:=.p (.lst ((x :: ts).map .str))) rfl (by simp;lia) (by decide) fun t q=>by
  rcases List.mem_cons.mp q with rfl | q
  ·exact hx2
  ·exact ht t q
 generalize (x :: ts).map D.str=L at *
 generalize M8 " " (x :: ts)=J at *
 simp[-dZ,-mj,c,i0,m,j,cS]
theorem u5 (hT:T "_law_text"=some dB) (k:Nat) {x:Str}{d:D}{t:Str} (h:HH) (hx:x="num" ∨ x="name") (ht:t.length ≤ 1000) (hf:runN T G (k+1) "_law_text" [.p d] h=some (.p (.str t),h)) :
 runN T G (k+2) "_law_text" [.p (.tup [.str x,d])] h=some (.p (.str t),h):=by
 rw[run_eq hT rfl,lt_eq]
 have c:=uZ (G:=G) (runN T G (k+1)) h none [.str x,d] [x,t] rfl (by simp) (fun p hp=>by
  rcases (show p=(D.str x,x) ∨ p=(d,t) by simpa using hp) with rfl | rfl
  ·exact lt_str hT k x h
  ·exact hf)
 have m:=u0 x
 rw[decide_eq_true hx] at m
 have i0:fc (.tup [.str x,d]) (.int 0)=some (.str x):=rfl
 have s0:nC (.lst [.str x,.str t]) (some 1) none=some (.lst [.str t]):=rfl
 have j:=jV (x:=" ") (ts:=[t]) (h:=h) (w:=.p (.lst [.str t])) rfl (by simp) (by decide) fun y q=>by
  have:y=t:=by simpa using q
  subst this;exact ht
 have ej:M8 " " [t]=t:=rfl
 rw[ej] at j
 simp only[NF,OM] at c
 simp[-dZ,-mj,-sA,c,i0,m,s0,j,cS]
theorem m6 (hT:T "_law_text"=some dB):∀ (s:Sm),s.ok → s.size ≤ 100 → ∀ (k:Nat) (h:HH),runN T G (k+s.size+1) "_law_text" [.p s.enc] h=some (.p (.str s.txt),h)
 | .num n,hs,hz,k,h=>by
  rw[show (Sm.num n).txt=d9 n from rfl]
  exact u5 hT k h (.inl rfl) (Nx (lE hs).2 (by decide)) (lt_int hT k (qe hs) h)
 | .nam i,hs,hz,k,h=>by
  rw[show (Sm.nam i).txt=M4 i.w from rfl]
  exact u5 hT k h (.inr rfl) (by rw[qd];decide) (lt_str hT k _ h)
 | .cell s,hs,hz,k,h=>by
  have hz2:s.size+1 ≤ 100:=hz
  have f:=m6 hT s hs (by lia) k h
  have e:(Sm.cell s).txt=M8 " " ["cell",s.txt]:=(jO " " ["cell"] s.wds (mW s)).symm
  rw[e,show k+(Sm.cell s).size+1=(k+s.size)+2 by simp[Sm.size];lia]
  exact tw hT (k+s.size) "cell" [s.enc] [s.txt] h (by decide) rfl (by simp) (fun t ht=>by
   have:t=s.txt:=by simpa using ht
   subst this;exact Nx (lF hs (by lia)) (by decide)) (by decide) fun p hp=>by
    have:p=(s.enc,s.txt):=by simpa using hp
    subst this;exact f
 | .two o a b,hs,hz,k,h=>by
  have hz2:a.size+b.size+1 ≤ 100:=hz
  have f1:=m6 hT a hs.1 (by lia) (k+b.size) h
  have f2:=m6 hT b hs.2 (by lia) (k+a.size) h
  have e:(Sm.two o a b).txt=M8 " " [M4 o.w,a.txt,b.txt]:=(zK " " [M4 o.w] a.wds b.wds (mW a) (mW b)).symm
  rw[e,show k+(Sm.two o a b).size+1=(k+a.size+b.size)+2 by simp[Sm.size];lia]
  rw[show k+b.size+a.size+1=(k+a.size+b.size)+1 by lia] at f1
  exact tw hT (k+a.size+b.size) (M4 o.w) [a.enc,b.enc] [a.txt,b.txt] h (by cases o<;>decide) rfl (by simp) (fun t ht=>by
   rcases (show t=a.txt ∨ t=b.txt by simpa using ht) with rfl | rfl
   ·exact Nx (lF hs.1 (by lia)) (by decide)
   ·exact Nx (lF hs.2 (by lia)) (by decide)) (Nx (zM o) (by decide)) fun p hp=>by
    rcases (show p=(a.enc,a.txt) ∨ p=(b.enc,b.txt) by simpa using hp) with rfl | rfl
    ·exact f1
    ·exact f2
end
theorem m7 (y:Str):∀ (zs us:List Str),zs≠[] → us≠[] → M8 y (zs++us)=M8 y zs++y++M8 y us
 | [],_,h,_=>absurd rfl h
 | [z],us,_,h2=>by
  cases us with
  | nil=>exact absurd rfl h2
  | cons u us=>rfl
 | z :: z' :: zs,us,_,h2=>by
  have:=m7 y (z' :: zs) us (by simp) h2
  show z++y++M8 y ((z' :: zs)++us)=(z++y++M8 y (z' :: zs))++y++M8 y us
  rw[this]
  apply jN
  show (z.cps++y.cps++(((M8 y (z' :: zs)).cps++y.cps)++(M8 y us).cps)).toList=((z.cps++y.cps++(M8 y (z' :: zs)).cps)++y.cps++(M8 y us).cps).toList
  simp
theorem kM (y:Str):∀ (cs:List (List Str)) (xs:List Str),xs≠[] → (∀ c∈cs,c≠[]) → M8 y (xs++cs.map (M8 y))=M8 y (xs++cs.flatten)
 | [],xs,_,_=>by simp
 | c :: cs,xs,hx,hc=>by
  have hc1:=hc c M5
  have ih:=kM y cs (xs++c) (by simp[hx]) fun d hd=>hc d (M1 _ hd)
  rw[Oe,← NR,← ih,NF]
  by_cases z:cs.map (M8 y)=[]
  ·rw[z,Oi];exact jO y xs c hc1
  ·rw[show xs++M8 y c :: cs.map (M8 y)=(xs++[M8 y c])++cs.map (M8 y) by simp,m7 y _ _ (by simp) z,m7 y _ _ (by simp[hx]) z,jO y xs c hc1]
structure Prt where
 f:Str
 d:D
 ws:List Str
noncomputable def Prt.sm (s:Sm):Prt:=⟨"sum",s.enc,s.wds⟩
noncomputable def Prt.nm (x:Nm):Prt:=⟨"name",.str x.w,[(x.w:Str)]⟩
noncomputable def Prt.pl (p:Nat):Prt:=⟨"place",.int p,[d9 p]⟩
noncomputable def Rw.prt:Rw → List Prt
 | .set x s=>[.nm x,.sm s]
 | .put s t=>[.sm s,.sm t]
 | .ask x=>[.nm x]
 | .say s=>[.sm s]
 | .jump p=>[.pl p]
 | .unless s p=>[.sm s,.pl p]
 | .call p=>[.pl p]
 | .back=>[]
 | .stop=>[]
inductive fU (n:Nat):Prt → Prop where
 | sm (s:Sm) (h:mS s):fU n (.sm s)
 | nm (x:Nm):fU n (.nm x)
 | pl (p:Nat) (h:p ≤ n):fU n (.pl p)
theorem fV {n:Nat}{r:Rw} (h:r.ok n):∀ p∈r.prt,fU n p:=by
 cases r with
 | set x s=>intro p hp;rcases (show p=.nm x ∨ p=.sm s by simpa [Rw.prt] using hp) with rfl | rfl;exact .nm x;exact .sm s h
 | put s t=>intro p hp;rcases (show p=.sm s ∨ p=.sm t by simpa [Rw.prt] using hp) with rfl | rfl;exact .sm s h.1;exact .sm t h.2
 | ask x=>intro p hp;rw[show p=.nm x by simpa [Rw.prt] using hp];exact .nm x
 | say s=>intro p hp;rw[show p=.sm s by simpa [Rw.prt] using hp];exact .sm s h
 | jump q=>intro p hp;rw[show p=.pl q by simpa [Rw.prt] using hp];exact .pl q h
 | «unless» s q=>intro p hp;rcases (show p=.sm s ∨ p=.pl q by simpa [Rw.prt] using hp) with rfl | rfl;exact .sm s h.1;exact .pl q h.2
 | call q=>intro p hp;rw[show p=.pl q by simpa [Rw.prt] using hp];exact .pl q h
 | back=>intro p hp;cases hp
 | stop=>intro p hp;cases hp
noncomputable def Rw.wd (r:Rw):Str:=M4 r.word
noncomputable def Rw.wds (r:Rw):List Str:=r.wd :: (r.prt.map Prt.ws).flatten
noncomputable def Rw.txt (r:Rw):Str:=M8 " " r.wds
theorem jW (r:Rw):r.enc=.tup (.str r.wd :: r.prt.map Prt.d):=by cases r<;>rfl
theorem qf (r:Rw):dD r.wd Cq=some (.tup (r.prt.map fun p=>.str p.f)):=by cases r<;>rfl
theorem i8 (r:Rw):r.prt.length ≤ 2:=by cases r<;>simp[Rw.prt]
theorem zP {n:Nat}{p:Prt} (h:fU n p):p.ws≠[]:=by
 cases h with
 | sm s h=>exact mW s
 | nm x=>simp[Prt.nm]
 | pl q h=>simp[Prt.pl]
theorem m8 {p n:Nat} (hn:n ≤ 100) (h:p ≤ n):Wth (p:Int):=⟨by lia,by lia⟩
theorem tE {n:Nat} (hn:n ≤ 100) {p:Prt} (h:fU n p):(∀ t∈p.ws,t.length ≤ 5) ∧ p.ws.length ≤ 15:=by
 cases h with
 | sm s h=>exact ⟨kD h.1,by show s.wds.length ≤ 15;rw[gc];exact h.2⟩
 | nm x=>exact ⟨fun t ht=>by rw[show t=M4 x.w by simpa [Prt.nm] using ht,qd];decide,by simp[Prt.nm]⟩
 | pl q h=>exact ⟨fun t ht=>by rw[show t=d9 q by simpa [Prt.pl] using ht];exact (lE (m8 hn h)).2,by simp[Prt.pl]⟩
theorem rE {n:Nat} (hn:n ≤ 100) {p:Prt} (h:fU n p):(M8 " " p.ws).length ≤ 1000:=by
 obtain ⟨h1,h2⟩:=tE hn h
 have:=join_le " " 5 p.ws h1
 have e:(" ":Str).length=1:=rfl
 rw[e] at this
 exact Nx this (by lia)
theorem qh (r:Rw):r.word∈["set","put","ask","say","jump","unless","call","back","stop"]:=by cases r<;>simp[Rw.word]
theorem oH:∀ w∈(["set","put","ask","say","jump","unless","call","back","stop"]:List String),(M4 w).length ≤ 6 ∧ ¬ (M4 w="num" ∨ M4 w="name"):=by decide
theorem qi (r:Rw):r.wd.length ≤ 6:=(oH _ (qh r)).1
theorem Cs (r:Rw):¬ (r.wd="num" ∨ r.wd="name"):=(oH _ (qh r)).2
theorem zQ {n:Nat}{r:Rw} (h:r.ok n):r.txt=M8 " " (r.wd :: r.prt.map fun p=>M8 " " p.ws):=by
 have e:=kM " " (r.prt.map Prt.ws) [r.wd] (by simp) fun c hc=>by
  obtain ⟨p,hp,rfl⟩:=List.mem_map.mp hc
  exact zP (fV h p hp)
 rw[PM] at e
 exact e.symm
section
variable {T:FK → Option Fn}{G:Str → Option W}
theorem FQ (hT:T "_law_text"=some dB) {n:Nat} (hn:n ≤ 100) {r:Rw} (hr:r.ok n) (k:Nat) (h:HH):runN T G (k+20) "_law_text" [.p r.enc] h=some (.p (.str r.txt),h):=by
 rw[zQ hr,jW]
 refine tw hT (k+18) r.wd (r.prt.map Prt.d) (r.prt.map fun p=>M8 " " p.ws) h (Cs r) (by simp) (by rw[Nd];have:=i8 r;lia) (fun t ht=>?_) (Nx (qi r) (by decide)) fun q hq=>?_
 ·obtain ⟨p,hp,rfl⟩:=List.mem_map.mp ht
  exact rE hn (fV hr p hp)
 ·rw[List.zip_map,List.mem_map] at hq
  obtain ⟨⟨p,p'⟩,hp,rfl⟩:=hq
  have e:p=p':=by
   have:∀ l:List Prt,(p,p')∈l.zip l → p=p':=by
    intro l
    induction l with
    | nil=>intro h;cases h
    | cons a l ih=>intro h;rcases List.mem_cons.mp h with h | h;cases h;rfl;exact ih h
   exact this _ hp
  subst e
  have ok:=fV hr p (Pw hp).1
  cases ok with
  | sm s h1 =>
   have:=m6 (G:=G) hT s h1.1 (by have:=h1.2;lia) (k+18 - s.size) h
   rw[show k+18 - s.size+s.size+1=k+18+1 by have:=h1.2;lia] at this
   exact this
  | nm x=>exact lt_str hT (k+18) _ h
  | pl q h1=>exact lt_int hT (k+18) (qe (m8 hn h1)) h
theorem Jg (a:D) (l:List D):nC (.tup (a :: l)) (some 1) none=some (.tup l):=by
 have e1:clip (a :: l).length 0 (some 1)=1:=by
  show (if (1:Int) < 0 then ((1:Int)+((a :: l).length:Int)).toNat else if (1:Int) ≤ ((a :: l).length:Int) then (1:Int).toNat else (a :: l).length)=1
  rw[if_neg (by decide),if_pos (by rw[Ni];lia)];rfl
 show some (D.tup (cut (a :: l) (some 1) none))=_
 unfold cut
 rw[e1]
 simp
theorem Ct (P:P80 T G) {n:Nat} (hn:n ≤ 100) {p:Prt} (ok:fU n p) (k:Nat) (w0 w1:W) (h:HH) :
 BT.ev (runN T G (k+2)) G (.ite (.cmp .eq (.var 3) (.cst (.str "sum"))) (.call "written_sum" (.cons (.var 2) .nil)) (.tx .str (.cons (.var 2) .nil))) [some w0,some w1,some (.p p.d),some (.p (.str p.f))] h=some (.p (.str (M8 " " p.ws)),h):=by
 cases ok with
 | sm s h1 =>
  have r:=fj P k h1.1 (by have:=h1.2;lia) h
  simp[Prt.sm,r,Sm.txt]
 | nm x=>simp[Prt.nm,zN];rfl
 | pl q h1=>simp[Prt.pl,zO (qe (m8 hn h1))];rfl
theorem u6 (P:P80 T G) {n:Nat} (hn:n ≤ 100) (k:Nat) (w0:W) (h:HH):∀ (ps:List Prt) (acc:List Str) (x2 x3:Option W),(∀ p∈ps,fU n p) → acc.length+ps.length ≤ 100 →
 ∃ y2 y3,eN (evS (runN T G (k+2)) G wrB) [(2,"part"),(3,"form")] (ps.map fun p=>.tup [p.d,.str p.f]) [some w0,some (.r h.length),x2,x3] (h++[.l (acc.map .str)]) =
  some (.nx [some w0,some (.r h.length),y2,y3] (h++[.l ((acc++ps.map fun p=>M8 " " p.ws).map .str)]))
 | [],acc,x2,x3,_,_=>⟨x2,x3,by simp⟩
 | p :: ps,acc,x2,x3,hp,hl=>by
  simp only[Ni] at hl
  have c:=Ct P hn (hp p M5) k w0 (.r h.length) (h++[.l (acc.map .str)])
  obtain ⟨y2,y3,q⟩:=u6 P hn k w0 h ps (acc++[M8 " " p.ws]) (some (.p p.d)) (some (.p (.str p.f))) (fun q hq=>hp q (M1 _ hq)) (by simp;lia)
  refine ⟨y2,y3,?_⟩
  have l1:acc.length < 100000:=by lia
  have b:evS (runN T G (k+2)) G wrB [some w0,some (.r h.length),some (.p p.d),some (.p (.str p.f))] (h++[.l (acc.map .str)])=some (.nx [some w0,some (.r h.length),some (.p p.d),some (.p (.str p.f))] (h++[.l ((acc++[M8 " " p.ws]).map .str)])):=by
   rw[wrB]
   generalize (E.ite (.cmp .eq (.var 3) (.cst (.str "sum"))) (.call "written_sum" (.cons (.var 2) .nil)) (.tx .str (.cons (.var 2) .nil)))=EE at *
   simp[c,l1]
  have st:eN (evS (runN T G (k+2)) G wrB) [(2,"part"),(3,"form")] ((p :: ps).map fun p=>.tup [p.d,.str p.f]) [some w0,some (.r h.length),x2,x3] (h++[.l (acc.map .str)])=iA (evS (runN T G (k+2)) G wrB [some w0,some (.r h.length),some (.p p.d),some (.p (.str p.f))] (h++[.l (acc.map .str)])) (eN (evS (runN T G (k+2)) G wrB) [(2,"part"),(3,"form")] (ps.map fun p=>.tup [p.d,.str p.f])):=rfl
  rw[st,b,eX,q]
  simp
theorem qj:∀ ps:List Prt,gY (ps.map Prt.d) (ps.map fun p=>.str p.f)=ps.map fun p=>.tup [p.d,.str p.f]
 | []=>rfl
 | p :: ps=>by simp[qj ps]
theorem kE (P:P80 T G) {n:Nat} (hn:n ≤ 100) {r:Rw} (hr:r.ok n) (k:Nat) (h:HH):runN T G (k+3) "written_row" [.p r.enc] h=some (.p (.str r.txt),h):=by
 rw[run_eq P.written_row rfl,zQ hr,jW]
 obtain ⟨y2,y3,q⟩:=u6 P hn k (.p (.tup (.str r.wd :: r.prt.map Prt.d))) h r.prt [r.wd] none none (fV hr) (by have:=i8 r;simp;lia)
 have j:=jV (x:=" ") (ts:=r.wd :: r.prt.map fun p=>M8 " " p.ws) (h:=h++[.l (([r.wd]++r.prt.map fun p=>M8 " " p.ws).map .str)]) (w:=.r h.length) (by simp[rd]) (by have:=i8 r;simp;lia) (by decide) fun t ht=>by
  rcases List.mem_cons.mp ht with rfl | ht
  ·exact Nx (qi r) (by decide)
  ·obtain ⟨p,hp,rfl⟩:=List.mem_map.mp ht
   exact rE hn (fV hr p hp)
 have f:=oF h [.l (([r.wd]++r.prt.map fun p=>M8 " " p.ws).map .str)] (.str (M8 " " (r.wd :: r.prt.map fun p=>M8 " " p.ws)))
 have i0:fc (.tup (.str r.wd :: r.prt.map Prt.d)) (.int 0)=some (.str r.wd):=by
  show atP _ ((0:Nat):Int)=_
  rw[jM];rfl
 have s0:=Jg (.str r.wd) (r.prt.map Prt.d)
 have g:=qf r
 have z:=qj r.prt
 generalize r.prt.map Prt.d=PD at *
 generalize (r.prt.map fun p=>D.str p.f)=PF at *
 generalize (r.prt.map fun p=>D.tup [p.d,.str p.f])=PZ at *
 generalize (r.prt.map fun p=>M8 " " p.ws)=PC at *
 have sr:fH .zipG [.tup PD,.tup PF]=some PZ:=by rw[iO,← z];rfl
 simp only[O4,NF,OM,List.cons_append,O2] at q j f
 simp[-eN,-mj,-xS,-iO,fu,i0,s0,P.ROW_FORMS,g,sr,jh,q,j,f]
end
theorem Dr:(" ":Str)=⟨#[32]⟩:=by decide
theorem Jh:("\n":Str)=⟨#[10]⟩:=by decide
theorem Ds:("":Str)=⟨#[]⟩:=by decide
theorem u9 {n:Nat} (hn:n ≤ 100) {r:Rw} (hr:r.ok n):(∀ t∈r.wds,t.length ≤ 6) ∧ r.wds.length ≤ 31:=by
 constructor
 ·intro t ht
  rcases List.mem_cons.mp ht with rfl | ht
  ·exact qi r
  ·obtain ⟨l,hl,h2⟩:=List.mem_flatten.mp ht
   obtain ⟨p,hp,rfl⟩:=List.mem_map.mp hl
   exact Nat.le_succ_of_le ((tE hn (fV hr p hp)).1 t h2)
 ·have:∀ ps:List Prt,(∀ p∈ps,fU n p) → (ps.map Prt.ws).flatten.length ≤ ps.length*15:=by
   intro ps
   induction ps with
   | nil=>intro _;simp
   | cons p ps ih =>
    intro h
    have h1:=(tE hn (h p M5)).2
    have h2:=ih fun q hq=>h q (M1 _ hq)
    simp only[NF,Oe,Nl,Ni]
    lia
  have h1:=this r.prt (fV hr)
  have h2:=i8 r
  show ((r.prt.map Prt.ws).flatten).length+1 ≤ 31
  lia
theorem ng {n:Nat} (hn:n ≤ 100) {r:Rw} (hr:r.ok n):r.txt.length ≤ 217:=by
 obtain ⟨h1,h2⟩:=u9 hn hr
 have:=join_le " " 6 r.wds h1
 have e:(" ":Str).length=1:=rfl
 rw[e] at this
 exact Nx this (by lia)
noncomputable def lnT (r:Rw):Str:=r.txt++"\n"
noncomputable def pgT (pg:Pg):Str:=M8 "" (pg.map lnT)
theorem vc {n:Nat} (hn:n ≤ 100) {r:Rw} (hr:r.ok n):(lnT r).length ≤ 218:=by
 have:=ng hn hr
 have e:("\n":Str).length=1:=rfl
 show (r.txt++"\n").length ≤ 218
 rw[Pd,e]
 lia
section
variable {T:FK → Option Fn}{G:Str → Option W}
theorem jt (F:FK → List W → HH → Option (W×HH)) (f:Str) (h:HH) {n:Nat} (hn:n ≤ 100):∀ pg:Pg,(∀ r∈pg,r.ok n) → (∀ r∈pg,F (.f f) [.p r.enc] h=some (.p (.str r.txt),h)) →
 c8 (dF (evs F G .nil) (BT.ev F G (.bin .add (.call f (.cons (.var 0) .nil)) (.cst (.str "\n")))) []) 1 (pg.map Rw.enc) h=some ((pg.map lnT).map .str,h)
 | [],_,_=>rfl
 | r :: pg,hok,hf=>by
  have q:=jt F f h hn pg (fun x hx=>hok x (M1 _ hx)) fun x hx=>hf x (M1 _ hx)
  have f1:=hf r M5
  have l1:=ng hn (hok r M5)
  have e:("\n":Str).length=1:=rfl
  have el:BT.ev F G (.bin .add (.call f (.cons (.var 0) .nil)) (.cst (.str "\n"))) [some (.p r.enc)] h=some (.p (.str (lnT r)),h):=by
   have b:je .add (.str r.txt) (.str "\n")=some (.str (lnT r)):=by
    show (if r.txt.length+("\n":Str).length ≤ 100000 then _ else _)=_
    rw[if_pos (by rw[e];lia)];rfl
   generalize lnT r=L at *
   generalize r.txt=TX at *
   simp[-jf,f1,b]
  have st:c8 (dF (evs F G .nil) (BT.ev F G (.bin .add (.call f (.cons (.var 0) .nil)) (.cst (.str "\n")))) []) 1 ((r :: pg).map Rw.enc) h = bnd (bnd (BT.ev F G (.bin .add (.call f (.cons (.var 0) .nil)) (.cst (.str "\n"))) [some (.p r.enc)] h) i9) (kQ (c8 (dF (evs F G .nil) (BT.ev F G (.bin .add (.call f (.cons (.var 0) .nil)) (.cst (.str "\n")))) []) 1 (pg.map Rw.enc))):=rfl
  rw[st,el,dh]
  show bnd (some (some (D.str (lnT r)),h)) _=_
  rw[dh,gE,q];rfl
theorem jb {n:Nat} (hn:n ≤ 100) {pg:Pg} (hl:pg.length ≤ 100) (hok:∀ r∈pg,r.ok n) (h:HH):kTx .join [.p (.str ""),.p (.lst ((pg.map lnT).map .str))] h=some (.p (.str (pgT pg)),h) :=
 jV (x:="") (ts:=pg.map lnT) (w:=.p (.lst ((pg.map lnT).map .str))) rfl (by rw[Nd];lia) (by decide) fun t ht=>by
  obtain ⟨r,hr,rfl⟩:=List.mem_map.mp ht
  exact Nx (vc hn (hok r hr)) (by decide)
theorem jX (P:P80 T G) {n:Nat} (hn:n ≤ 100) {pg:Pg} (hl:pg.length ≤ 100) (hok:∀ r∈pg,r.ok n) (k:Nat) (h:HH):runN T G (k+4) "written" [.p (gP pg)] h=some (.p (.str (pgT pg)),h):=by
 rw[run_eq P.written rfl]
 have c:=jt (G:=G) (runN T G (k+3)) "written_row" h hn pg hok fun r hr=>kE P hn (hok r hr) k h
 have c2:BT.ev (runN T G (k+3)) G (.comp false .seq (.cons (.var 0) .nil) ["row"] [] .nil (.bin .add (.call "written_row" (.cons (.var 0) .nil)) (.cst (.str "\n")))) [some (.p (gP pg))] h=some (.p (.lst ((pg.map lnT).map .str)),h) :=
  cgo (ws:=[.p (gP pg)]) (h1:=h) (fs:=[]) (by simp) rfl rfl rfl c (by simp;lia)
 have j:=jb hn hl hok h
 generalize (pg.map lnT).map D.str=L at *
 generalize pgT pg=PT at *
 rw[i6]
 generalize (E.comp false .seq (.cons (.var 0) .nil) ["row"] [] .nil (.bin .add (.call "written_row" (.cons (.var 0) .nil)) (.cst (.str "\n"))))=EE at *
 generalize gP pg=PE at *
 simp[c2,j,cS]
theorem FU:∀ c:Nat,48 ≤ c → c ≤ 57 → Txt.contains "0123456789" ⟨#[c]⟩=true:=by
 intro c h1 h2
 have:c=48 ∨ c=49 ∨ c=50 ∨ c=51 ∨ c=52 ∨ c=53 ∨ c=54 ∨ c=55 ∨ c=56 ∨ c=57:=by lia
 rcases this with rfl | rfl | rfl | rfl | rfl | rfl | rfl | rfl | rfl | rfl<;>decide +kernel
theorem rF (P:P80 T G) (F:FK → List W → HH → Option (W×HH)) (h:HH):∀ l:List Nat,c8 (dF (evs F G .nil) (BT.ev F G (.tx .inS (.cons (.var 0) (.cons (.glo "FIGURES") .nil)))) []) 1 (l.map fun c=>.str ⟨#[c]⟩) h=some (l.map fun c=>.bl (Txt.contains "0123456789" ⟨#[c]⟩),h)
 | []=>rfl
 | c :: l=>by
  have q:=rF P F h l
  have el:BT.ev F G (.tx .inS (.cons (.var 0) (.cons (.glo "FIGURES") .nil))) [some (.p (.str ⟨#[c]⟩))] h=some (.p (.bl (Txt.contains "0123456789" ⟨#[c]⟩)),h):=by
   simp[P.FIGURES];rfl
  have st:c8 (dF (evs F G .nil) (BT.ev F G (.tx .inS (.cons (.var 0) (.cons (.glo "FIGURES") .nil)))) []) 1 ((c :: l).map fun c=>.str ⟨#[c]⟩) h=bnd (bnd (BT.ev F G (.tx .inS (.cons (.var 0) (.cons (.glo "FIGURES") .nil))) [some (.p (.str ⟨#[c]⟩))] h) i9) (kQ (c8 (dF (evs F G .nil) (BT.ev F G (.tx .inS (.cons (.var 0) (.cons (.glo "FIGURES") .nil)))) []) 1 (l.map fun c=>.str ⟨#[c]⟩))):=rfl
  rw[st,el,dh]
  show bnd (some (some (D.bl _),h)) _=_
  rw[dh,gE,q];rfl
theorem oJ:∀ bs:List Bool,boolsOf (bs.map .bl)=some bs
 | []=>rfl
 | b :: bs=>by
  show (boolsOf (bs.map .bl)).map (b :: ·)=_
  rw[oJ bs];rfl
theorem tF (bs:List Bool) (h:HH):kTx .all [.p (.lst (bs.map .bl))] h=some (.p (.bl (bs.all id)),h):=by
 show (((boolsOf (bs.map .bl)).map fun bs=>D.bl (bs.all id)).map fun d=>(W.p d,h))=_
 rw[oJ];rfl
theorem oK (P:P80 T G) (k:Nat) (x:Str) (hx:1 ≤ x.length) (hx2:x.length ≤ 5) (h:HH):runN T G (k+1) "is_figures" [.p (.str x)] h=some (.p (.bl (x.cps.toList.all fun c=>Txt.contains "0123456789" ⟨#[c]⟩)),h):=by
 rw[run_eq P.is_figures rfl]
 have c:=rF (G:=G) P (runN T G k) h x.cps.toList
 have c2:BT.ev (runN T G k) G (.comp false .chs (.cons (.var 0) .nil) ["sign"] [] .nil (.tx .inS (.cons (.var 0) (.cons (.glo "FIGURES") .nil)))) [some (.p (.str x))] h=some (.p (.lst (x.cps.toList.map fun c=>.bl (Txt.contains "0123456789" ⟨#[c]⟩))),h) :=
  cgo (ws:=[.p (.str x)]) (h1:=h) (fs:=[]) (by simp) rfl rfl rfl c (by
   have:x.cps.size ≤ 5:=hx2
   simp;lia)
 have a:=tF (x.cps.toList.map fun c=>Txt.contains "0123456789" ⟨#[c]⟩) h
 rw[PM] at a
 have ea:((x.cps.toList.map fun c=>Txt.contains "0123456789" ⟨#[c]⟩).all id)=x.cps.toList.all fun c=>Txt.contains "0123456789" ⟨#[c]⟩:=by
  rw[Ss];rfl
 rw[ea] at a
 have a:kTx .all [.p (.lst (x.cps.toList.map fun c=>.bl (Txt.contains "0123456789" ⟨#[c]⟩)))] h=some (.p (.bl (x.cps.toList.all fun c=>Txt.contains "0123456789" ⟨#[c]⟩)),h):=a
 have z1:(0:Int) < (x.length:Int):=by lia
 have z2:(x.length:Int) ≤ 5:=by lia
 have z3:x.length ≤ 100000:=by lia
 rw[fN]
 generalize (E.comp false .chs (.cons (.var 0) .nil) ["sign"] [] .nil (.tx .inS (.cons (.var 0) (.cons (.glo "FIGURES") .nil))))=EE at *
 generalize (x.cps.toList.map fun c=>D.bl (Txt.contains "0123456789" ⟨#[c]⟩))=L at *
 generalize (x.cps.toList.all fun c=>Txt.contains "0123456789" ⟨#[c]⟩)=B at *
 have z4:0 < x.length:=by lia
 simp[P.MOST_FIGURES,z1,z2,z3,z4,hx2,c2,a,cS]
theorem nh {n:Int} (hn:Wth n):((d9 n).cps.toList.all fun c=>Txt.contains "0123456789" ⟨#[c]⟩)=true:=by
 obtain ⟨h0,h1⟩:=hn
 obtain ⟨m,rfl⟩:=Sf h0
 rw[NQ]
 intro c hc
 have hc:c∈(M4 (toString ((m:Nat):Int))).cps.toList:=hc
 rw[Rf] at hc
 obtain ⟨ch,hch,rfl⟩:=List.mem_map.mp hc
 have d:=Nat.isDigit_of_mem_toDigits (by decide) (by decide) hch
 unfold Char.isDigit at d
 simp only[M6,decide_eq_true_eq] at d
 exact FU _ (by have:=d.1;exact this) (by have:=d.2;exact this)
theorem oM (P:P80 T G) (k:Nat) {n:Int} (hn:Wth n) (h:HH):runN T G (k+2) "number_or_word" [.p (.str (d9 n))] h=some (.p (.int n),h):=by
 rw[run_eq P.number_or_word rfl]
 have l:=lE hn
 have f:=oK P k (d9 n) l.1 l.2 h
 rw[nh hn] at f
 have t:kTx .intS [.p (.str (d9 n))] h=some (.p (.int n),h):=by
  show ((if (d9 n).length ≤ 640 then (Qq (d9 n)).map D.int else none).map fun d=>(W.p d,h))=_
  rw[if_pos (by lia),show Qq (d9 n)=some n from PySem.W.KIN.num_reads hn.1 (by have:=hn.2;lia)];rfl
 simp[dU,f,t,cS]
theorem Cu (i:Nm):((M4 i.w).cps.toList.all fun c=>Txt.contains "0123456789" ⟨#[c]⟩)=false:=by cases i<;>decide +kernel
theorem rG (P:P80 T G) (k:Nat) (i:Nm) (h:HH):runN T G (k+2) "number_or_word" [.p (.str i.w)] h=some (.p (.str i.w),h):=by
 rw[run_eq P.number_or_word rfl]
 have l:=qd i
 have f:=oK P k (M4 i.w) (by rw[l];decide) (by rw[l];decide) h
 rw[Cu i] at f
 simp[dU,f,cS]
theorem kF (P:P80 T G) (k:Nat) (n:Int) (h:HH):runN T G (k+1) "is_whole" [.p (.int n)] h=some (.p (.bl true),h):=by
 rw[run_eq P.is_whole rfl]
 simp[fC,cS]
theorem wG (P:P80 T G) (k:Nat) (x:Str) (h:HH):runN T G (k+1) "is_whole" [.p (.str x)] h=some (.p (.bl false),h):=by
 rw[run_eq P.is_whole rfl]
 simp[fC,cS]
theorem tG (P:P80 T G) (k:Nat) {n:Int} (hn:Wth n) (h:HH):runN T G (k+3) "leaf_of" [.p (.str (d9 n))] h=some (.p (Sm.num n).enc,h):=by
 rw[run_eq P.leaf_of rfl]
 have a:=oM P k hn h
 have b:=kF P (k+1) n h
 simp[gy,a,b,cS,Sm.enc]
theorem wH (P:P80 T G) (k:Nat) (i:Nm) (h:HH):runN T G (k+3) "leaf_of" [.p (.str i.w)] h=some (.p (Sm.nam i).enc,h):=by
 rw[run_eq P.leaf_of rfl]
 have a:=rG P k i h
 have b:=wG P (k+1) i.w h
 simp[gy,a,b,cS,Sm.enc]
end
theorem dg (kvs:List (Str×D)) (x:Str) (d:D) (h:HH):kTx .dget [.k (.t kvs),.p (.str x),.p d] h=some (.p ((dD x kvs).getD d),h):=rfl
theorem dg1 (kvs:List (Str×D)) (x:Str) (h:HH):kTx .dget [.k (.t kvs),.p (.str x)] h=some (.p ((dD x kvs).getD .non),h):=rfl
theorem zR {n:Int} (hn:Wth n):dD (d9 n) gW=none:=by
 have f:=nh hn
 generalize d9 n=x at *
 have ne:∀ y:Str,(y.cps.toList.all fun c=>Txt.contains "0123456789" ⟨#[c]⟩)=false → x≠y:=by
  intro y hy e
  rw[e,hy] at f
  exact absurd f (by decide)
 have a1:=ne "num" (by decide +kernel)
 have a2:=ne "name" (by decide +kernel)
 have a3:=ne "cell" (by decide +kernel)
 have a4:=ne "add" (by decide +kernel)
 have a5:=ne "sub" (by decide +kernel)
 have a6:=ne "mul" (by decide +kernel)
 have a7:=ne "less" (by decide +kernel)
 simp[gW,a1,a2,a3,a4,a5,a6,a7]
theorem Dt (i:Nm):dD (M4 i.w) gW=none:=by cases i<;>rfl
noncomputable def soC:E:=(.comp false .rng1 (.cons (.var 3) .nil) ["number"] [(1,"parts")] .nil (.me .pop (.var 1) .nil))
section
variable {T:FK → Option Fn}{G:Str → Option W}
theorem Ji (F:FK → List W → HH → Option (W×HH)) (w0 x2 x4:Option W) (n:Nat) (h:HH):BT.ev F G soC [w0,some (.r n),x2,some (.p (.int 0)),x4] h=some (.p (.lst []),h) :=
 cgo (ws:=[.p (.int 0)]) (h1:=h) (fs:=[some (.r n)]) (ds:=[]) (by simp) rfl rfl rfl rfl (by simp)
theorem tH (F:FK → List W → HH → Option (W×HH)) (i:D) (h:HH) (st:List D) (a:D):dF (evs F G .nil) (BT.ev F G (.me .pop (.var 1) .nil)) [some (.r h.length)] [i] (h++[.l (st++[a])])=some (some a,h++[.l st]):=by
 simp
theorem Jj (F:FK → List W → HH → Option (W×HH)) (w0 x2 x4:Option W) (h:HH) (st:List D) (a:D):BT.ev F G soC [w0,some (.r h.length),x2,some (.p (.int 1)),x4] (h++[.l (st++[a])])=some (.p (.lst [a]),h++[.l st]):=by
 refine cgo (ws:=[.p (.int 1)]) (h1:=h++[.l (st++[a])]) (fs:=[some (.r h.length)]) (ds:=[.int 0]) (by simp) rfl rfl rfl ?_ (by simp)
 have p1:=tH (G:=G) F (.int 0) h st a
 generalize dF (evs F G .nil) (BT.ev F G (.me .pop (.var 1) .nil)) [some (.r h.length)]=K at *
 show bnd (K [.int 0] (h++[.l (st++[a])])) (kQ (fun h=>some ([],h)))=_
 rw[p1];rfl
theorem Jk (F:FK → List W → HH → Option (W×HH)) (w0 x2 x4:Option W) (h:HH) (st:List D) (a b:D):BT.ev F G soC [w0,some (.r h.length),x2,some (.p (.int 2)),x4] (h++[.l (st++[b,a])])=some (.p (.lst [a,b]),h++[.l st]):=by
 refine cgo (ws:=[.p (.int 2)]) (h1:=h++[.l (st++[b,a])]) (fs:=[some (.r h.length)]) (ds:=[.int 0,.int 1]) (by simp) rfl rfl rfl ?_ (by simp)
 have p1:=tH (G:=G) F (.int 0) h (st++[b]) a
 have p2:=tH (G:=G) F (.int 1) h st b
 rw[NR] at p1
 generalize dF (evs F G .nil) (BT.ev F G (.me .pop (.var 1) .nil)) [some (.r h.length)]=K at *
 show bnd (K [.int 0] (h++[.l (st++([b]++[a]))])) (kQ (fun h=>bnd (K [.int 1] h) (kQ (fun h=>some ([],h)))))=_
 rw[p1,dh,gE,p2];rfl
theorem tK:soB=(.seq (.set 3 (.tx .dget (.cons (.glo "INNER_COUNTS") (.cons (.var 2) (.cons (.cst (.int 0)) .nil)))))
 (.seq (.ife (.cmp .gt (.var 3) (.bi .len false (.cons (.var 1) .nil))) .bad .nil)
 (.seq (.set 4 soC)
 (.ex (.me .append (.var 1) (.cons (.ite (.cmp .gt (.var 3) (.cst (.int 0))) (.bin .add (.tup (.cons (.var 2) .nil)) (.bi .tuple false (.cons (.var 4) .nil))) (.call "leaf_of" (.cons (.var 2) .nil))) .nil)))))):=rfl
theorem vd (P:P80 T G) (k:Nat) (w0 x3 x4:Option W) (h:HH) (st:List D) (t:Str) (d:D) (hk:dD t gW=none) (hl:∀ h,runN T G (k+3) "leaf_of" [.p (.str t)] h=some (.p d,h)) (hs:st.length < 1000) :
 evS (runN T G (k+3)) G soB [w0,some (.r h.length),some (.p (.str t)),x3,x4] (h++[.l st])=some (.nx [w0,some (.r h.length),some (.p (.str t)),some (.p (.int 0)),some (.p (.lst []))] (h++[.l (st++[d])])):=by
 have c:=Ji (G:=G) (runN T G (k+3)) w0 (some (.p (.str t))) x4 h.length (h++[.l st])
 have g:=dg gW t (.int 0) (h++[.l st])
 rw[hk] at g
 have e1:st.length < 100000:=by lia
 have e2:st.length ≤ 100000:=by lia
 have e3:¬ ((st.length:Int) < 0):=by lia
 rw[tK]
 generalize soC=EE at *
 simp[P.INNER_COUNTS,g,c,hl,e1,e2,e3,rd]
theorem FW (P:P80 T G) (k:Nat) (w0 x3 x4:Option W) (h:HH) (st:List D) (t:Str) (a:D) (hk:dD t gW=some (.int 1)) (hs:st.length < 1000) :
 evS (runN T G (k+3)) G soB [w0,some (.r h.length),some (.p (.str t)),x3,x4] (h++[.l (st++[a])])=some (.nx [w0,some (.r h.length),some (.p (.str t)),some (.p (.int 1)),some (.p (.lst [a]))] (h++[.l (st++[.tup [.str t,a]])])):=by
 have c:=Jj (G:=G) (runN T G (k+3)) w0 (some (.p (.str t))) x4 h st a
 have g:=dg gW t (.int 0) (h++[.l (st++[a])])
 rw[hk] at g
 have e1:st.length < 100000:=by lia
 have e2:st.length+1 ≤ 100000:=by lia
 have e3:¬ ((st.length:Int)+1 < 1):=by lia
 rw[tK]
 generalize soC=EE at *
 simp[P.INNER_COUNTS,g,c,e1,e2,e3,rd]
theorem FY (P:P80 T G) (k:Nat) (w0 x3 x4:Option W) (h:HH) (st:List D) (t:Str) (a b:D) (hk:dD t gW=some (.int 2)) (hs:st.length < 1000) :
 evS (runN T G (k+3)) G soB [w0,some (.r h.length),some (.p (.str t)),x3,x4] (h++[.l (st++[b,a])])=some (.nx [w0,some (.r h.length),some (.p (.str t)),some (.p (.int 2)),some (.p (.lst [a,b]))] (h++[.l (st++[.tup [.str t,a,b]])])):=by
 have c:=Jk (G:=G) (runN T G (k+3)) w0 (some (.p (.str t))) x4 h st a b
 have g:=dg gW t (.int 0) (h++[.l (st++[b,a])])
 rw[hk] at g
 have e1:st.length < 100000:=by lia
 have e2:st.length+2 ≤ 100000:=by lia
 have e3:¬ ((st.length:Int)+2 < 2):=by lia
 rw[tK]
 generalize soC=EE at *
 simp[P.INNER_COUNTS,g,c,e1,e2,e3,rd]
theorem fg1 (b:Sl → HH → Option Fl) (d:D) (r:List D) (w0 w1 x2 x3 x4:Option W) (h:HH):eN b [(2,"word")] (d :: r) [w0,w1,x2,x3,x4] h=iA (b [w0,w1,some (.p d),x3,x4] h) (eN b [(2,"word")] r):=rfl
theorem lG (P:P80 T G) (k:Nat) (w0:Option W) (h:HH):∀ (s:Sm),s.ok → ∀ (rest st:List D) (x2 x3 x4:Option W),st.length+s.size ≤ 900 →
 ∃ y2 y3 y4,eN (evS (runN T G (k+3)) G soB) [(2,"word")] (s.wds.reverse.map .str++rest) [w0,some (.r h.length),x2,x3,x4] (h++[.l st])=eN (evS (runN T G (k+3)) G soB) [(2,"word")] rest [w0,some (.r h.length),y2,y3,y4] (h++[.l (st++[s.enc])])
 | .num n,hs,rest,st,x2,x3,x4,hl=>by
  have e:=vd P k w0 x3 x4 h st (d9 n) (Sm.num n).enc (zR hs) (fun h=>tG P k hs h) (by lia)
  refine ⟨some (.p (.str (d9 n))),some (.p (.int 0)),some (.p (.lst [])),?_⟩
  ·show eN _ _ (.str (d9 n) :: rest) _ _=_
   rw[fg1,e,eX]
 | .nam i,hs,rest,st,x2,x3,x4,hl=>by
  have e:=vd P k w0 x3 x4 h st (M4 i.w) (Sm.nam i).enc (Dt i) (fun h=>wH P k i h) (by lia)
  refine ⟨some (.p (.str (M4 i.w))),some (.p (.int 0)),some (.p (.lst [])),?_⟩
  ·show eN _ _ (.str (M4 i.w) :: rest) _ _=_
   rw[fg1,e,eX]
 | .cell s,hs,rest,st,x2,x3,x4,hl=>by
  have hl2:st.length+(s.size+1) ≤ 900:=hl
  obtain ⟨y2,y3,y4,q⟩:=lG P k w0 h s hs (.str "cell" :: rest) st x2 x3 x4 (by lia)
  have e:=FW P k w0 y3 y4 h st "cell" s.enc rfl (by lia)
  refine ⟨some (.p (.str "cell")),some (.p (.int 1)),some (.p (.lst [s.enc])),?_⟩
  ·rw[show (Sm.cell s).wds.reverse.map D.str++rest=s.wds.reverse.map D.str++.str "cell" :: rest by simp[Sm.wds],q,fg1,e,eX];rfl
 | .two o a b,hs,rest,st,x2,x3,x4,hl=>by
  have hl2:st.length+(a.size+b.size+1) ≤ 900:=hl
  obtain ⟨y2,y3,y4,q⟩:=lG P k w0 h b hs.2 (a.wds.reverse.map D.str++.str (M4 o.w) :: rest) st x2 x3 x4 (by lia)
  obtain ⟨z2,z3,z4,q2⟩:=lG P k w0 h a hs.1 (.str (M4 o.w) :: rest) (st++[b.enc]) y2 y3 y4 (by have:=b.size_pos;simp;lia)
  have e:=FY P k w0 z3 z4 h st (M4 o.w) a.enc b.enc (Dq o) (by lia)
  refine ⟨some (.p (.str (M4 o.w))),some (.p (.int 2)),some (.p (.lst [a.enc,b.enc])),?_⟩
  ·rw[show (Sm.two o a b).wds.reverse.map D.str++rest=b.wds.reverse.map D.str++(a.wds.reverse.map D.str++.str (M4 o.w) :: rest) by simp[Sm.wds],q,q2,fg1,NR,List.cons_append,O2,e,eX];rfl
theorem kN (P:P80 T G) (k:Nat) {s:Sm} (hs:s.ok) (hz:s.size ≤ 100) (h:HH):runN T G (k+4) "sum_of" [.p (.lst (s.wds.map .str))] h=some (.p s.enc,h):=by
 rw[run_eq P.sum_of rfl]
 obtain ⟨y2,y3,y4,q⟩:=lG P k (some (.p (.lst (s.wds.map .str)))) h s hs [] [] none none none (by simp;lia)
 rw[Oi,List.map_reverse,O2] at q
 have f:=oF h [.l [s.enc]] s.enc
 have sr:fH .rev [.lst (s.wds.map .str)]=some (s.wds.map .str).reverse:=rfl
 have q:eN (evS (runN T G (k+3)) G soB) [(2,"word")] (s.wds.map D.str).reverse [some (.p (.lst (s.wds.map .str))),some (.r h.length),none,none,none] (h++[.l []])=some (.nx [some (.p (.lst (s.wds.map .str))),some (.r h.length),y2,y3,y4] (h++[.l [s.enc]])):=q
 generalize s.wds.map D.str=L at *
 generalize s.enc=EN at *
 have i0:∀ d:D,fc (.lst [d]) (.int (-1))=some d:=fun _=>rfl
 simp[-eN,-eB,jR,jh,q,f,rd,i0]
end
theorem qk (a:List D) (x:D) (b:List D) {i:Int} (hi:i=(a.length:Int)):fc (.lst (a++x :: b)) (.int i)=some x:=by
 subst hi
 show atP _ ((a.length:Nat):Int)=_
 rw[jM]
 simp
theorem Cv (a b c:List D) {i j:Int} (hi:i=(a.length:Int)) (hj:j=((a.length+b.length:Nat):Int)):nC (.lst (a++b++c)) (some i) (some j)=some (.lst b):=by
 have e1:clip (a++b++c).length 0 (some i)=a.length:=by
  show (if i < 0 then (i+((a++b++c).length:Int)).toNat else if i ≤ ((a++b++c).length:Int) then i.toNat else (a++b++c).length)=a.length
  rw[if_neg (by lia),if_pos (by simp only[Nl];lia),hi];rfl
 have e2:clip (a++b++c).length (a++b++c).length (some j)=a.length+b.length:=by
  show (if j < 0 then (j+((a++b++c).length:Int)).toNat else if j ≤ ((a++b++c).length:Int) then j.toNat else (a++b++c).length)=a.length+b.length
  rw[if_neg (by lia),if_pos (by simp only[Nl];lia),hj];rfl
 show some (D.lst (cut (a++b++c) (some i) (some j)))=_
 unfold cut
 rw[e1,e2]
 simp
theorem Cw {s:Sm} (hs:s.ok):(dD s.hd gW).getD (.int 0)=.int (s.inn.length:Int):=by
 cases s with
 | num n=>rw[show (Sm.num n).hd=d9 n from rfl,zR hs];rfl
 | nam i=>rw[show (Sm.nam i).hd=M4 i.w from rfl,Dt i];rfl
 | cell s=>rfl
 | two o a b=>rw[show (Sm.two o a b).hd=M4 o.w from rfl,Dq o];rfl
noncomputable def seC:E:=(.and (.cmp .gt (.var 2) (.cst (.int 0))) (.cmp .lt (.var 1) (.bi .len false (.cons (.var 0) .nil))))
section
theorem Cy (P:P80 T G) (F:FK → List W → HH → Option (W×HH)) (h:HH) (post:List Str) (W':List D):∀ (m:Nat) (stk:List Sm) (pre:List Str) (i j:Int),szs stk ≤ m → i=(pre.length:Int) → j=(stk.length:Int) → W'.length ≤ 900 → (∀ s∈stk,s.ok) → W'=(pre++stk.flatMap Sm.wds++post).map .str →
 fz (BT.ev F G seC) (evS F G seB) (m+1) [some (.p (.lst W')),some (.p (.int i)),some (.p (.int j))] h=some (.nx [some (.p (.lst W')),some (.p (.int (i+szs stk))),some (.p (.int 0))] h):=by
 intro m
 induction m with
 | zero =>
  intro stk pre i j hs hi hj hl hok hW
  have:stk=[]:=by
   have:=jU stk
   exact OD (by lia)
  subst this
  have hj:j=0:=hj
  subst hj
  simp[fz,seC,szs]
 | succ m ih =>
  intro stk pre i j hs hi hj hl hok hW
  cases stk with
  | nil =>
   have hj:j=0:=hj
   subst hj
   simp[fz,seC,szs]
  | cons s l =>
   have e:=mY s l
   have ok1:=hok s M5
   have hW2:W'=(pre++[s.hd]++(s.inn++l).flatMap Sm.wds++post).map .str:=by
    rw[hW,QO,sY s,SS]
    simp
   have hW3:W'=pre.map .str++.str s.hd :: (((s.inn++l).flatMap Sm.wds++post).map .str):=by
    rw[hW2];simp
   have q:=ih (s.inn++l) (pre++[s.hd]) (i+1) (j+((s.inn.length:Int) - 1)) (by lia) (by simp;lia) (by simp only[Nl,hj,Ni];lia) hl (fun t ht=>by
    rcases List.mem_append.mp ht with z | z
    ·exact sZ ok1 t z
    ·exact hok t (M1 _ z)) hW2
   have l1:(W'.length:Int)=(pre.length:Int)+1+((((s.inn++l).flatMap Sm.wds++post).length:Nat):Int):=by
    rw[hW3,Nl,Ni,Nd,Nd];lia
   have i1:i < (W'.length:Int):=by lia
   have j1:(0:Int) < j:=by rw[hj,Ni];lia
   have x0:fc (.lst W') (.int i)=some (.str s.hd):=by
    rw[hW3];exact qk _ _ _ (by simpa using hi)
   have g:=dg gW s.hd (.int 0) h
   rw[Cw ok1] at g
   have hl2:W'.length ≤ 100000:=by lia
   have hc:BT.ev F G seC [some (.p (.lst W')),some (.p (.int i)),some (.p (.int j))] h=some (.p (.bl true),h):=by
    simp[seC,i1,j1,hl2]
   have hb:evS F G seB [some (.p (.lst W')),some (.p (.int i)),some (.p (.int j))] h =
    some (.nx [some (.p (.lst W')),some (.p (.int (i+1))),some (.p (.int (j+((s.inn.length:Int) - 1))))] h):=by
    simp[-eB,seB,x0,P.INNER_COUNTS,g]
   rw[fz,hc,sG,o9,hb,eX,q,e]
   rw[show i+1+(szs (s.inn++l):Int)=i+((szs (s.inn++l)+1:Nat):Int) by lia]
theorem qm (P:P80 T G) (k:Nat) {s:Sm} (hs:s.ok) (hz:s.size ≤ 100) (pre post:List Str) (hl:(pre++s.wds++post).length ≤ 900) {i:Int} (hi:i=(pre.length:Int)) (h:HH) :
 runN T G (k+1) "sum_end" [.p (.lst ((pre++s.wds++post).map .str)),.p (.int i)] h=some (.p (.int (i+s.size)),h):=by
 rw[run_eq P.sum_end rfl]
 have q:=Cy P (runN T G k) h post ((pre++s.wds++post).map .str) 99999 [s] pre i 1 (by simp[szs];lia) hi rfl (by rw[Nd];exact hl) (fun t ht=>by
  have:t=s:=by simpa using ht
  subst this;exact hs) (by simp)
 have e:szs [s]=s.size:=by simp[szs]
 rw[e] at q
 generalize (pre++s.wds++post).map D.str=L at *
 have eq:i7=⟨["words","start"],["words","start","missing"],.seq (.set 2 (.cst (.int 1))) (.seq (.whl seC seB) (.ret (.var 1)))⟩:=rfl
 rw[eq]
 simp[turns,q,cS]
theorem tL (P:P80 T G) (k:Nat) {n:Int} (hn:Wth n) (h:HH):runN T G (k+2) "is_worth" [.p (.int n)] h=some (.p (.bl true),h):=by
 rw[run_eq P.is_worth rfl]
 have a:=kF P k n h
 obtain ⟨h0,h1⟩:=hn
 have h2:n < 10007:=by lia
 simp[gS,a,P.WORTH_COUNT,h0,h2,cS]
theorem oN (P:P80 T G) (k:Nat) (x:Nm) (h:HH):runN T G (k+1) "is_name" [.p (.str x.w)] h=some (.p (.bl true),h):=by
 rw[run_eq P.is_name rfl]
 have g:G "LETTERS"=some (.p (.tup Cj)):=P.LETTERS
 have m:=Ck x
 generalize Cj=L at *
 simp[-dZ,gO,g,m,cS]
theorem tM (P:P80 T G) (k:Nat) {p n:Nat} (hp:p ≤ n) (h:HH):runN T G (k+2) "is_place" [.p (.int p),.p (.int n)] h=some (.p (.bl true),h):=by
 rw[run_eq P.is_place rfl]
 have a:=kF P k p h
 simp[gT,a,hp,cS]
theorem fW (P:P80 T G) (k:Nat) (x:Str) (ds:List D) (hl:ds.length ≤ 100) (h:HH):runN T G (k+1) "first_word" [.p (.tup (.str x :: ds))] h=some (.p (.str x),h):=by
 rw[run_eq P.first_word rfl]
 have i0:fc (.tup (.str x :: ds)) (.int 0)=some (.str x):=by
  show atP _ ((0:Nat):Int)=_
  rw[jM];rfl
 have l1:ds.length+1 ≤ 100000:=by lia
 have l2:(0:Int) < (ds.length:Int)+1:=by lia
 simp[-mj,fL,i0,l1,l2,cS]
theorem wI (P:P80 T G) (k:Nat) {s:Sm} (hs:s.ok) (h:HH):runN T G (k+3) "has_sum_form" [.p s.enc] h=some (.p (.bl true),h):=by
 rw[run_eq P.has_sum_form rfl]
 cases s with
 | num n =>
  have a:=fW P (k+1) "num" [.int n] (by simp) h
  have b:=tL P k hs h
  simp[dH,Sm.enc,a,b,cS]
 | nam i =>
  have a:=fW P (k+1) "name" [.str i.w] (by simp) h
  have b:=oN P (k+1) i h
  simp[dH,Sm.enc,a,b,cS]
 | cell s =>
  have a:=fW P (k+1) "cell" [s.enc] (by simp) h
  simp[dH,Sm.enc,a,P.INNER_COUNTS,gW,cS]
 | two o s t =>
  have a:=fW P (k+1) o.w [s.enc,t.enc] (by simp) h
  cases o<;>(simp[Op.w] at a;simp[dH,Sm.enc,a,Op.w,P.INNER_COUNTS,gW,cS])
noncomputable def isC:E:=(.cmp .gt (.bi .len false (.cons (.var 1) .nil)) (.cst (.int 0)))
theorem Cz (P:P80 T G) (k:Nat) (h:HH) (t0:W):∀ (m:Nat) (stk:List Sm) (c:Int) (x:Option W),szs stk ≤ m → 0 ≤ c → c+szs stk ≤ 15 → (∀ s∈stk,s.ok) →
 ∃ x' c',fz (BT.ev (runN T G (k+3)) G isC) (evS (runN T G (k+3)) G zL) (m+1) [some t0,some (.r h.length),some (.p (.int c)),x] (h++[.l (stk.reverse.map Sm.enc)]) =
  some (.nx [some t0,some (.r h.length),c',x'] (h++[.l []])):=by
 intro m
 induction m with
 | zero =>
  intro stk c x hs _ _ _
  have:stk=[]:=by
   have:=jU stk
   exact OD (by lia)
  subst this
  exact ⟨x,some (.p (.int c)),by simp[fz,isC,rd]⟩
 | succ m ih =>
  intro stk c x hs hc0 hl hok
  cases stk with
  | nil=>exact ⟨x,some (.p (.int c)),by simp[fz,isC,rd]⟩
  | cons s l =>
   have e:=mY s l
   have e2:szs (s.inn.reverse++l)=szs (s.inn++l):=by rw[kC,kC,wF]
   have ok1:=hok s M5
   obtain ⟨x',c',q⟩:=ih (s.inn.reverse++l) (c+1) (some (.p s.enc)) (by lia) (by lia) (by lia) (fun t ht=>by
    rcases List.mem_append.mp ht with z | z
    ·exact sZ ok1 t (List.mem_reverse.mp z)
    ·exact hok t (M1 _ z))
   refine ⟨x',c',?_⟩
   have r:=mX P (k+2) s
   have r2:=wI P k ok1
   have hl2:=jU (s.inn++l)
   rw[Nl] at hl2
   have l1:l.length+s.inn.length ≤ 100000:=by lia
   have l2:l.length+1 ≤ 100000:=by lia
   have c1:(0:Int) < (l.length:Int)+1:=by lia
   have c2:¬ (15 < c+1):=by lia
   have hc:BT.ev (runN T G (k+3)) G isC [some t0,some (.r h.length),some (.p (.int c)),x] (h++[.l ((s :: l).reverse.map Sm.enc)])=some (.p (.bl true),h++[.l ((s :: l).reverse.map Sm.enc)]):=by
    simp[isC,rd,c1,l2]
   have hb:evS (runN T G (k+3)) G zL [some t0,some (.r h.length),some (.p (.int c)),x] (h++[.l ((s :: l).reverse.map Sm.enc)]) =
    some (.nx [some t0,some (.r h.length),some (.p (.int (c+1))),some (.p s.enc)] (h++[.l ((s.inn.reverse++l).reverse.map Sm.enc)])):=by
    simp[zL,P.MOST_PARTS,r,r2,l1,c2]
   rw[fz,hc,sG,o9,hb,eX,q]
theorem kO (P:P80 T G) (k:Nat) {s:Sm} (hs:mS s) (h:HH):runN T G (k+4) "is_sum" [.p s.enc] h=some (.p (.bl true),h):=by
 rw[run_eq P.is_sum rfl]
 have hz:=hs.2
 obtain ⟨x',c',q⟩:=Cz P k h (.p s.enc) 99999 [s] 0 none (by simp only[szs,NF,OM,P9,QW];lia) (by decide) (by simp only[szs,NF,OM,P9,QW];lia) (fun t ht=>by
  have:t=s:=by simpa using ht
  subst this;exact hs.1)
 simp only[Sd,NF,OM] at q
 have f:=oF h [.l []] (.bl true)
 have eq:jP=⟨["thing"],["thing","waiting","parts","part"],.seq (.set 1 (.lst true (.cons (.var 0) .nil))) (.seq (.set 2 (.cst (.int 0))) (.seq (.whl isC zL) (.ret (.cst (.bl true)))))⟩:=rfl
 rw[eq]
 simp[turns,q,f]
theorem wJ (P:P80 T G) (k:Nat) {n:Nat}{p:Prt} (hp:fU n p) (h:HH):runN T G (k+5) "fits" [.p p.d,.p (.str p.f),.p (.int n)] h=some (.p (.bl true),h):=by
 rw[run_eq P.fits rfl]
 cases hp with
 | sm s hs =>
  have a:=kO P k hs h
  simp[kB,Prt.sm,a,cS]
 | nm x =>
  have a:=oN P (k+3) x h
  simp[kB,Prt.nm,a,cS]
 | pl q hq =>
  have a:=tM P (k+2) hq h
  simp[kB,Prt.pl,a,cS]
noncomputable def frE:E:=(.call "fits" (.cons (.var 0) (.cons (.var 1) (.cons (.var 2) .nil))))
theorem ve (F:FK → List W → HH → Option (W×HH)) (n:Int) (h:HH):∀ ps:List Prt,(∀ p∈ps,F (.f "fits") [.p p.d,.p (.str p.f),.p (.int n)] h=some (.p (.bl true),h)) →
 c8 (dF (evs F G .nil) (BT.ev F G frE) [some (.p (.int n))]) 2 (ps.map fun p=>.tup [p.d,.str p.f]) h=some ((ps.map fun _=>true).map .bl,h)
 | [],_=>rfl
 | p :: ps,hp=>by
  have q:c8 (dF (evs F G .nil) (BT.ev F G frE) [some (.p (.int n))]) 2 (ps.map fun p=>.tup [p.d,.str p.f]) h=some ((ps.map fun _=>true).map .bl,h):=ve F n h ps fun x hx=>hp x (M1 _ hx)
  have f1:=hp p M5
  have st:c8 (dF (evs F G .nil) (BT.ev F G frE) [some (.p (.int n))]) 2 ((p :: ps).map fun p=>.tup [p.d,.str p.f]) h=bnd (bnd (F (.f "fits") [.p p.d,.p (.str p.f),.p (.int n)] h) i9) (kQ (c8 (dF (evs F G .nil) (BT.ev F G frE) [some (.p (.int n))]) 2 (ps.map fun p=>.tup [p.d,.str p.f]))):=rfl
  rw[st,f1,dh]
  show bnd (some (some (D.bl true),h)) _=_
  rw[dh,gE,q];rfl
theorem all_true {α:Type} (l:List α):((l.map fun _=>true).all id)=true:=by simp
theorem rH (P:P80 T G) (k:Nat) {n:Nat}{r:Rw} (hr:r.ok n) (h:HH):runN T G (k+6) "is_row" [.p r.enc,.p (.int n)] h=some (.p (.bl true),h):=by
 rw[run_eq P.is_row rfl,jW]
 have lp:=i8 r
 have a:=fW P (k+4) r.wd (r.prt.map Prt.d) (by rw[Nd];lia) h
 have g:=dg1 Cq r.wd h
 rw[qf r] at g
 have c:=ve (G:=G) (runN T G (k+5)) n h r.prt fun p hp=>wJ P k (fV hr p hp) h
 have s0:=Jg (.str r.wd) (r.prt.map Prt.d)
 have z:=qj r.prt
 have ld:(r.prt.map Prt.d).length=(r.prt.map fun p=>D.str p.f).length:=by simp
 have ld2:(r.prt.map fun p=>D.str p.f).length ≤ 2:=by simpa using lp
 have t:=tF (r.prt.map fun _=>true) h
 rw[all_true] at t
 have lb:((r.prt.map fun _=>true).map D.bl).length ≤ 100000:=by simp;lia
 generalize r.prt.map Prt.d=PD at *
 generalize (r.prt.map fun p=>D.str p.f)=PF at *
 generalize (r.prt.map fun p=>D.tup [p.d,.str p.f])=PZ at *
 generalize ((r.prt.map fun _=>true).map D.bl)=PB at *
 have sr:fH .zipG [.tup PD,.tup PF]=some PZ:=by rw[iO,← z];rfl
 have c2:BT.ev (runN T G (k+5)) G (.comp false .zipG (.cons (.slc (.var 0) (.cons (.cst (.int 1)) .nil) .nil) (.cons (.var 2) .nil)) ["part","form"] [(1,"row_count")] .nil frE) [some (.p (.tup (.str r.wd :: PD))),some (.p (.int n)),some (.p (.tup PF))] h=some (.p (.lst PB),h) :=
  cgo (ws:=[.p (.tup PD),.p (.tup PF)]) (h1:=h) (fs:=[some (.p (.int n))]) (by simp[-xS,s0]) (by rw[show rds [.p (.tup PD),.p (.tup PF)] h=some [.tup PD,.tup PF] from rfl,NP,sr]) rfl rfl c lb
 have eq:jQ=⟨["thing","row_count"],["thing","row_count","forms"],.seq (.set 2 (.tx .dget (.cons (.glo "ROW_FORMS") (.cons (.call "first_word" (.cons (.var 0) .nil)) .nil)))) (.seq (.ife (.or (.cmp .isN (.var 2) (.cst .non)) (.cmp .ne (.bi .len false (.cons (.var 0) .nil)) (.bin .add (.bi .len false (.cons (.var 2) .nil)) (.cst (.int 1))))) (.ret (.cst (.bl false))) .nil) (.ret (.tx .all (.cons (.comp false .zipG (.cons (.slc (.var 0) (.cons (.cst (.int 1)) .nil) .nil) (.cons (.var 2) .nil)) ["part","form"] [(1,"row_count")] .nil frE) .nil))))⟩:=rfl
 rw[eq]
 generalize (E.comp false .zipG (.cons (.slc (.var 0) (.cons (.cst (.int 1)) .nil) .nil) (.cons (.var 2) .nil)) ["part","form"] [(1,"row_count")] .nil frE)=EE at *
 have l1:PF.length+1 ≤ 100000:=by lia
 have l2:PF.length ≤ 100000:=by lia
 simp[P.ROW_FORMS,a,g,ld,l1,l2,c2,t,cS]
noncomputable def ipE:E:=(.call "is_row" (.cons (.var 0) (.cons (.bi .len false (.cons (.var 1) .nil)) .nil)))
theorem vf (F:FK → List W → HH → Option (W×HH)) (ds:List D) (hd:ds.length ≤ 1000) (h:HH):∀ pg:Pg,(∀ r∈pg,F (.f "is_row") [.p r.enc,.p (.int ds.length)] h=some (.p (.bl true),h)) →
 c8 (dF (evs F G .nil) (BT.ev F G ipE) [some (.p (.tup ds))]) 1 (pg.map Rw.enc) h=some ((pg.map fun _=>true).map .bl,h)
 | [],_=>rfl
 | r :: pg,hp=>by
  have q:c8 (dF (evs F G .nil) (BT.ev F G ipE) [some (.p (.tup ds))]) 1 (pg.map Rw.enc) h=some ((pg.map fun _=>true).map .bl,h):=vf F ds hd h pg fun x hx=>hp x (M1 _ hx)
  have f1:=hp r M5
  have l1:ds.length ≤ 100000:=by lia
  have el:BT.ev F G ipE [some (.p r.enc),some (.p (.tup ds))] h=some (.p (.bl true),h):=by simp[ipE,l1,f1]
  have st:c8 (dF (evs F G .nil) (BT.ev F G ipE) [some (.p (.tup ds))]) 1 ((r :: pg).map Rw.enc) h=bnd (bnd (BT.ev F G ipE [some (.p r.enc),some (.p (.tup ds))] h) i9) (kQ (c8 (dF (evs F G .nil) (BT.ev F G ipE) [some (.p (.tup ds))]) 1 (pg.map Rw.enc))):=rfl
  rw[st,el,dh]
  show bnd (some (some (D.bl true),h)) _=_
  rw[dh,gE,q];rfl
theorem kU (P:P80 T G) (k:Nat) {pg:Pg} (hl:pg.length ≤ 20) (hok:∀ r∈pg,r.ok pg.length) (h:HH):runN T G (k+7) "is_program" [.p (gP pg)] h=some (.p (.bl true),h):=by
 rw[run_eq P.is_program rfl]
 have c:=vf (G:=G) (runN T G (k+6)) (pg.map Rw.enc) (by rw[Nd];lia) h pg fun r hr=>by
  have:=rH P k (hok r hr) h
  rw[Nd];exact this
 have t:=tF (pg.map fun _=>true) h
 rw[all_true] at t
 have lb:((pg.map fun _=>true).map D.bl).length ≤ 100000:=by simp;lia
 have l1:(pg.map Rw.enc).length ≤ 20:=by simpa using hl
 rw[show gP pg=.tup (pg.map Rw.enc) from rfl]
 generalize ((pg.map fun _=>true).map D.bl)=PB at *
 generalize pg.map Rw.enc=PE at *
 have c2:BT.ev (runN T G (k+6)) G (.comp false .seq (.cons (.var 0) .nil) ["row"] [(0,"thing")] .nil ipE) [some (.p (.tup PE))] h=some (.p (.lst PB),h) :=
  cgo (ws:=[.p (.tup PE)]) (h1:=h) (fs:=[some (.p (.tup PE))]) (by simp) rfl rfl rfl c lb
 have eq:fM=⟨["thing"],["thing"],.seq (.ife (.or (.not (.bi .isTuple false (.cons (.var 0) .nil))) (.cmp .gt (.bi .len false (.cons (.var 0) .nil)) (.glo "MOST_ROWS"))) (.ret (.cst (.bl false))) .nil) (.ret (.tx .all (.cons (.comp false .seq (.cons (.var 0) .nil) ["row"] [(0,"thing")] .nil ipE) .nil)))⟩:=rfl
 rw[eq]
 generalize (E.comp false .seq (.cons (.var 0) .nil) ["row"] [(0,"thing")] .nil ipE)=EE at *
 have l2:¬ (20 < (PE.length:Int)):=by lia
 have l3:PE.length ≤ 100000:=by lia
 have l4:¬ (20 < PE.length):=by lia
 simp[P.MOST_ROWS,l2,l3,l4,c2,t,cS]
end
theorem vg {n:Int} (hn:Wth n):Fre 32 (d9 n) ∧ Fre 10 (d9 n):=by
 have f:=nh hn
 rw[NQ] at f
 constructor
 ·intro h;have:=f 32 h;exact absurd this (by decide +kernel)
 ·intro h;have:=f 10 h;exact absurd this (by decide +kernel)
theorem zS (i:Nm):Fre 32 (M4 i.w) ∧ Fre 10 (M4 i.w):=by
 unfold Fre;cases i<;>decide +kernel
theorem FZ (o:Op):Fre 32 (M4 o.w) ∧ Fre 10 (M4 o.w):=by
 unfold Fre;cases o<;>decide +kernel
theorem zT:Fre 32 ("cell":Str) ∧ Fre 10 ("cell":Str):=by unfold Fre;decide +kernel
theorem F0 (r:Rw):Fre 32 r.wd ∧ Fre 10 r.wd:=by
 unfold Fre
 have:∀ w∈(["set","put","ask","say","jump","unless","call","back","stop"]:List String),32∉(M4 w).cps.toList ∧ 10∉(M4 w).cps.toList:=by decide +kernel
 exact this _ (qh r)
theorem jY:∀ {s:Sm},s.ok → ∀ t∈s.wds,Fre 32 t ∧ Fre 10 t
 | .num n,h,t,ht=>by
  have:t=d9 n:=by simpa [Sm.wds] using ht
  subst this
  exact vg h
 | .nam i,h,t,ht=>by
  have:t=M4 i.w:=by simpa [Sm.wds] using ht
  subst this
  exact zS i
 | .cell s,h,t,ht=>by
  rcases List.mem_cons.mp ht with rfl | ht
  ·exact zT
  ·exact jY (s:=s) h t ht
 | .two o a b,h,t,ht=>by
  rcases List.mem_cons.mp ht with rfl | ht
  ·exact FZ o
  ·rcases List.mem_append.mp ht with ht | ht
   ·exact jY (s:=a) h.1 t ht
   ·exact jY (s:=b) h.2 t ht
theorem CA {n:Nat} (hn:n ≤ 100) {p:Prt} (h:fU n p):∀ t∈p.ws,Fre 32 t ∧ Fre 10 t:=by
 cases h with
 | sm s h=>exact jY h.1
 | nm x=>intro t ht;rw[show t=M4 x.w by simpa [Prt.nm] using ht];exact zS x
 | pl q h=>intro t ht;rw[show t=d9 q by simpa [Prt.pl] using ht];exact vg (m8 hn h)
theorem vh {n:Nat} (hn:n ≤ 100) {r:Rw} (hr:r.ok n):∀ t∈r.wds,Fre 32 t ∧ Fre 10 t:=by
 intro t ht
 rcases List.mem_cons.mp ht with rfl | ht
 ·exact F0 r
 ·obtain ⟨l,hl,h2⟩:=List.mem_flatten.mp ht
  obtain ⟨p,hp,rfl⟩:=List.mem_map.mp hl
  exact CA hn (fV hr p hp) t h2
theorem rJ {c:Nat}{y:Str} (hy:Fre c y):∀ ts:List Str,(∀ t∈ts,Fre c t) → Fre c (M8 y ts)
 | [],_=>by intro h;cases h
 | [x],h=>h x M5
 | x :: x' :: r,h=>by
  have ih:=rJ hy (x' :: r) fun t ht=>h t (M1 _ ht)
  have h1:=h x M5
  intro m
  have m:c∈(x.cps++y.cps++(M8 y (x' :: r)).cps).toList:=m
  simp only[Array.toList_append,List.mem_append] at m
  rcases m with (m | m) | m
  ·exact h1 m
  ·exact hy m
  ·exact ih m
theorem CB {n:Nat} (hn:n ≤ 100) {r:Rw} (hr:r.ok n):Fre 10 r.txt :=
 rJ (by unfold Fre;decide +kernel) _ fun t ht=>(vh hn hr t ht).2
theorem wK {s:Sm} (hs:s.ok):Txt.split s.txt " "=s.wds:=by
 have:=jr (c:=32) (mW s) fun t ht=>(jY hs t ht).1
 rw[← Dr] at this
 exact this
theorem wL {n:Nat} (hn:n ≤ 100) {r:Rw} (hr:r.ok n):Txt.split r.txt " "=r.wds:=by
 have:=jr (c:=32) (ts:=r.wds) (by simp[Rw.wds]) fun t ht=>(vh hn hr t ht).1
 rw[← Dr] at this
 exact this
theorem F2 (pg:Pg):pgT pg=M8 ⟨#[10]⟩ (pg.map Rw.txt++[⟨#[]⟩]):=by
 have:=mV (pg.map Rw.txt)
 rw[← this,PM]
 unfold pgT
 rw[Ds]
 rfl
theorem zU {n:Nat} (hn:n ≤ 100) {pg:Pg} (hok:∀ r∈pg,r.ok n):Txt.split (pgT pg) "\n" = pg.map Rw.txt ++ [("":Str)]:=by
 rw[F2,Jh,Ds]
 refine jr (by simp) fun t ht=>?_
 rcases List.mem_append.mp ht with ht | ht
 ·obtain ⟨r,hr,rfl⟩:=List.mem_map.mp ht
  exact CB hn (hok r hr)
 ·rw[show t=⟨#[]⟩ by simpa using ht]
  intro h;cases h
theorem ni {x:Str} (hx:x.length ≤ 100000) {y:Str} (hy:y.length=1) (h:HH):kTx .split [.p (.str x),.p (.str y)] h=some (.p (.lst ((Txt.split x y).map .str)),h):=by
 show ((if y.length=1 ∧ x.length ≤ 100000 then some (D.lst ((Txt.split x y).map .str)) else none).map fun d=>(W.p d,h))=_
 rw[if_pos ⟨hy,hx⟩];rfl
theorem CD {n:Nat} (hn:n ≤ 100) {pg:Pg} (hl:pg.length ≤ 100) (hok:∀ r∈pg,r.ok n):(pgT pg).length ≤ 100000:=by
 have:=join_le "" 218 (pg.map lnT) fun t ht=>by
  obtain ⟨r,hr,rfl⟩:=List.mem_map.mp ht
  exact vc hn (hok r hr)
 have e:("":Str).length=0:=rfl
 rw[e,Nd] at this
 exact Nx this (by lia)
section
variable {T:FK → Option Fn}{G:Str → Option W}
theorem CF (P:P80 T G) {n:Nat} (hn:n ≤ 100) {p:Prt} (ok:fU n p) (k:Nat) (pre post:List Str) (hl:(pre++p.ws++post).length ≤ 900) {b:Int} (hb:b=(pre.length:Int)) (w0 x5:Option W) (acc:List D) (ha:acc.length < 1000) (h:HH) :
 evS (runN T G (k+4)) G roB [w0,some (.p (.lst ((pre++p.ws++post).map .str))),some (.r h.length),some (.p (.int b)),some (.p (.str p.f)),x5] (h++[.l acc]) =
  some (.nx [w0,some (.p (.lst ((pre++p.ws++post).map .str))),some (.r h.length),some (.p (.int (b+p.ws.length))),some (.p (.str p.f)),some (.p (.int b))] (h++[.l (acc++[p.d])])):=by
 have ne:=zP ok
 have lp:0 < p.ws.length:=List.length_pos_iff.mpr ne
 have l0:((pre++p.ws++post).map D.str).length=pre.length+p.ws.length+post.length:=by simp;lia
 have b1:¬ (b=(((pre++p.ws++post).map D.str).length:Int)):=by rw[l0];lia
 have l1:((pre++p.ws++post).map D.str).length ≤ 100000:=by rw[Nd];lia
 have l2:acc.length < 100000:=by lia
 cases ok with
 | sm s hs =>
  have hz:=hs.2
  have a:=qm P (k+3) hs.1 (by lia) pre post hl hb (h++[.l acc])
  have c:=kN P k hs.1 (by lia) (h++[.l acc])
  have s0:nC (.lst ((pre++s.wds++post).map D.str)) (some b) (some (b+s.size))=some (.lst (s.wds.map .str)):=by
   rw[O4,O4]
   refine Cv _ _ _ (by rw[Nd];exact hb) ?_
   rw[Nd,Nd,gc];lia
  have e5:(Prt.sm s).ws=s.wds:=rfl
  rw[e5] at b1 l1 ⊢
  rw[gc]
  generalize (pre++s.wds++post).map D.str=L at *
  generalize s.wds.map D.str=L' at *
  simp[-sA,roB,Prt.sm,l1,l2,b1,a,c,s0]
 | nm x =>
  have a:=rG P (k+2) x (h++[.l acc])
  have i0:fc (.lst ((pre++[M4 x.w]++post).map D.str)) (.int b)=some (.str x.w):=by
   rw[NR,O4]
   exact qk _ _ _ (by rw[Nd];exact hb)
  have e5:(Prt.nm x).ws=[M4 x.w]:=rfl
  rw[e5] at b1 l1 ⊢
  generalize (pre++[M4 x.w]++post).map D.str=L at *
  simp[-eB,roB,Prt.nm,l1,l2,b1,a,i0]
 | pl q hq =>
  have a:=oM P (k+2) (m8 hn hq) (h++[.l acc])
  have i0:fc (.lst ((pre++[d9 q]++post).map D.str)) (.int b)=some (.str (d9 q)):=by
   rw[NR,O4]
   exact qk _ _ _ (by rw[Nd];exact hb)
  have e5:(Prt.pl q).ws=[d9 q]:=rfl
  rw[e5] at b1 l1 ⊢
  generalize (pre++[d9 q]++post).map D.str=L at *
  simp[-eB,roB,Prt.pl,l1,l2,b1,a,i0]
theorem vj (P:P80 T G) {n:Nat} (hn:n ≤ 100) (k:Nat) (w0:Option W) (h:HH) (L:List D):∀ (ps:List Prt) (pre:List Str) (acc:List D) (b:Int) (x4 x5:Option W),(∀ p∈ps,fU n p) → L=(pre++(ps.map Prt.ws).flatten).map .str → L.length ≤ 900 → b=(pre.length:Int) → acc.length+ps.length ≤ 900 →
 ∃ y3 y4 y5,eN (evS (runN T G (k+4)) G roB) [(4,"form")] (ps.map fun p=>.str p.f) [w0,some (.p (.lst L)),some (.r h.length),some (.p (.int b)),x4,x5] (h++[.l acc]) =
  some (.nx [w0,some (.p (.lst L)),some (.r h.length),y3,y4,y5] (h++[.l (acc++ps.map Prt.d)]))
 | [],pre,acc,b,x4,x5,_,_,_,_,_=>⟨_,_,_,by simp;exact ⟨rfl,rfl,rfl⟩⟩
 | p :: ps,pre,acc,b,x4,x5,hp,hL,hl,hb,ha=>by
  simp only[Ni] at ha
  have eL:L=(pre++p.ws++(ps.map Prt.ws).flatten).map .str:=by rw[hL];simp
  have a:=CF P hn (hp p M5) k pre (ps.map Prt.ws).flatten (by rw[eL,Nd] at hl;exact hl) hb w0 x5 acc (by lia) h
  rw[← eL] at a
  obtain ⟨y3,y4,y5,q⟩:=vj P hn k w0 h L ps (pre++p.ws) (acc++[p.d]) (b+p.ws.length) (some (.p (.str p.f))) (some (.p (.int b))) (fun q hq=>hp q (M1 _ hq)) eL hl (by rw[Nl];lia) (by simp;lia)
  refine ⟨y3,y4,y5,?_⟩
  have st:eN (evS (runN T G (k+4)) G roB) [(4,"form")] ((p :: ps).map fun p=>.str p.f) [w0,some (.p (.lst L)),some (.r h.length),some (.p (.int b)),x4,x5] (h++[.l acc])=iA (evS (runN T G (k+4)) G roB [w0,some (.p (.lst L)),some (.r h.length),some (.p (.int b)),some (.p (.str p.f)),x5] (h++[.l acc])) (eN (evS (runN T G (k+4)) G roB) [(4,"form")] (ps.map fun p=>.str p.f)):=rfl
  rw[st,a,eX,q]
  simp
theorem rK (P:P80 T G) {n:Nat} (hn:n ≤ 100) {r:Rw} (hr:r.ok n) (k:Nat) (h:HH):runN T G (k+5) "row_of" [.p (.str r.txt)] h=some (.p r.enc,h):=by
 rw[run_eq P.row_of rfl]
 have lw:=(u9 hn hr).2
 have lt:=ng hn hr
 have sp:=ni (x:=r.txt) (by lia) (y:=" ") rfl h
 rw[wL hn hr] at sp
 have lp:=i8 r
 obtain ⟨y3,y4,y5,q⟩:=vj P hn k (some (.p (.str r.txt))) h (r.wds.map .str) r.prt [r.wd] [.str r.wd] 1 none none (fV hr) rfl (by rw[Nd];lia) rfl (by simp;lia)
 have i0:fc (.lst (r.wds.map .str)) (.int 0)=some (.str r.wd):=by
  show atP _ ((0:Nat):Int)=_
  rw[jM];rfl
 have g:=fun h=>dg Cq r.wd (.tup []) h
 rw[qf r] at g
 have f:=oF h [.l (.str r.wd :: r.prt.map Prt.d)] (.tup (.str r.wd :: r.prt.map Prt.d))
 rw[jW]
 have ll:(r.prt.map Prt.d).length ≤ 2:=by simpa using lp
 rw[show [D.str r.wd]++r.prt.map Prt.d=.str r.wd :: r.prt.map Prt.d from rfl] at q
 have sr:fH .seq [.tup (r.prt.map fun p=>.str p.f)]=some (r.prt.map fun p=>.str p.f):=rfl
 generalize r.wds.map D.str=L at *
 generalize r.prt.map Prt.d=PD at *
 generalize (r.prt.map fun p=>D.str p.f)=PF at *
 generalize r.txt=TX at *
 have l1:PD.length+1 ≤ 100000:=by lia
 simp[-eN,-eB,jS,sp,i0,P.ROW_FORMS,g,sr,jh,q,f,rd,l1]
theorem nN (P:P80 T G) (k:Nat) {s:Sm} (hs:mS s) (h:HH):runN T G (k+5) "read_sum" [.p (.str s.txt)] h=some (.p s.enc,h):=by
 rw[run_eq P.read_sum rfl]
 have hz:=hs.2
 have sp:=ni (x:=s.txt) (by have:=lF hs.1 (by lia);lia) (y:=" ") rfl h
 rw[wK hs.1] at sp
 have a:=kN P k hs.1 (by lia) h
 have b:=kO P k hs h
 have c:=fj P (k+2) hs.1 (by lia) h
 generalize s.wds.map D.str=L at *
 generalize s.txt=TX at *
 generalize s.enc=EN at *
 simp[gU,sp,a,b,c,cS]
theorem vm (F:FK → List W → HH → Option (W×HH)) (h:HH):∀ pg:Pg,(∀ r∈pg,F (.f "row_of") [.p (.str r.txt)] h=some (.p r.enc,h)) →
 c8 (dF (evs F G .nil) (BT.ev F G (.call "row_of" (.cons (.var 0) .nil))) []) 1 ((pg.map Rw.txt).map .str) h=some (pg.map Rw.enc,h)
 | [],_=>rfl
 | r :: pg,hp=>by
  have q:=vm F h pg fun x hx=>hp x (M1 _ hx)
  have f1:=hp r M5
  have st:c8 (dF (evs F G .nil) (BT.ev F G (.call "row_of" (.cons (.var 0) .nil))) []) 1 (((r :: pg).map Rw.txt).map .str) h=bnd (bnd (F (.f "row_of") [.p (.str r.txt)] h) i9) (kQ (c8 (dF (evs F G .nil) (BT.ev F G (.call "row_of" (.cons (.var 0) .nil))) []) 1 ((pg.map Rw.txt).map .str))):=rfl
  rw[st,f1,dh]
  show bnd (some (some r.enc,h)) _=_
  rw[dh,gE,q];rfl
theorem zV (l:List D) (x:D):nC (.lst (l++[x])) none (some (-1))=some (.lst l):=by
 have e1:clip (l++[x]).length 0 none=0:=rfl
 have e2:clip (l++[x]).length (l++[x]).length (some (-1))=l.length:=by
  show (if (-1:Int) < 0 then ((-1:Int)+((l++[x]).length:Int)).toNat else if (-1:Int) ≤ ((l++[x]).length:Int) then (-1:Int).toNat else (l++[x]).length)=l.length
  rw[if_pos (by decide),Nl,Qk];lia
 show some (D.lst (cut (l++[x]) none (some (-1))))=_
 unfold cut
 rw[e1,e2]
 simp
theorem wM (P:P80 T G) {pg:Pg} (hl:pg.length ≤ 20) (hok:∀ r∈pg,r.ok pg.length) (k:Nat) (h:HH):runN T G (k+8) "read" [.p (.str (pgT pg))] h=some (.p (gP pg),h):=by
 rw[run_eq P.read rfl]
 have hn:pg.length ≤ 100:=by lia
 have sp:=ni (x:=pgT pg) (CD hn hn hok) (y:="\n") rfl h
 rw[zU hn hok,O4] at sp
 have s0:=zV ((pg.map Rw.txt).map .str) (.str "")
 have c:=vm (G:=G) (runN T G (k+7)) h pg fun r hr=>rK P hn (hok r hr) (k+2) h
 have a:=kU P k hl hok h
 have b:=jX P hn hn hok (k+3) h
 have l1:(pg.map Rw.enc).length ≤ 100:=by simpa using hn
 rw[show gP pg=.tup (pg.map Rw.enc) from rfl] at *
 rw[show [("":Str)].map D.str=[.str ""] from rfl] at sp
 generalize (pg.map Rw.txt).map D.str++[.str ""]=L at *
 generalize (pg.map Rw.txt).map D.str=L' at *
 generalize pg.map Rw.enc=PE at *
 generalize pgT pg=TX at *
 have ec:BT.ev (runN T G (k+7)) G (.comp false .seq (.cons (.slc (.tx .split (.cons (.var 0) (.cons (.cst (.str "\n")) .nil))) .nil (.cons (.neg (.cst (.int 1))) .nil)) .nil) ["line"] [] .nil (.call "row_of" (.cons (.var 0) .nil))) [some (.p (.str TX)),none] h=some (.p (.lst PE),h) :=
  cgo (ws:=[.p (.lst L')]) (h1:=h) (fs:=[]) (by simp[-sA,sp,s0]) rfl rfl rfl c (by lia)
 rw[qc]
 generalize (E.comp false .seq (.cons (.slc (.tx .split (.cons (.var 0) (.cons (.cst (.str "\n")) .nil))) .nil (.cons (.neg (.cst (.int 1))) .nil)) .nil) ["line"] [] .nil (.call "row_of" (.cons (.var 0) .nil)))=EE at *
 have l2:PE.length ≤ 100000:=by lia
 simp[ec,a,b,l2,cS]
end
noncomputable def F3:E:=(.comp false .seq (.cons (.var 2) .nil) ["_law_row_here"] [] .nil (.bin .add (.call "_law_text" (.cons (.var 0) .nil)) (.cst (.str "\n"))))
noncomputable def iK:Fn:=⟨["_law_script"],["_law_script","_law_one","_law_program_here","_law_text_here"],
 (.seq (.set 1 (.call "_law_sum" (.cons (.var 0) (.cons (.cst (.int 1)) (.cons (.cst (.int 3)) .nil)))))
 (.seq (.set 2 (.call "_law_program" (.cons (.var 0) (.cons (.cst (.int 20)) .nil))))
 (.seq (.set 3 (.tx .join (.cons (.cst (.str "")) (.cons F3 .nil))))
 (.seq (.ife (.or (.cmp .ne (.call "written_sum" (.cons (.var 1) .nil)) (.call "_law_text" (.cons (.var 1) .nil))) (.cmp .ne (.call "written" (.cons (.var 2) .nil)) (.var 3))) (.ret (.cst (.bl false))) .nil)
 (.ret (.and (.cmp .eq (.call "read_sum" (.cons (.call "_law_text" (.cons (.var 1) .nil)) .nil)) (.var 1)) (.cmp .eq (.call "read" (.cons (.var 3) .nil)) (.var 2))))))))⟩
theorem nj:∀ (s:Sm) (n:Nat),s.size ≤ n → dok n s.enc=true
 | .num i,n,h=>by
  obtain ⟨m,rfl⟩:∃ m,n=m+1:=⟨n - 1,by have:1 ≤ n:=h;lia⟩
  simp[Sm.enc]
 | .nam i,n,h=>by
  obtain ⟨m,rfl⟩:∃ m,n=m+1:=⟨n - 1,by have:1 ≤ n:=h;lia⟩
  simp[Sm.enc]
 | .cell s,n,h=>by
  have h:s.size+1 ≤ n:=h
  obtain ⟨m,rfl⟩:∃ m,n=m+1:=⟨n - 1,by lia⟩
  simp[Sm.enc,nj s m (by lia)]
 | .two o a b,n,h=>by
  have h:a.size+b.size+1 ≤ n:=h
  obtain ⟨m,rfl⟩:∃ m,n=m+1:=⟨n - 1,by lia⟩
  simp[Sm.enc,nj a m (by lia),nj b m (by lia)]
theorem CG {n m:Nat} (hm:15 ≤ m) {p:Prt} (h:fU n p):dok m p.d=true:=by
 cases h with
 | sm s h=>exact nj s m (Nx h.2 hm)
 | nm x=>simp[Prt.nm]
 | pl q h=>simp[Prt.pl]
theorem F4 {n m:Nat} (hm:15 ≤ m) {r:Rw} (h:r.ok n):dok (m+1) r.enc=true:=by
 rw[jW,o5,RX,AO,Bool.true_and,Ss,NQ]
 exact fun p hp=>CG hm (fV h p hp)
theorem F5 {n:Nat}{pg:Pg} (h:∀ r∈pg,r.ok n):dok 100 (gP pg)=true:=by
 show dok (99+1) (.tup (pg.map Rw.enc))=true
 rw[o5,Ss,NQ]
 exact fun r hr=>F4 (m:=98) (by decide) (h r hr)
theorem rL {x:D} (h:dok 100 x=true):fG .eq x x=some true:=by rw[kY,if_pos (sd h),mU]
structure LV (T:FK → Option Fn):Prop where
 lw:Lw T
 program:T "_law_program"=some d7
 text:T "_law_text"=some dB
 law:T "law"=some iK
section
variable {T:FK → Option Fn}{G:Str → Option W}
theorem wN (P:P80 T G) (L:LV T) (ns:List Int) (hl:ns.length ≤ 1000) (k:Nat):∃ h',runN T G (k+21) "law" [.p (.lst (c7 ns))] []=some (.p (.bl true),h'):=by
 obtain ⟨s,so,sz,rs⟩:=qa (G:=G) L.lw ns hl 3 1
 have sz:s.size ≤ 15:=by have:s.size+1 ≤ 16:=sz;lia
 obtain ⟨pg,dp,rp⟩:=rC (G:=G) L.lw L.program ns hl 20
 have hok:∀ r∈pg,r.ok pg.length:=dp.ok
 have hp:=dp.hi
 have hn:pg.length ≤ 100:=by lia
 have r1:=rs (k+14) []
 have r2:=rp (k+13) []
 have c:=jt (G:=G) (runN T G (k+20)) "_law_text" [] hn pg hok fun r hr=>FQ L.text hn (hok r hr) k []
 have ec:BT.ev (runN T G (k+20)) G F3 [some (.p (.lst (c7 ns))),some (.p s.enc),some (.p (gP pg)),none] []=some (.p (.lst ((pg.map lnT).map .str)),[]) :=
  cgo (ws:=[.p (gP pg)]) (h1:=[]) (fs:=[]) (by simp) rfl rfl rfl c (by simp;lia)
 have j:=jb hn hn hok []
 have r3:=fj P (k+18) so (by lia) []
 have r4:=m6 (G:=G) L.text s so (by lia) (k+19 - s.size) []
 rw[show k+19 - s.size+s.size+1=k+20 by lia] at r4
 have r5:=jX P hn hn hok (k+16) []
 have r6:=nN P (k+15) ⟨so,sz⟩ []
 have r7:=wM P (by lia) hok (k+12) []
 have e1:=rL (nj s 100 (by lia))
 have e2:=rL (F5 hok)
 have f0:fin [] (.p (.bl true)) []=some (.p (.bl true),[]):=by
  have:=oF [] [] (.bl true)
  simpa using this
 refine ⟨[],?_⟩
 have r1:runN T G (k+20) "_law_sum" [.p (.lst (c7 ns)),.p (.int 1),.p (.int 3)] []=some (.p s.enc,[]):=r1
 rw[run_eq L.law rfl,iK]
 generalize (pg.map lnT).map D.str=LL at *
 generalize pgT pg=PT at *
 generalize gP pg=PE at *
 generalize s.txt=TX at *
 generalize s.enc=EN at *
 generalize c7 ns=IL at *
 generalize F3=CC at *
 simp[-kY] at e1 e2 ⊢
 simp[-kY,r1,r2,ec,j,r3,r4,r5,r6,r7,e1,e2,f0]
end
end BT
end
section
namespace BF
open PySem PySem.Spec PyProof.Rows L2 BS
noncomputable def nk (P:Nk) (w:Nz) (K:MV) (mg:Str → Option MZ) (x:Str) (z:BT.W):Prop:=∃ u v,mg x=some u ∧ RelV v u ∧ ∀ m H,RW P w K m H v z
theorem zW {K:MV} (X:K.In h) (G:h.Ns Nj mg) (a:NH K Nj x=some (some (.int n t))):nk P w K mg x (.p (.int n)) :=
 ⟨_,.int n,OI X G a,⟨t,rfl⟩,fun _ _=>.p (.int n)⟩
inductive eS:List Str → List MZ → Prop where
 | nil:eS [] []
 | cons {x:Str}{xs:List Str}{t:Tok}{vs:List MZ} (h:PyData.strOk x=true) (r:eS xs vs):eS (x :: xs) (.str x t :: vs)
theorem eS.vals:∀ {xs:List Str}{vs:List MZ},eS xs vs → cX (xs.map V.str) vs
 | _,_,.nil=>.nil
 | _,_,.cons _ r=>.cons ⟨_,rfl⟩ r.vals
theorem eS.rds {K:MV}:∀ {xs:List Str}{vs:List MZ},eS xs vs → RDs K m H (xs.map V.str) (xs.map BT.D.str)
 | _,_,.nil=>.nil
 | _,_,.cons h r=>.cons (.str _ h) r.rds
theorem eS.len:∀ {xs:List Str}{vs:List MZ},eS xs vs → vs.length=xs.length
 | _,_,.nil=>rfl
 | _,_,.cons _ r=>by simp[r.len]
theorem zX {K:MV} (X:K.In h) (G:h.Ns Nj mg) (a:NH K Nj x=some (some (.ref f)))
 (l:K.lookup f=some ⟨.type "tuple",none,.seq its n,sl⟩) (hl:xs.length ≤ 1000) (r:eS xs its.toList):nk P w K mg x (.p (.tup (xs.map BT.D.str))):=by
 refine ⟨_,.ref f,OI X G a,rfl,fun m H=>.p (.tup (.inr ⟨_,its,n,⟨l,rfl,rfl,?_,r.vals⟩,rfl⟩) r.rds)⟩
 have:=r.len
 have e:its.size=xs.length:=by rw[← this];simp
 rw[e]
 exact PR (n6 hl)
inductive gf (w:Nz):List (Str×Int) → List Ph → Prop where
 | nil:gf w [] []
 | cons {x:Str}{n:Int}{kvs:List (Str×Int)}{t u:Tok}{es:List Ph} (r:gf w kvs es):gf w ((x,n) :: kvs) (⟨PyData.keyHash w.params x,.str x t,.int n u⟩ :: es)
theorem gf.ex:∀ {kvs:List (Str×Int)}{es:List Ph},gf w kvs es → ∃ vs:List (Key×MZ),KV ((kvs.map fun q=>(q.1,V.int q.2)).map fun q=>((Sum.inr q.1:Key),q.2)) vs ∧ Pairs (c9 P w) es vs ∧ vs.map (·.1)=kvs.map (fun q=>(Sum.inr q.1:Key)) ∧ (∀ e∈es,∃ k,(c9 P w).is k e.key=true ∧ e.hash=(c9 P w).hash k)
 | _,_,.nil=>⟨[],.nil,.nil,rfl,fun e he=>nomatch he⟩
 | _,_,@gf.cons _ x n kvs t u es r=>by
  obtain ⟨vs,h1,h2,h3,h4⟩:=r.ex (P:=P)
  have is:(c9 P w).is (Sum.inr x) (.str x t)=true:=by show Pp x (.str x t)=true;simp[Pp]
  refine ⟨(Sum.inr x,.int n u) :: vs,.cons ⟨rfl,u,rfl⟩ h1,.cons is rfl h2,by simp[h3],fun e he=>?_⟩
  rcases List.mem_cons.mp he with rfl | he
  ·exact ⟨Sum.inr x,is,rfl⟩
  ·exact h4 e he
theorem wO {P:Nk}{w:Nz}{K:MV}{h:Heap}{mg:Str → Option MZ} (X:K.In h) (G:h.Ns Nj mg) {x:Str}{f:M9}{es:Array Ph}{n:Nat}{kvs:List (Str×Int)} (a:NH K Nj x=some (some (.ref f)))
 (l:K.lookup f=some { cls:=.type "dict",data:=.dict es n }) (hf:(f==OU)=false) (r:gf w kvs es.toList) (nd:(kvs.map (·.1)).Nodup):nk P w K mg x (.k (.t (kvs.map fun q=>(q.1,BT.D.int q.2)))):=by
 obtain ⟨vs,h1,h2,h3,h4⟩:=r.ex (P:=P)
 refine ⟨_,.ref f,OI X G a,rfl,fun m H=>.k (es:=kvs.map fun q=>(q.1,V.int q.2)) ⟨hf,vs,h1,fun hh Kh=>⟨_,es,n,Kh _ _ l,⟨rfl,rfl,rfl⟩,rfl,fun e he=>h4 e (by simpa using he),h2,?_⟩⟩ ?_⟩
 ·rw[h3]
  have e:(kvs.map fun q=>(Sum.inr q.1:Key))=(kvs.map (·.1)).map Sum.inr:=by simp
  rw[e]
  exact List.pairwise_map.mpr (nd.imp fun h z=>h (Sum.inr.inj z))
 ·clear r nd h1 h2 h3 h4 l
  induction kvs with
  | nil=>exact .nil
  | cons q kvs ih=>exact .cons (fun _ _=>.int _) ih
theorem zY {P:Nk}{w:Nz}{K:MV}{h:Heap}{mg:Str → Option MZ} (X:K.In h) (G:h.Ns Nj mg) {x s:Str}{t:Tok} (a:NH K Nj x=some (some (.str s t))) (k:PyData.strOk s=true):nk P w K mg x (.p (.str s)) :=
 ⟨_,.str s,OI X G a,⟨t,rfl⟩,fun _ _=>.p (.str s k)⟩
inductive gi (w:Nz):List (Str×M9) → List Ph → Prop where
 | nil:gi w [] []
 | cons {x:Str}{a:M9}{kvs:List (Str×M9)}{t:Tok}{es:List Ph} (r:gi w kvs es):gi w ((x,a) :: kvs) (⟨PyData.keyHash w.params x,.str x t,.ref a⟩ :: es)
theorem gi.ex {P:Nk}{w:Nz}:∀ {kvs:List (Str×M9)}{es:List Ph},gi w kvs es → ∃ vs:List (Key×MZ),KV ((kvs.map fun q=>(q.1,V.ref q.2)).map fun q=>((Sum.inr q.1:Key),q.2)) vs ∧ Pairs (c9 P w) es vs ∧ vs.map (·.1)=kvs.map (fun q=>(Sum.inr q.1:Key)) ∧ (∀ e∈es,∃ k,(c9 P w).is k e.key=true ∧ e.hash=(c9 P w).hash k)
 | _,_,.nil=>⟨[],.nil,.nil,rfl,fun e he=>nomatch he⟩
 | _,_,@gi.cons _ x a kvs t es r=>by
  obtain ⟨vs,h1,h2,h3,h4⟩:=r.ex (P:=P)
  have is:(c9 P w).is (Sum.inr x) (.str x t)=true:=by show Pp x (.str x t)=true;simp[Pp]
  refine ⟨(Sum.inr x,.ref a) :: vs,.cons ⟨rfl,rfl⟩ h1,.cons is rfl h2,by simp[h3],fun e he=>?_⟩
  rcases List.mem_cons.mp he with rfl | he
  ·exact ⟨Sum.inr x,is,rfl⟩
  ·exact h4 e he
theorem CH {K:MV}{f:M9}{its:Array MZ}{n:Nat}{sl:Array (Option MZ)}{xs:List Str}
 (l:K.lookup f=some ⟨.type "tuple",none,.seq its n,sl⟩) (hl:xs.length ≤ 1000) (r:eS xs its.toList) (m:List M9) (H:Hp):RD K m H (.ref f) (.tup (xs.map BT.D.str)):=by
 refine .tup (.inr ⟨_,its,n,⟨l,rfl,rfl,?_,r.vals⟩,rfl⟩) r.rds
 have:=r.len
 have e:its.size=xs.length:=by rw[← this];simp
 rw[e]
 exact PR (n6 hl)
theorem tN {P:Nk}{w:Nz}{K:MV}{h:Heap}{mg:Str → Option MZ} (X:K.In h) (G:h.Ns Nj mg) {x:Str}{f:M9}{es:Array Ph}{n:Nat}{kvs:List (Str×M9×List Str)} (a:NH K Nj x=some (some (.ref f)))
 (l:K.lookup f=some { cls:=.type "dict",data:=.dict es n }) (hf:(f==OU)=false) (r:gi w (kvs.map fun q=>(q.1,q.2.1)) es.toList) (nd:(kvs.map (·.1)).Nodup) (rd:∀ q∈kvs,∀ m H,RD K m H (.ref q.2.1) (.tup (q.2.2.map BT.D.str))):nk P w K mg x (.k (.t (kvs.map fun q=>(q.1,BT.D.tup (q.2.2.map BT.D.str))))):=by
 obtain ⟨vs,h1,h2,h3,h4⟩:=r.ex (P:=P)
 have h0:KV ((kvs.map fun q=>(q.1,V.ref q.2.1)).map fun q=>((Sum.inr q.1:Key),q.2)) vs:=by
  simp only[PM,Function.comp_def] at h1 ⊢
  exact h1
 rw[PM] at h3
 refine ⟨_,.ref f,OI X G a,rfl,fun m H=>.k (es:=kvs.map fun (q:Str×M9×List Str)=>(q.1,V.ref q.2.1)) ⟨hf,vs,h0,fun hh Kh=>⟨_,es,n,Kh _ _ l,⟨rfl,rfl,rfl⟩,rfl,fun e he=>h4 e (by simpa using he),h2,?_⟩⟩ ?_⟩
 ·rw[h3]
  have e:(kvs.map ((fun q=>(Sum.inr q.1:Key)) ∘ fun q=>(q.1,q.2.1)))=(kvs.map (·.1)).map Sum.inr:=by simp
  rw[e]
  exact List.pairwise_map.mpr (nd.imp fun h z=>h (Sum.inr.inj z))
 ·clear r nd h0 h1 h2 h3 h4 l
  induction kvs with
  | nil=>exact .nil
  | cons q kvs ih=>exact .cons (fun m H=>rd q M5 m H) (ih fun q hq=>rd q (M1 _ hq))
noncomputable def look {κ α:Type} [DecidableEq κ] (l:List (κ×α)) (x:κ):Option α:=match l with
 | []=>none
 | (y,a) :: r=>if y=x then some a else look r x
theorem iL {κ α:Type} [DecidableEq κ] {Q:κ → α → Prop}:∀ {l:List (κ×α)} (_:∀ p∈l,Q p.1 p.2) {x:κ}{a:α},look l x=some a → Q x a
 | [],_,_,_,e=>by exact BT.jd e
 | (y,b) :: r,h,x,a,e=>by
  rw[look] at e
  split at e
  ·rename_i z
   cases e
   subst z
   exact h (y,b) M5
  ·exact iL (fun p hp=>h p (M1 _ hp)) e
theorem jH {K:MV}:∀ ns:List Int,RDs K m H (ns.map V.int) (BT.c7 ns)
 | []=>.nil
 | n :: r=>.cons (.int n) (jH r)
theorem zZ {K:MV} (tb:TB K H) (hS:LL K H a (ns.map V.int)) (e:∃ h',g [.p (.lst (BT.c7 ns))] []=some (.p (.bl true),h')):spF P w K g [.ref a] H (fun v _=>v=.bl true) fun _ _ _=>False:=by
 obtain ⟨h',e⟩:=e
 refine ⟨[],_,[],_,h',⟨RG,rfl,fun i a xs z=>by simp at z,tb⟩,.cons (.p (.lst (hS.elim (fun q=>.inl ⟨q,by simp⟩) .inr) (jH ns))) .nil,e,fun v H' m' _ _ r=>j9 r⟩
end BF
end
section
namespace BG
open PySem PySem.Spec PySem.Calls PyProof.Rows L2 BS BF
theorem CJ {K:MV} (H:∀ p∈K,h.get? p.1=some p.2):K.In h:=by
 intro a o e
 obtain ⟨p,hp,he⟩:∃ p∈K,p.1=a ∧ p.2=o:=by
  clear H
  induction K with
  | nil=>exact BT.jd e
  | cons q r ih =>
   rw[OB] at e
   split at e
   ·rename_i c
    cases e
    exact ⟨q,M5,(eq_of_beq c).symm,rfl⟩
   ·obtain ⟨p,hp,he⟩:=ih e
    exact ⟨p,M1 _ hp,he⟩
 rw[← he.1,← he.2]
 exact H p hp
inductive Jl (K:MV) (x qual:Str) (st:Rc) (f:M9):Prop where
 | mk (fd:Oz) (F:Fun K x qual st f fd) (kV doc pm:MZ) (an:Option M9) (cdv ct:MZ) (e:fd=Ou x qual (fk st) (dM st) (cZ st) .none kV doc pm an cdv ct):Jl K x qual st f
theorem F6 {K:MV}{st:Rc} (e:Al K f=some (tP x qual st)):Jl K x qual st f:=by
 unfold Al at e
 split at e
 ·rename_i oc od fd sl l
  have e':=Nc e
  unfold tP at e'
  obtain ⟨nm,ql,pa,bo,sc,gl,cl,de,kw,dc,pm,an,co,ct,bu⟩:=fd
  simp only[FS.mk.injEq] at e'
  obtain ⟨rfl,rfl,rfl,rfl,rfl,rfl,rfl,rfl,rfl,hc⟩:=e'
  have F:=D9 (K:=K) (x:=nm) (qual:=ql) (st:=st) (f:=f) (kV:=kw) (doc:=dc) (pm:=pm) (an:=an) (cdv:=co) (ct:=ct) l hc (by simp only[N6,l])
  exact ⟨_,F,kw,dc,pm,an,co,ct,rfl⟩
 ·exact BT.jd e
theorem nth {α:Type}{l:List α}{a:α} (i:Nat) (h:l[i]?=some a):a∈l:=Np h
noncomputable def z9 (ns:List Str):Bool:=ns.all fun n=>!(n.cps[0]?==some 60)
theorem Jm (y:Str):(BT.fR y).cps[0]?=some 60:=by
 show (((#[60]:Array Nat)++y.cps)++#[62])[0]?=some 60
 rw[← Si]
 simp
theorem Aa (h:z9 ns=true) (y:Str):ns.contains (BT.fR y)=false:=by
 cases e:ns.contains (BT.fR y) with
 | false=>rfl
 | true =>
  have:=List.all_eq_true.mp h _ (List.contains_iff_mem.mp e)
  rw[Jm] at this
  exact BT.dN this
theorem F7 {K:MV} (h:z9 fn.ns=true):mR K q fd fn:=fun y hy=>by rw[Aa h y] at hy;exact BT.dN hy
section
variable {K:MV}
theorem nq (e:refOf o=some f):o=some (some (.ref f)):=by
 unfold refOf at e
 split at e
 ·cases e;rfl
 ·exact BT.jd e
theorem F8 (X:K.In h) (G:h.Ns Nj mg) {st:Rc} (e:eZ K (.fn x f st)=e9 w (.fn x f st))
 (sc:fm fn.ns fn.ps (cZ st)) (hb:∀ (kV doc pm:MZ) (an:Option M9) (cdv ct:MZ) (us:List MZ),us.length=fn.ps.length → S7 (Ou x x (fk st) (dM st) (cZ st) .none kV doc pm an cdv ct) ⟨us,[]⟩=pure (fn.ps.zip us))
 (ck:CSs (cZ st) fn.ns fn.body (dM st)) (tg:∀ fd,NH K Nj x=some (some (.ref f)) → (∃ oc od sl,K.lookup f=some ⟨oc,od,.func fd,sl⟩) → mR K x fd fn):Def K mg x fn:=by
 simp only[eZ,e9,Ov.fn.injEq] at e
 obtain ⟨fd,F,kV,doc,pm,an,cdv,ct,rfl⟩:=F6 e.2
 refine ⟨f,_,st,OI X G (nq e.1),F,sc,F.binds hb,ck,tg _ (nq e.1) ?_⟩
 obtain ⟨oc,od,kV,doc,pm,an,cdv,ct,osl,e1,lk,_⟩:=F.ex
 exact ⟨oc,od,osl,lk⟩
theorem none_of (X:K.In h) (G:h.Ns Nj mg) (e:eZ K (.no x)=e9 w (.no x)):mg x=none:=by
 simp only[eZ,e9,Ov.b.injEq,decide_eq_true_eq] at e
 exact PySem.W.mg_none_of X G e
theorem Ab (h:intOf v=some x):∃ t,v=.int x t:=by
 cases v<;>simp[intOf] at h
 exact ⟨_,by rw[h]⟩
theorem qo (h:strOf v=some x):∃ t,v=.str x t:=by
 cases v<;>simp[strOf] at h
 exact ⟨_,by rw[h]⟩
theorem jZ (X:K.In h) (G:h.Ns Nj mg) (e:eZ K (.int x n)=e9 w (.int x n)):nk P w K mg x (.p (.int n)):=by
 simp only[eZ,e9,Ov.int.injEq] at e
 split at e
 ·rename_i v hv
  obtain ⟨t,rfl⟩:=Ab e
  exact zW X G hv
 ·exact BT.jd e
theorem qp:∀ {xs:List Str}{vs:List MZ},xs.all PyData.strOk=true → vs.map strOf=xs.map some → eS xs vs
 | [],[],_,_=>.nil
 | [],_ :: _,_,h=>by simp at h
 | _ :: _,[],_,h=>by simp at h
 | x :: xs,v :: vs,k,h=>by
  simp only[NF,Pn] at h
  simp only[RX,M6] at k
  obtain ⟨t,rfl⟩:=qo h.1
  exact .cons k.1 (qp k.2 h.2)
theorem vn:∀ {kvs:List (Str×Int)}{es:List Ph},es.map (fun e=>(e.hash,strOf e.key,intOf e.val))=kvs.map (fun q=>(PyData.keyHash w.params q.1,some q.1,some q.2)) → gf w kvs es
 | [],[],_=>.nil
 | [],_ :: _,h=>by simp at h
 | _ :: _,[],h=>by simp at h
 | (x,n) :: kvs,⟨ha,k,v⟩ :: es,h=>by
  simp only[NF,Pn,Pk] at h
  obtain ⟨⟨rfl,h2,h3⟩,hr⟩:=h
  obtain ⟨t,rfl⟩:=qo h2
  obtain ⟨u,rfl⟩:=Ab h3
  exact .cons (vn hr)
theorem Ac (X:K.In h) (G:h.Ns Nj mg) (e:eZ K (.tup x f xs)=e9 w (.tup x f xs)) (hl:xs.length ≤ 1000) (hs:xs.all PyData.strOk=true):nk P w K mg x (.p (.tup (xs.map BT.D.str))):=by
 simp only[eZ,e9,Ov.seq.injEq] at e
 obtain ⟨e1,e2,e3⟩:=e
 obtain ⟨o,l,e4⟩:=Option.map_eq_some_iff.mp e2
 rw[l] at e3
 obtain ⟨cl,di,da,sl⟩:=o
 simp only[shp,Pk] at e4
 obtain ⟨rfl,rfl,e5⟩:=e4
 have:sl=#[]:=Ox e5
 subst this
 simp only[NP,tQ] at e3
 cases da<;>simp only[OF,reduceCtorEq] at e3
 exact zX X G (nq e1) l hl (qp hs e3)
theorem Ad (X:K.In h) (G:h.Ns Nj mg) {x:Str}{f:M9}{kvs:List (Str×Int)} (e:eZ K (.dct x f kvs)=e9 w (.dct x f kvs)) (hf:(f==OU)=false) (nd:(kvs.map (·.1)).Nodup):nk P w K mg x (.k (.t (kvs.map fun q=>(q.1,BT.D.int q.2)))):=by
 simp only[eZ,e9,Ov.dct.injEq] at e
 obtain ⟨e1,e2,e3⟩:=e
 obtain ⟨o,l,e4⟩:=Option.map_eq_some_iff.mp e2
 rw[l] at e3
 obtain ⟨cl,di,da,sl⟩:=o
 simp only[shp,Pk] at e4
 obtain ⟨rfl,rfl,e5⟩:=e4
 have:sl=#[]:=Ox e5
 subst this
 simp only[NP,CM] at e3
 cases da<;>simp only[OF,reduceCtorEq] at e3
 exact wO X G (nq e1) l hf (vn e3) nd
theorem Ae (X:K.In h) (G:h.Ns Nj mg) {x s:Str} (e:eZ K (.str x s)=e9 w (.str x s)) (k:PyData.strOk s=true):nk P w K mg x (.p (.str s)):=by
 simp only[eZ,e9,Ov.seq.injEq,true_and] at e
 split at e
 ·rename_i v hv
  simp only[OF,Pn,and_true] at e
  obtain ⟨t,rfl⟩:=qo e
  exact zY X G hv k
 ·exact BT.jd e
theorem gX {f:M9}{xs:List Str} (e:eZ K (.stp f xs)=e9 w (.stp f xs)) (hl:xs.length ≤ 1000) (hs:xs.all PyData.strOk=true) (m:List M9) (H:Hp):RD K m H (.ref f) (.tup (xs.map BT.D.str)):=by
 simp only[eZ,e9,Ov.seq.injEq,true_and] at e
 obtain ⟨e2,e3⟩:=e
 obtain ⟨o,l,e4⟩:=Option.map_eq_some_iff.mp e2
 rw[l] at e3
 obtain ⟨cl,di,da,sl⟩:=o
 simp only[shp,Pk] at e4
 obtain ⟨rfl,rfl,e5⟩:=e4
 have:sl=#[]:=Ox e5
 subst this
 simp only[NP,tQ] at e3
 cases da<;>simp only[OF,reduceCtorEq] at e3
 exact CH l hl (qp hs e3) m H
theorem F9 {v:MZ}{a:M9} (h:tR v=some (a:Int)):v=.ref a:=by
 cases v<;>simp[tR] at h
 rw[Int.ofNat_inj.mp h]
theorem vo:∀ {kvs:List (Str×M9)}{es:List Ph},es.map (fun e=>(e.hash,strOf e.key,tR e.val))=kvs.map (fun q=>(PyData.keyHash w.params q.1,some q.1,some (q.2:Int))) → gi w kvs es
 | [],[],_=>.nil
 | [],_ :: _,h=>by simp at h
 | _ :: _,[],h=>by simp at h
 | (x,a) :: kvs,⟨ha,k,v⟩ :: es,h=>by
  simp only[NF,Pn,Pk] at h
  obtain ⟨⟨rfl,h2,h3⟩,hr⟩:=h
  obtain ⟨t,rfl⟩:=qo h2
  rw[F9 h3]
  exact .cons (vo hr)
theorem Af (X:K.In h) (G:h.Ns Nj mg) {x:Str}{f:M9} (kvs:List (Str×M9×List Str)) (e:eZ K (.dtp x f (kvs.map fun q=>(q.1,q.2.1)))=e9 w (.dtp x f (kvs.map fun q=>(q.1,q.2.1)))) (hf:(f==OU)=false) (nd:(kvs.map (·.1)).Nodup) (rd:∀ q∈kvs,∀ m H,RD K m H (.ref q.2.1) (.tup (q.2.2.map BT.D.str))):nk P w K mg x (.k (.t (kvs.map fun q=>(q.1,BT.D.tup (q.2.2.map BT.D.str))))):=by
 simp only[eZ,e9,Ov.dct.injEq] at e
 obtain ⟨e1,e2,e3⟩:=e
 obtain ⟨o,l,e4⟩:=Option.map_eq_some_iff.mp e2
 rw[l] at e3
 obtain ⟨cl,di,da,sl⟩:=o
 simp only[shp,Pk] at e4
 obtain ⟨rfl,rfl,e5⟩:=e4
 have:sl=#[]:=Ox e5
 subst this
 simp only[NP,CO] at e3
 cases da<;>simp only[OF,reduceCtorEq] at e3
 exact tN X G (nq e1) l hf (vo e3) nd rd
end
theorem wQ {α:Type}{us:List α}{n:Nat} (h:us.length=n+1):∃ a r,us=a :: r ∧ r.length=n:=by
 cases us with
 | nil=>simp at h
 | cons a r=>exact ⟨a,r,rfl,by simpa using h⟩
theorem len0 {α:Type}{us:List α} (h:us.length=0):us=[]:=OD h
theorem Ga {α:Type}{us:List α} (h:us.length=1):∃ a0,us=[a0]:=by
 obtain ⟨a0,r,rfl,g⟩:=wQ h
 exact ⟨a0,by rw[len0 g]⟩
theorem Gb {α:Type}{us:List α} (h:us.length=2):∃ a0 a1,us=[a0,a1]:=by
 obtain ⟨a0,r,rfl,g⟩:=wQ h
 obtain ⟨a1,rfl⟩:=Ga g
 exact ⟨a0,a1,rfl⟩
theorem CK {α:Type}{us:List α} (h:us.length=3):∃ a0 a1 a2,us=[a0,a1,a2]:=by
 obtain ⟨a0,r,rfl,g⟩:=wQ h
 obtain ⟨a1,a2,rfl⟩:=Gb g
 exact ⟨a0,a1,a2,rfl⟩
theorem Gc {α:Type}{us:List α} (h:us.length=4):∃ a0 a1 a2 a3,us=[a0,a1,a2,a3]:=by
 obtain ⟨a0,r,rfl,g⟩:=wQ h
 obtain ⟨a1,a2,a3,rfl⟩:=CK g
 exact ⟨a0,a1,a2,a3,rfl⟩
theorem Jo {α:Type}{us:List α} (h:us.length=5):∃ a0 a1 a2 a3 a4,us=[a0,a1,a2,a3,a4]:=by
 obtain ⟨a0,r,rfl,g⟩:=wQ h
 obtain ⟨a1,a2,a3,a4,rfl⟩:=Gc g
 exact ⟨a0,a1,a2,a3,a4,rfl⟩
theorem LW {α:Type}{us:List α} (h:us.length=6):∃ a0 a1 a2 a3 a4 a5,us=[a0,a1,a2,a3,a4,a5]:=by
 obtain ⟨a0,r,rfl,g⟩:=wQ h
 obtain ⟨a1,a2,a3,a4,a5,rfl⟩:=Jo g
 exact ⟨a0,a1,a2,a3,a4,a5,rfl⟩
noncomputable abbrev BdT (x qual:Str) (st:Rc) (fn:BT.Fn):Prop:=∀ (kV doc pm:MZ) (an:Option M9) (cdv ct:MZ) (us:List MZ),us.length=fn.ps.length → S7 (Ou x qual (fk st) (dM st) (cZ st) .none kV doc pm an cdv ct) ⟨us,[]⟩=pure (fn.ps.zip us)
structure CkB (x qual:Str) (s:Rc) (f:BT.Fn):Prop where
 ck:CSs (cZ s) f.ns f.body (dM s):=by repeat' (first | rfl | constructor | decide +kernel)
 sc:fm f.ns f.ps (cZ s):=by constructor<;>first | rfl | decide +kernel
 bd:BdT x qual s f:=by intro _ _ _ _ _ _ us hl;first | (obtain ⟨a0,a1,rfl⟩:=Gb hl;rfl) | (obtain ⟨a0,rfl⟩:=Ga hl;rfl) | (obtain ⟨a0,a1,a2,rfl⟩:=CK hl;rfl) | (obtain ⟨a0,a1,a2,a3,rfl⟩:=Gc hl;rfl) | (obtain rfl:=len0 hl;rfl) | (obtain ⟨a0,a1,a2,a3,a4,rfl⟩:=Jo hl;rfl) | (obtain ⟨a0,a1,a2,a3,a4,a5,rfl⟩:=LW hl;rfl)
theorem hn {K:MV}{w:Nz}{qs:List Qy} (hq:∀ q∈qs,eZ K q=e9 w q) (i:Nat) {a:Qy} (h:qs[i]?=some a):eZ K a=e9 w a:=hq _ (nth i h)
noncomputable def Ag (K:MV) (mg:Str → Option MZ) (p:BT.FK×BT.Fn):Prop:=(∀ x,p.1=.f x → Def K mg x p.2) ∧ (∀ c m,p.1=.m c m → FL K mg c m p.2) ∧ ∀ L,p.1=.l L → BT.sI L=some p.2 ∧ ∃ ns bt,p.2=⟨ns,ns,.ret bt⟩ ∧ ∀ y,ns.contains (BT.fR y)=false
theorem dd {K:MV} (d:Def K mg x fn):Ag K mg (.f x,fn):=⟨fun y e=>by cases e;exact d,fun c m e=>(by cases e),fun L e=>by cases e⟩
theorem cW {α:Type}{Q:α → Prop}{a:α}{l:List α} (h:Q a) (t:∀ p∈l,Q p):∀ p∈a :: l,Q p:=List.forall_mem_cons.mpr ⟨h,t⟩
theorem vp {α:Type}{Q:α → Prop}:∀ p∈([]:List α),Q p:=fun _ h=>absurd h Oo
section
variable {K:MV}
theorem dd0 (X:K.In h) (G:h.Ns Nj mg) {st:Rc} (e:eZ K (.fn x f st)=e9 w (.fn x f st)) (c:CkB x x st fn) (tg:z9 fn.ns=true:=by decide +kernel):Ag K mg (.f x,fn) :=
 dd (F8 X G e c.sc c.bd c.ck fun _ _ _=>F7 tg)
end
structure Gd (K:MV) (tl:List (Str×M9×M9)):Prop where
 all:∀ z∈BT.fZ,(∃ c P,(z,c,P)∈tl ∧ Om K z=some (c,P)) ∨ Om K z=none
 hd:∀ q∈tl,QH K q.2.1 q.2.2=true
theorem dJ {K:MV} (e:eZ K (.no x)=e9 w (.no x)):Om K x=none:=by
 simp only[eZ,e9,Ov.b.injEq,decide_eq_true_eq] at e
 unfold Om
 rw[e]
theorem tO {K:MV} (e:K.lookup b=some o):b∈K.map (·.1):=List.mem_map.mpr ⟨(b,o),PySem.W.mem_of_lookupK e,rfl⟩
theorem wR {K:MV}
 (KX:K.In s₁.heap) (hns:s₁.heap.Ns Nj mg) (hb:s₁.heap.Ns O7 mb) (hbb:∀ x:Str,x≠"__name__" → mb x=P7 x) (hlim:s₁.heap.NoLimit) (hg:s₁.gens=#[])
 (ha:s₁.heap.get? a=some { cls:=.type "list",data:=.seq vs.toArray }) (hi:IntsAre vs ns) (hl:ns.length ≤ sizeLine) (hr:eH k S6)
 (hT:Gd K tl) (hTs:∀ p∈tl,s₁.heap.get? p.2.2=some (Qh #[])) (hTk:∀ p∈tl,K.lookup p.2.2=none)
 (F:∀ base:Heap,gB P w K mg base CX0 k fa fd [x] sp) (hbind:∀ (s:M0) (u:MZ),K.In s.heap → BindsTo s fd ⟨[u],[]⟩ [(x,u)])
 (hsp:∀ H:Hp,TB K H → LL K H a (ns.map V.int) → sp [.ref a] H (fun v _=>v=.bl true) fun _ _ _=>False) :
 codeAny (Nv P w) S6 (.call (.ref fa) ⟨[.ref a],[]⟩) (fun r s'=>r=.ok (.ret (.bool true)) ∧ OldK s₁.heap s'.heap ∧ s'.os=s₁.os ∧ Sk s'.gens) s₁:=by
 have rv:=nZ hi
 have lenV:=hi.length
 have tne:∀ p∈tl,p.2.2≠a:=fun p hp z=>by
  have:=hTs p hp
  rw[z,ha] at this;cases this
 let so:HO:=.frz { cls:=.type "list",data:=.seq vs.toArray } (.lst (ns.map V.int))
 let H:Hp:=fun b=>if ∃ p∈tl,p.2.2=b then some (.tbl #[]) else if b=a ∧ K.lookup a=none then some so else none
 have Ht:∀ p∈tl,H p.2.2=some (.tbl #[]):=fun p hp=>if_pos ⟨p,hp,rfl⟩
 have Hcase:∀ b u,H b=some u → (∃ p∈tl,p.2.2=b ∧ u=.tbl #[]) ∨ (b=a ∧ K.lookup a=none ∧ u=so):=fun b u e=>by
  by_cases c1:∃ p∈tl,p.2.2=b
  ·have e':some (HO.tbl #[])=some u:=(if_pos c1).symm.trans e
   obtain ⟨p,hp,h2⟩:=c1
   exact .inl ⟨p,hp,h2,(Nc e').symm⟩
  ·have e':(if b=a ∧ K.lookup a=none then some so else none)=some u:=(if_neg c1).symm.trans e
   by_cases c2:b=a ∧ K.lookup a=none
   ·rw[if_pos c2] at e'
    exact .inr ⟨c2.1,c2.2,(Nc e').symm⟩
   ·rw[if_neg c2] at e';exact BT.jd e'
 have noA:∀ {b:M9}{o:Obj}{es:Array Ph}{ep:Nat},s₁.heap.get? b=some o → o.data=.dict es ep → H b=none:=fun {b o es ep} e d=>by
  cases q:H b with
  | none=>rfl
  | some u =>
   rcases Hcase b u q with ⟨p,hp,h2,_⟩ | ⟨h2,_⟩
   ·have z:=hTs p hp
    rw[h2,e] at z;cases z;cases d
   ·rw[h2,ha] at e;cases e
    have d':Data.seq vs.toArray _=Data.dict es ep:=d
    cases d'
 have nsK:∀ {b:M9}{m:Str → Option MZ},s₁.heap.Ns b m → (qv s₁.heap H).Ns b m:=fun {b m} ⟨o,es,ep,e,d,r⟩=>⟨o,es,ep,qw e (noA e d),d,r⟩
 have hKb:K.In (qv s₁.heap H):=fun b o e=>qw (KX b o e) (by
  cases q:H b with
  | none=>rfl
  | some u =>
   rcases Hcase b u q with ⟨p,hp,h2,_⟩ | ⟨h2,h3,_⟩
   ·rw[← h2,hTk p hp] at e;exact BT.jd e
   ·rw[h2,h3] at e;exact BT.jd e)
 have hM:Mod K mg (qv s₁.heap H):=⟨hKb,nsK hns,⟨mb,nsK hb,hbb⟩,let ⟨mc,h1,h2⟩:=hlim;⟨mc,nsK h1,h2⟩⟩
 have hok:HOk P w H s₁.heap:=fun b u e=>by
  rcases Hcase b u e with ⟨p,hp,h2,rfl⟩ | ⟨h2,_,rfl⟩
  ·subst h2;exact hTs p hp
  ·subst h2;exact ⟨ha,by rw[Nd];exact hl,vs,_,rv,ha⟩
 have e0:oV P w K mg (qv s₁.heap H) S6 [] s₁ H:=⟨rfl,hM,fun b o e=>Am e,Nat.le_of_eq (vz _ _),trivial,fun b hb=>absurd (show b∈([]:List M9) from hb) (by simp),hok,.of_eq hg⟩
 have tb:TB K H:=fun z hz c Pt e=>by
  rcases hT.all z hz with ⟨c3,P3,m3,e3⟩ | e3
  ·rw[e] at e3;cases e3
   exact ⟨#[],Ht _ m3,trivial,fun pos v q=>by cases q⟩
  ·rw[e] at e3;cases e3
 have hS:LL K H a (ns.map V.int):=by
  cases hk:K.lookup a with
  | some o =>
   have e:=KX a o hk
   rw[ha] at e
   cases e
   exact .inr ⟨vs,_,hk,by rw[lenV];exact hl,rv⟩
  | none =>
   refine .inl (.inr ⟨{ cls:=.type "list",data:=.seq vs.toArray },?_⟩)
   have e1:H a=(if a=a ∧ K.lookup a=none then some so else none):=if_neg fun ⟨p,hp,z⟩=>tne p hp z
   rw[e1,if_pos ⟨rfl,hk⟩]
 refine Ry ((F _).run S6 [] s₁ H ⟨[.ref a],[]⟩ [.ref a] [.ref a] _ _ hr e0 (hbind s₁ (.ref a) KX) (.cons rfl .nil) (hsp H tb hS)) fun r s' h=>?_
 cases r with
 | error e=>exact Od h
 | ok fl =>
  cases fl with
  | next=>exact Od h
  | brk=>exact Od h
  | cont=>exact Od h
  | ret u =>
   obtain ⟨v,H',os,bare,un,hok',r',q⟩:=h
   have q':v=.bl true:=q
   subst q'
   obtain rfl:u=PY true:=r'
   have kp:∀ b o,s₁.heap.get? b=some o → (s'.heap.get? b=some o) ∨ ∃ p∈tl,p.2.2=b ∧ ∃ more,s'.heap.get? b=some (Qh (#[]++more)):=fun b o e=>by
    cases q:H b with
    | none=>exact .inl (un.keep b o e q (by intro z;exact absurd (show b∈([]:List M9) from z) (by simp)) (by simp))
    | some u =>
     rcases Hcase b u q with ⟨p,hp,h2,rfl⟩ | ⟨h2,h3,rfl⟩
     ·obtain ⟨more,z⟩:=un.tbls b _ q
      exact .inr ⟨p,hp,h2,more,hok' b _ z⟩
     ·have z2:=un.frzs b _ _ q
      obtain ⟨e1,_⟩:=hok b _ q
      obtain ⟨e2,_⟩:=hok' b _ z2
      rw[e] at e1;cases e1
      exact .inl e2
   refine ⟨rfl,⟨fun b o e=>?_,fun b o e=>?_⟩,os,bare⟩
   ·rcases kp b o e with z | ⟨p,hp,rfl,more,z⟩
    ·exact .inl z
    ·have e2:=hTs p hp
     rw[e] at e2
     cases e2
     have tA:=(Sb KX (hT.hd p hp)).tab e
     exact .inr (.inl ⟨tA.isCodeTable,rfl,#[],more,rfl,z⟩)
   ·rcases kp b o e with z | ⟨p,hp,rfl,more,z⟩
    ·exact ⟨o,z⟩
    ·exact ⟨_,z⟩
theorem Ah {l:PySem.W.OpenLaw}{n k:Nat}{q:Nk}{loose:List Str}{XP:(Str → Option MZ) → Heap → Prop}{d:DefRec}{as:List M9}{qs:List Qy}{ts:List M9}{tl:List (Str×M9×M9)}{T:BT.FK → Option BT.Fn}{G:Str → Option BT.W}{fn:BT.Fn}{x:Str}
 (hn:l.most=some n) (hn2:n ≤ sizeLine) (hdf:d.params.defaults=[]) (hr:eH (2*k) S6) (hps:fn.ps=[x]) (hT:T (.f d.name)=some fn) (hts:ts=tl.map (·.2.2)) (hto:tl.all (fun p=>!as.contains p.2.2)=true)
 (FT:∀ (w:Nz) (K:MV),(∀ q∈qs,eZ K q=e9 w q) → Gd K tl)
 (F:∀ (P:Nk) (w:Nz) (mg:Str → Option MZ) (K:MV) (h:Heap),K.In h → h.Ns Nj mg → (∀ q∈qs,eZ K q=e9 w q) → Txt P w K mg T G)
 (hrun:∀ ns:List Int,ns.length ≤ n → ∃ h',BT.runN T G k (.f d.name) [.p (.lst (BT.c7 ns))] []=some (.p (.bl true),h')) :
 PySem.W.WalkO q loose XP (sees as qs ts).says l.row.toRowW d [] (fun f vs=>S9 f vs):=by
 refine Att.qD hn hdf fun w s₀ s₁ mg mb fa o pm cd doc a vs ns Gr Y ho hd hcd hmg hobj hints hlen hg=>?_
 obtain ⟨K,k0,k1,k2,k3⟩:=Y
 have KX:=CJ k1
 have X:=F l.prog w mg K s₁.heap KX Gr.T.g k2
 obtain ⟨f,fd,st,h1,h2,h3,h4,h5,h6⟩:=(X.defs _ fn hT).ex
 rw[hmg] at h1
 cases h1
 refine wR (sp:=spF l.prog w K (BT.runN T G k (.f d.name))) (x:=x) (k:=2*k) (fd:=fd) (tl:=tl) KX Gr.T.g Gr.T.b Gr.T.builtins Gr.T.nolimit hg hobj hints (Nx hlen hn2) hr (FT w K k2) (fun p hp=>k3 _ (by rw[hts];exact List.mem_map_of_mem hp)) (fun p hp=>?_) (fun base=>?_) (fun s u hK=>?_) (fun H tb hS=>zZ tb hS (hrun ns hlen))
 ·cases e:K.lookup p.2.2 with
  | none=>rfl
  | some o =>
   have m:=tO e
   rw[k0] at m
   have:=List.all_eq_true.mp hto p hp
   rw[List.contains_iff_mem.mpr m] at this;exact BT.dN this
 ·have:=FM (base:=base) X k (.f d.name) fn hT _ fd d.name d.name st h2 h3 h5 h6
  rw[hps] at this
  exact this
 ·have:=h4 s [u] hK (by rw[hps];rfl)
  rw[hps] at this
  exact this
end BG
end
section
namespace BL
open PySem PySem.Spec PyProof.Rows L2 BS BF BG
theorem LY:CkB "is_whole" "is_whole" (top 10) BT.fC:={}
theorem LZ:CkB "is_worth" "is_worth" (top 11) BT.gS:={}
theorem L0:CkB "is_name" "is_name" (top 12) BT.gO:={}
theorem L1:CkB "is_place" "is_place" (top 13) BT.gT:={}
theorem L3:CkB "first_word" "first_word" (top 14) BT.fL:={}
theorem L4:CkB "inner_sums" "inner_sums" (top 15) BT.dX:={}
theorem L5:CkB "has_sum_form" "has_sum_form" (top 16) BT.dH:={}
theorem L6:CkB "is_sum" "is_sum" (top 17) BT.jP:={}
theorem L7:CkB "fits" "fits" (top 18) BT.kB:={}
theorem L8:CkB "is_row" "is_row" (top 19) BT.jQ:={}
theorem Ma:CkB "is_program" "is_program" (top 20) BT.fM:={}
theorem Mb:CkB "written_word" "written_word" (top 24) BT.dI:={}
theorem Mc:CkB "written_sum" "written_sum" (top 25) BT.fq:={}
theorem Mf:CkB "written_row" "written_row" (top 26) BT.fu:={}
theorem Mg:CkB "written" "written" (top 27) BT.i6:={}
theorem Mh:CkB "is_figures" "is_figures" (top 28) BT.fN:={}
theorem Mi:CkB "number_or_word" "number_or_word" (top 29) BT.dU:={}
theorem Mj:CkB "leaf_of" "leaf_of" (top 30) BT.gy:={}
theorem Ml:CkB "sum_of" "sum_of" (top 31) BT.jR:={}
theorem Mm:CkB "sum_end" "sum_end" (top 32) BT.i7:={}
theorem Mn:CkB "row_of" "row_of" (top 33) BT.jS:={}
theorem Mp:CkB "read_sum" "read_sum" (top 34) BT.gU:={}
theorem Mq:CkB "read" "read" (top 35) BT.qc:={}
theorem Mr:CkB "_law_cell" "_law_cell" (top 37) BT.fB:={}
theorem Ms:CkB "_law_drawn" "_law_drawn" (top 38) BT.fK:={}
theorem Mt:CkB "_law_sum" "_law_sum" (top 39) BT.eU:={}
theorem Mu:CkB "_law_row" "_law_row" (top 40) BT.gQ:={}
theorem Mv:CkB "_law_program" "_law_program" (top 41) BT.d7:={}
theorem Mw:CkB "_law_asked" "_law_asked" (top 42) BT.gR:={}
theorem Mx:CkB "_law_text" "_law_text" (top 43) BT.dB:={}
theorem Mz:CkB "law" "law" (top 44) BT.iK:={}
noncomputable def tab:List (BT.FK×BT.Fn):=[(.f "is_whole",BT.fC),(.f "is_worth",BT.gS),(.f "is_name",BT.gO),(.f "is_place",BT.gT),(.f "first_word",BT.fL),(.f "inner_sums",BT.dX),(.f "has_sum_form",BT.dH),(.f "is_sum",BT.jP),(.f "fits",BT.kB),(.f "is_row",BT.jQ),(.f "is_program",BT.fM),(.f "written_word",BT.dI),(.f "written_sum",BT.fq),(.f "written_row",BT.fu),(.f "written",BT.i6),(.f "is_figures",BT.fN),(.f "number_or_word",BT.dU),(.f "leaf_of",BT.gy),(.f "sum_of",BT.jR),(.f "sum_end",BT.i7),(.f "row_of",BT.jS),(.f "read_sum",BT.gU),(.f "read",BT.qc),(.f "_law_cell",BT.fB),(.f "_law_drawn",BT.fK),(.f "_law_sum",BT.eU),(.f "_law_row",BT.gQ),(.f "_law_program",BT.d7),(.f "_law_asked",BT.gR),(.f "_law_text",BT.dB),(.f "law",BT.iK)]
noncomputable def glo:List (Str×BT.W):=[("WORTH_COUNT",.p (.int 10007)),("MOST_PARTS",.p (.int 15)),("MOST_ROWS",.p (.int 20)),("MOST_FIGURES",.p (.int 5)),("LETTERS",.p (.tup ((["a","b","c","d","e","f"]:List Str).map BT.D.str))),("FIGURES",.p (.str "0123456789")),("ROW_FORMS",.k (.t (([("set",43,["name","sum"]),("put",44,["sum","sum"]),("ask",45,["name"]),("say",46,["sum"]),("jump",47,["place"]),("unless",48,["sum","place"]),("call",49,["place"]),("back",50,[]),("stop",51,[])]:List (Str×M9×List Str)).map fun q=>(q.1,BT.D.tup (q.2.2.map BT.D.str))))),("INNER_COUNTS",.k (.t (([("num",0),("name",0),("cell",1),("add",2),("sub",2),("mul",2),("less",2)]:List (Str×Int)).map fun q=>(q.1,BT.D.int q.2))))]
noncomputable abbrev T:BT.FK → Option BT.Fn:=look tab
noncomputable abbrev G:Str → Option BT.W:=look glo
theorem prg:BT.P80 T G:=⟨rfl,rfl,rfl,rfl,rfl,rfl,rfl,rfl,rfl,rfl,rfl,rfl,rfl,rfl,rfl,rfl,rfl,rfl,rfl,rfl,rfl,rfl,rfl,rfl,rfl,rfl,rfl,rfl,rfl,rfl,rfl⟩
theorem run (ns:List Int) (h:ns.length ≤ 1000):∃ h',BT.runN T G 40 "law" [.p (.lst (BT.c7 ns))] []=some (.p (.bl true),h'):=BT.wN prg ⟨⟨rfl,rfl,rfl,rfl,rfl⟩,rfl,rfl,rfl⟩ ns h 19
theorem Jp (w:Nz) (K:MV) (hq:∀ q∈qys,eZ K q=e9 w q):Gd K tl:=by
 refine ⟨fun z hz=>?_,fun p hp=>?_⟩
 ·simp only[BT.fZ,O3,Oo,or_false] at hz
  rcases hz with rfl | rfl | rfl | rfl | rfl | rfl | rfl | rfl | rfl | rfl | rfl | rfl | rfl | rfl | rfl
  ·exact .inr (dJ (w:=w) (hn hq 69 rfl))
  ·exact .inr (dJ (w:=w) (hn hq 70 rfl))
  ·exact .inr (dJ (w:=w) (hn hq 71 rfl))
  ·exact .inr (dJ (w:=w) (hn hq 72 rfl))
  ·exact .inr (dJ (w:=w) (hn hq 73 rfl))
  ·exact .inr (dJ (w:=w) (hn hq 74 rfl))
  ·exact .inr (dJ (w:=w) (hn hq 75 rfl))
  ·exact .inr (dJ (w:=w) (hn hq 76 rfl))
  ·exact .inr (dJ (w:=w) (hn hq 77 rfl))
  ·exact .inr (dJ (w:=w) (hn hq 78 rfl))
  ·exact .inr (dJ (w:=w) (hn hq 79 rfl))
  ·exact .inr (dJ (w:=w) (hn hq 80 rfl))
  ·exact .inr (dJ (w:=w) (hn hq 81 rfl))
  ·exact .inr (dJ (w:=w) (hn hq 82 rfl))
  ·exact .inr (dJ (w:=w) (hn hq 83 rfl))
 ·simp[tl] at hp
theorem txt (P:Nk) (w:Nz) (mg:Str → Option MZ) (K:MV) (h:Heap) (X:K.In h) (Gh:h.Ns Nj mg) (hq:∀ q∈qys,eZ K q=e9 w q):Txt P w K mg T G:=by
 have tbf:=Jp w K hq
 have all:∀ p∈tab,Ag K mg p:=cW (dd0 X Gh (hn hq 0 rfl) LY) <| cW (dd0 X Gh (hn hq 1 rfl) LZ) <| cW (dd0 X Gh (hn hq 2 rfl) L0) <| cW (dd0 X Gh (hn hq 3 rfl) L1) <| cW (dd0 X Gh (hn hq 4 rfl) L3) <| cW (dd0 X Gh (hn hq 5 rfl) L4) <| cW (dd0 X Gh (hn hq 6 rfl) L5) <| cW (dd0 X Gh (hn hq 7 rfl) L6) <| cW (dd0 X Gh (hn hq 8 rfl) L7) <| cW (dd0 X Gh (hn hq 9 rfl) L8) <| cW (dd0 X Gh (hn hq 10 rfl) Ma) <| cW (dd0 X Gh (hn hq 11 rfl) Mb) <| cW (dd0 X Gh (hn hq 12 rfl) Mc) <| cW (dd0 X Gh (hn hq 13 rfl) Mf) <| cW (dd0 X Gh (hn hq 14 rfl) Mg) <| cW (dd0 X Gh (hn hq 15 rfl) Mh) <| cW (dd0 X Gh (hn hq 16 rfl) Mi) <| cW (dd0 X Gh (hn hq 17 rfl) Mj) <| cW (dd0 X Gh (hn hq 18 rfl) Ml) <| cW (dd0 X Gh (hn hq 19 rfl) Mm) <| cW (dd0 X Gh (hn hq 20 rfl) Mn) <| cW (dd0 X Gh (hn hq 21 rfl) Mp) <| cW (dd0 X Gh (hn hq 22 rfl) Mq) <| cW (dd0 X Gh (hn hq 23 rfl) Mr) <| cW (dd0 X Gh (hn hq 24 rfl) Ms) <| cW (dd0 X Gh (hn hq 25 rfl) Mt) <| cW (dd0 X Gh (hn hq 26 rfl) Mu) <| cW (dd0 X Gh (hn hq 27 rfl) Mv) <| cW (dd0 X Gh (hn hq 28 rfl) Mw) <| cW (dd0 X Gh (hn hq 29 rfl) Mx) <| cW (dd0 X Gh (hn hq 30 rfl) Mz) <| vp
 refine ⟨fun x fn e=>?_,fun c m fn e=>?_,fun L fn e=>?_,fun x z e=>?_,?_⟩
 ·exact iL (Q:=fun k fn=>∀ x,k=.f x → Def K mg x fn) (l:=tab) (fun p hp=>(all p hp).1) e x rfl
 ·exact iL (Q:=fun k fn=>∀ c m,k=.m c m → FL K mg c m fn) (l:=tab) (fun p hp=>(all p hp).2.1) e c m rfl
 ·exact iL (Q:=fun k fn=>∀ L,k=.l L → BT.sI L=some fn ∧ ∃ ns bt,fn=⟨ns,ns,.ret bt⟩ ∧ ∀ y,ns.contains (BT.fR y)=false) (l:=tab) (fun p hp=>(all p hp).2.2) e L rfl
 ·exact iL (Q:=fun x z=>nk P w K mg x z) (l:=glo) (cW (jZ X Gh (hn hq 31 rfl)) <| cW (jZ X Gh (hn hq 32 rfl)) <| cW (jZ X Gh (hn hq 33 rfl)) <| cW (jZ X Gh (hn hq 34 rfl)) <| cW (Ac X Gh (hn hq 35 rfl) (by decide) (by decide +kernel)) <| cW (Ae X Gh (hn hq 37 rfl) (by decide +kernel)) <| cW (Af X Gh [("set",43,["name","sum"]),("put",44,["sum","sum"]),("ask",45,["name"]),("say",46,["sum"]),("jump",47,["place"]),("unless",48,["sum","place"]),("call",49,["place"]),("back",50,[]),("stop",51,[])] (hn hq 38 rfl) (by decide) (by decide +kernel) (cW (gX (hn hq 39 rfl) (by decide) (by decide +kernel)) <| cW (gX (hn hq 40 rfl) (by decide) (by decide +kernel)) <| cW (gX (hn hq 41 rfl) (by decide) (by decide +kernel)) <| cW (gX (hn hq 42 rfl) (by decide) (by decide +kernel)) <| cW (gX (hn hq 43 rfl) (by decide) (by decide +kernel)) <| cW (gX (hn hq 44 rfl) (by decide) (by decide +kernel)) <| cW (gX (hn hq 45 rfl) (by decide) (by decide +kernel)) <| cW (gX (hn hq 46 rfl) (by decide) (by decide +kernel)) <| cW (gX (hn hq 47 rfl) (by decide) (by decide +kernel)) <| vp)) <| cW (Ad X Gh (hn hq 36 rfl) (by decide) (by decide +kernel)) <| vp) e
 ·exact cW (none_of X Gh (hn hq 48 rfl)) <| cW (none_of X Gh (hn hq 49 rfl)) <| cW (none_of X Gh (hn hq 50 rfl)) <| cW (none_of X Gh (hn hq 51 rfl)) <| cW (none_of X Gh (hn hq 52 rfl)) <| cW (none_of X Gh (hn hq 53 rfl)) <| cW (none_of X Gh (hn hq 54 rfl)) <| cW (none_of X Gh (hn hq 55 rfl)) <| cW (none_of X Gh (hn hq 56 rfl)) <| cW (none_of X Gh (hn hq 57 rfl)) <| cW (none_of X Gh (hn hq 58 rfl)) <| cW (none_of X Gh (hn hq 59 rfl)) <| cW (none_of X Gh (hn hq 60 rfl)) <| cW (none_of X Gh (hn hq 61 rfl)) <| cW (none_of X Gh (hn hq 62 rfl)) <| cW (none_of X Gh (hn hq 63 rfl)) <| cW (none_of X Gh (hn hq 64 rfl)) <| cW (none_of X Gh (hn hq 65 rfl)) <| cW (none_of X Gh (hn hq 66 rfl)) <| cW (none_of X Gh (hn hq 67 rfl)) <| cW (none_of X Gh (hn hq 68 rfl)) <| vp
noncomputable abbrev lw:DefRec:=⟨"law",fk (top 44),dM (top 44),cZ (top 44),Km (top 44)⟩
theorem df:PySem.W.defOf qg "law"=some (lw,[]):=by kernel_rfl
theorem th:pg.theDef "law"=some (lw.params,lw.body,lw.scope):=by kernel_rfl
theorem walk:PySem.W.WalkO qg loo (PySem.W.XL qg []) (sees adr qys tas).says PySem.Challenge.rw_backtape_k80_written.row.toRowW lw [] (fun f vs=>S9 f vs) :=
 Ah (l:=PySem.Challenge.rw_backtape_k80_written) (n:=63) (k:=40) (x:="_law_script") (d:=lw) (T:=T) (G:=G) (ts:=tas) (fn:=BT.iK) rfl (by decide) rfl ⟨rfl,by decide,by decide⟩ rfl rfl (tl:=tl) rfl (by decide +kernel) Jp txt fun ns hl=>run ns (by lia)
end BL
open PySem PySem.W PyProof.Rows
set_option maxRecDepth 100000 in
set_option maxHeartbeats 0 in
theorem PySem.Challenge.cw_backtape_k80_written_holds : PySem.Challenge.rw_backtape_k80_written.Holds := by
 w_on;refine PySem.W.holds_law (by decide +kernel) fun said=>?_
 refine PySem.W.holds_open (q:=BL.qg) (loose:=BL.loo) (XP:=XL BL.qg []) (YP:=(BG.sees BL.adr BL.qys BL.tas).says) (d:=BL.lw) (kwd:=[]) BL.left (BG.sees BL.adr BL.qys BL.tas).of (BG.sees BL.adr BL.qys BL.tas).keeps (fun s e=>xl_of s (Bool.and_eq_true_iff.mp e).1) XL.keeps BL.df BL.th (by kernel_rfl) (fun s e=>recFacts_of (Bool.and_eq_true_iff.mp e).2) rfl (by first | assumption | decide +kernel) (by decide +kernel) ⟨rfl,rfl,rfl,rfl,rfl,by decide +kernel⟩ ?hw BL.walk
 (case hw=>w_witness2)
#print axioms PySem.Challenge.cw_backtape_k80_written_holds
end
end

import PyProof.Rows.All
import Wide.All
import OpenK.AllK
import Wide.FinOn
import PyProof.EqAt
import PyProof.EqKinds
import PyProof.TupleCall
import Open.Tree
import Wide.Once
import KE.KLam
import KE.KNestM
import KE.KIsAll
import OpenK.KMore
import KE.KSortTup
import PyProof.Rows.SetFrom
import PyProof.IsiH_list
import PyProof.Rows.Exc
import KE.KDictOf
import PySem.Syntax
import PySem.Builtin.Str.Common
import PyProof.SliceList
import PyProof.StrCalls2
import KE.KIntText
import PyProof.NeData
import PyProof.ExcAttrAll.ValueError
import PyProof.ZipIter
import KE.KRevIter
import KE.KItemsList
import KE.KDictSum
import PyProof.DictWalks
import KE.KPairComp
import KE.KEqDict
import PyProof.StrBlock2
import PyProof.StrBlockL
import PyProof.ConsumeWalk
import PyProof.ListRange
import PyProof.EnumFor
import PyProof.EnumMake
import PyProof.EnumStmt
import PyProof.CompFree
import PyProof.PlainList
import PyProof.Draws
import PyProof.StrWalks
import PyProof.StrLawsTight
import PyProof.StrLawsChain
import PyProof.FitsReplace
import PyProof.Rows.StrIntSpec
import Lean
import PySem.Challenge.RW_backtape_k01_known
set_option autoImplicit true
set_option Elab.async false
set_option linter.all false
set_option maxRecDepth 100000
set_option maxHeartbeats 8000000
set_option genSizeOf false
set_option compiler.extract_closed false
set_option bootstrap.genMatcherCode false
noncomputable section
open PySem.W renaming Frag->Nz,findIn->N9,nsIn->Od,emptyDict->OE,keepIn->OG,tabIn->OY,kitOne->OZ,instObj->O1,fnOf->O5,hasDictIn->Pf,mg_of->PJ,kia_one->PK,plainGet->P8,envX->Qm,tabObj->QT,lookIn->QU,codeIn->QV,plainGet_of->Q2,callWith_K0->Q3,mroIn->Q9,callWith_K->Rc,plainOver->Rj,methodObj->Rk,isFn->Rn,codeHdIn->Rq,takerIn->RI,makesIn->RJ,byRow2->RY,absHeap->Si,SharedT->Sj,recOk->Sk,cellsFrom_some->Sz,xlAt->SL,methodCall_KW->SM,codeHd_of_K->Tg,specialIn->TR,wideGood->T5,handedIn->T6,clsGoodW->T7,openSeen->Ue,takesIn->Ul
open PySem renaming wpAny_bind->NB,Shared->ND,Expr->NH,Addr->NL,Program->NT,mainGlobals->NU,strIterType->N2,model->N5,World->N7,starEach->Oc,Around->Om,sliceBounds->On,wpAny_newObj_type->Oo,compareOp->Oq,wpAny_field->Os,Stmt->Ou,Scope->Ow,wpAny_callSpecial?_slot->OD,wpAny_truthy_bool->OM,mem_of_lookup->OT,binaryOp->OW,call_meets->O3,FuncData->O8,sysModules->O9,wpAny_call_entry->Pe,wpAny_seqItems->Ph,wpAny_setField_rec->Pn,wpAny_Call_Name_kw->Po,wpAny_passesOwn->Pv,wpAny_mono->Px,assignEach->Py,IsPair->PV,builtinsNs->P4,wpAny_loadPart'->P6,wpAny_holding->P7,NameKind->P9,DictEntry->Qa,backTo->Qf,Expr->Qk,Keyword->Qq,swapsWith->Qv,letOwnedTupleGo->Qw,keywordEach->Qx,bootBuiltins->QJ,Operator->QK,holding->QY,getItem->QZ,attributeBase->Q0,wpAny_execs_nil->Rg,importedModules->Rh,wpAny_updateSeq_pair->Rp,sizeLine_eq->RC,Builtin->RK,wpAny_standAt->RN,wpAny_onRaise->RO,evalPart_none->RQ,behindInMarks->RT,backToKw->RU,Stmt->RX,IsZip->R6,Arguments->R8,wpAny_sequenceKey->Sg,wpAny_pyIter_list->Sh,wpAny_typeOf->Sw,codeAny_mono->Sx,assign->Sy,IsPart->SI,noFill_tuple_add->SK,wpAny_in_of->S6,standAt->S7,getMethod->S9,Within->Tf,IsRangeIter->Tj,wpAny_binaryOp_repeat_ref->TN,bltViewBooted->TQ,wpAny_rule->TY,wpAny_getItem_list_slice->TZ,sliceRange->T3,PlainAttrs->Ua,seq_tuple_add->Ud,evalPart_some->Ug,compEnvC->Uh,callerA->Ui,bindArgs->Uj,call->Uk
open PySem.Heap renaming get?_push_of_some->NC,lt_size->NK,get?_push_size->NR,SameBut->Oh,size_push->Pw,get?_update_other->Tn,get?_update_self->TH
open List renaming size_toArray->NF,length_cons->NJ,getElem?_eq_getElem->NN,mem_cons_of_mem->NP,getElem?_append_left->NQ,length_map->NS,mem_cons_self->NV,length_append->NW,replicate->NX,mem_of_getElem?->NZ,getElem?_eq_none->N3,getElem?_append_right->Oa,mem_append_right->Ob,getElem?_map->Og,length_singleton->Oj,length_drop->Ot,all_eq_true->Oz,filterMap_cons->OI,map_cons->OJ,length_take->OP,range->OR,replicate_succ->OV,getElem?_set_self->OX,not_mem_nil->O0,getElem?_of_mem->O4,lookup_cons->Pb,length_nil->Pi,append_nil->Pj,flatten_cons->Pq,append_assoc->Pr,getElem?_set_ne->Pu,lookup->PD,mem_cons->PX,getElem?_replicate->PY,find?_cons->P0,length_replicate->Qd,mem_append_left->Qh,any_cons->Qj,length_reverse->Qn,reverse_cons->QC,getElem_mem->QM,find?_cons_of_neg->QO,of_mem_zip->QW,mem_of_mem_take->Q7,mem_of_mem_drop->Q8,getElem?_range->Re,isEmpty_nil->RM,nil_append->Sa,length->Sb,forIn_cons->Sd,getD_eq_getElem?_getD->Sq,nodup_nil->SE,getElem?_eq_none_iff->SG,drop_eq_getElem_cons->SH,getElem?_take_of_lt->SQ,foldl->SR,head_eq_of_cons_eq->SX,all_cons->SY,take_of_length_le->Th,reverse_singleton->Ti,map_map->Tw,getElem?_toArray->Tz,getElem?_reverse->TF,range'->Ub
open Bool renaming and_eq_true->NG,false_ne_true->N8,or_eq_true->Pk,not_eq_true'->P5,eq_iff_iff->QX,true_and->Ro,false_and->SJ,and_eq_false_iff->TM
open Nat renaming le_refl->NI,ne_of_lt->N1,lt_of_lt_of_le->N4,le_trans->Ol,lt_or_ge->OA,le_add_right->OB,lt_irrefl->Pa,lt_succ_self->PC,le_of_lt->PR,zero_le->Qo,le_succ->Qp,ne_of_gt->Qu,lt_trans->Q4,min_le_right->R0,mul_le_mul->SO,mul_comm->TU,le_of_ble_eq_true->TV
open Option.some renaming inj->NO,injEq->PN
open PySem.Str renaming ofString->NY,join->P1,ofString_eq_toList->QS
open PySem.Builtin.SmallTypes renaming nextOf->N6,ownedTupleIsFree->OL,ownedTupleHandOut->Qs
open PySem.Builtin.Slice renaming slicePlaces->Oe,sliceAdjust->Ox,sliceApplied->Pc,sliceFields->Rm
open PySem.Builtin.Tuple renaming tupleExact->Of,tupleItemsOf->Qc,tupleTooMany->Rf
open PyProof.Rows renaming slot_tuple_getitem->Oi,callWith_type1->OO,slicePart_none->Rx,plainGoodE->Ry,plainGoodD->Rz,expectedOf->RB,entry_tuple_getitem->RE,subscriptTail->RP,args_tuple_getitem->RV,drecsOf->RZ,tail_any->SV,envOfC->Tc,AllBare->Tv,Subscript_->T4,tupleItemsOf_->Uc
open PySem.NameKind renaming free->OF,cell->Q6
open PySem.Builtin.List renaming listTooLong->OH
open Option renaming bind_some->ON,map_some->Qi,getD_some->Um,getD_none->Uo
open False renaming elim->OQ
open PySem.Value renaming ref->OS,none->Pz,isStrOf->Qg,bool->Qz,int->Ri,str->Te
open Int renaming toNat_natCast->OU,toNat_of_nonneg->Rl,emod_lt_of_pos->Ru,emod_nonneg->Ss
open PySem.Builtin.Str renaming occurrences->O2,strKind->Su
open PySem.F renaming plainAttrs_list->O6,slot_dict_get->Pd,args_tuple_add_2->Qt,entry_tuple_add->QA,slot_tuple_add->QD,plainAttrs_str->QE,entry_dict_get->QF,plainAttrs_dict->Sn,args_dict_get_2->So,type_dict_get->SN
open Array renaming eq_empty_of_size_eq_zero->O7,length_toList->Ql,all_append->RL,getElem?_eq_getElem->Sv,mem_of_getElem?->To,getElem?_toList->Tt
open Prod.mk renaming injEq->Qe
open Ne renaming symm->QB
open List.cons renaming injEq->QG
open ForInStep renaming yield->QH
open PySem.Heap.IsSliceOf renaming new->QL
open PySem.Calls renaming callWith_builtin->QN,Name_function_global->Sf,evalArgs_plain->TL
open PySem.Obj renaming mapSeq->Q5
open PySem.PassesOwn renaming never->Rt
open PySem.Builtin.Range renaming rangeSize->Rv
open PySem.Heap.SameBut renaming update->Se
open PyProof renaming noPylong_small->SA
open Char renaming toNat->SS
open PySem.Around renaming under->SZ,frames_deeper->Tu
open PySem.Code renaming isFrame->TJ
open PySem.AutoSeq1 renaming idx_int->TX
open PyProof.V renaming Flat->T9
section
namespace L2
open PySem PySem.Spec PyProof.Rows
def fN (s:RX):R8:=match s with
 | .FunctionDef _ a _ _ _ _ _ _ _ _=>a
 | _=>{ posonlyargs:=[],args:=[],vararg:=none,kwonlyargs:=[],kw_defaults:=[],kwarg:=none,defaults:=[] }
def dS (s:RX):List RX:=match s with
 | .FunctionDef _ _ b _ _ _ _ _ _ _=>b
 | _=>[]
def c7 (s:RX):Ow:=match s with
 | .FunctionDef _ _ _ _ _ _ sc _ _ _=>sc
 | _=>{ kind:=.function,names:=[],isGenerator:=false,isCoroutine:=false }
end L2
end
section
namespace BR
open PySem PySem.W PyProof.Rows
noncomputable def pV:List Obj->BT->Nat->Option (BT×Nat)
 | [],T,n=>some (T,n)
 | o :: r,T,n=>match ((T.ins n o).get n).isSome with
  | true=>pV r (T.ins n o) (n+1)
  | false=>none
theorem nB (life:Life):∀ {l:List Obj}{T T':BT}{n n':Nat},pV l T n=some (T',n')->(Si T' n' life).objs.toList=(Si T n life).objs.toList++l
 | [],T,T',n,n',h=>by cases h;simp
 | o :: r,T,T',n,n',h=>by
  unfold pV at h
  cases g:((T.ins n o).get n).isSome with
  | false=>rw[g] at h;cases h
  | true =>
   rw[g] at h
   rw[nB life h,absHeap_ins g]
   show ((Si T n life).objs.push o).toList++r=_
   simp
noncomputable def toT (s:ND):Option Sj:=match pV s.heap.objs.toList .nil 0 with
 | some (T,n)=>some ⟨T,n,s.heap.life,s.gens,s.drawn,s.toks,s.os⟩
 | none=>none
theorem Ar (h:toT s=some t):t.abs=s:=by
 unfold toT at h
 cases e:pV s.heap.objs.toList .nil 0 with
 | none=>rw[e] at h;cases h
 | some r =>
  obtain ⟨T,n⟩:=r
  rw[e] at h
  cases h
  have:=nB s.heap.life e
  obtain ⟨⟨objs,life⟩,g,d,k,o⟩:=s
  show Shared.mk (Si T n life) g d k o=Shared.mk ⟨objs,life⟩ g d k o
  have e2:(Si T n life).objs.toList=objs.toList:=by
   rw[this];simp[Si,BT.list]
  have e3:(Si T n life).objs=objs:=Array.toList_inj.mp e2
  have e4:Si T n life=⟨objs,life⟩:=by
   show Heap.mk _ _=Heap.mk _ _
   exact congrArg (Heap.mk · life) e3
  rw[e4]
noncomputable def lg (tb:String->Option RK) (p:NT) (w:N7) (n₀:Nat) (ann:Option Value):Nat->Sj->Thread->Option Sj
 | 0,_,_=>none
 | n+1,s,t=>match through t with
  | true=>some s
  | false=>match stepOk n₀ ann t with
   | false=>none
   | true=>match stepT (denote tb) p w s t with
    | some (s',t')=>lg tb p w n₀ ann n s' t'
    | none=>none
section
variable {tb:String->Option RK}{p:NT}{w:N7}{n₀:Nat}{ann:Option Value}
theorem nC:∀ {n:Nat}{s s':Sj}{t:Thread},lg tb p w n₀ ann n s t=some s'->topRun tb p w n₀ ann n s.abs t=some s'.abs
 | 0,_,_,_,h=>by cases h
 | n+1,s,s',t,h=>by
  unfold lg at h
  unfold topRun
  cases he:through t with
  | true=>rw[he] at h;cases h;rfl
  | false =>
   rw[he] at h
   cases hk:stepOk n₀ ann t with
   | false=>rw[hk] at h;cases h
   | true =>
    rw[hk] at h
    cases hs:stepT (denote tb) p w s t with
    | none=>rw[hs] at h;cases h
    | some r=>obtain ⟨s₂,t₂⟩:=r;rw[hs] at h;dsimp only;rw[stepT_spec hs];exact nC h
end
noncomputable def lK (tb:String->Option RK) (p:NT) (w:N7) (N:Nat) (s₀:ND):Option Sj :=
 match s₀.heap.isNs NU&&s₀.gens.size==0 with
 | true=>(toT s₀).bind fun t₀=>(lg tb p w s₀.heap.objs.size (s₀.heap.nsMap NU "__annotations__") N t₀ (topStub p)).bind fun t₁ =>
  match staticsOk (Rh p.main.body) s₀.heap t₁.abs.heap&&namesBound p t₁.abs.heap&&gensDone t₁.abs&&laidKept s₀.heap t₁.abs.heap with
   | true=>some t₁
   | false=>none
 | false=>none
theorem rC (h:lK tb p w N s₀=some t):topFrom tb p w N s₀=some t.abs:=by
 unfold lK at h
 unfold topFrom
 cases e:(s₀.heap.isNs NU&&s₀.gens.size==0) with
 | false=>rw[e] at h;cases h
 | true =>
  rw[e] at h
  obtain ⟨t₀,h0,h⟩:=Option.bind_eq_some_iff.mp h
  obtain ⟨t₁,h1,h⟩:=Option.bind_eq_some_iff.mp h
  have h2:=nC h1
  rw[Ar h0] at h2
  dsimp only
  rw[h2]
  show (match _ with | true=>some t₁.abs | false=>none)=_
  cases e2:(staticsOk (Rh p.main.body) s₀.heap t₁.abs.heap&&namesBound p t₁.abs.heap&&gensDone t₁.abs&&laidKept s₀.heap t₁.abs.heap) with
  | false=>rw[e2] at h;cases h
  | true=>rw[e2] at h;cases h;rfl
noncomputable def jg (tb:String->Option RK) (p:NT) (w:N7) (N:Nat):Option Sj:=(fencedOpening tb p w N).bind (lK tb p w N)
theorem As {tb:String->Option RK}{p:NT}{w:N7}{N:Nat}{α:Type}{f:ND->α}{x:α} (h:(jg tb p w N).map (fun t=>f t.abs)=some x):(openEnds tb p w N).map f=some x:=by
 obtain ⟨t,ht,e⟩:=Option.map_eq_some_iff.mp h
 obtain ⟨s₀,h0,h1⟩:=Option.bind_eq_some_iff.mp ht
 unfold openEnds
 rw[h0]
 show (topFrom tb p w N s₀).map f=some x
 rw[rC h1]
 exact congrArg some e
theorem wD {α β γ δ:Type}{o:Option α}{f:α->β×γ}{g:α->δ}{x:β}{y:γ}{z:δ} (h1:o.map (fun t=>(f t).1)=some x) (h2:o.map (fun t=>(f t).2)=some y) (h3:o.map g=some z):o.map (fun t=>(f t,g t))=some ((x,y),z):=by
 cases o with
 | none=>cases h2
 | some t =>
  have e1:(f t).1=x:=NO h1
  have e2:(f t).2=y:=NO h2
  have e3:g t=z:=NO h3
  show some (f t,g t)=_
  rw[← e1,← e2,← e3]
theorem good (q:NT) (loose:List Str):openGood q loose=(RB q,TQ,true,true,PySem.pinGoodD (RZ q),Ry q (PySem.W.looseW q loose),Rz q loose,T5 q,T7 q loose):=rfl
noncomputable def LA (tb:String->Option RK) (p q:NT) (loose mods:List Str) (Xt:ND->Bool) (g0:Bool) (N:Nat) (w:N7):Prop :=
 (jg tb p w N).map (fun t=>(Ue q loose mods Xt g0 t.abs).1)=some (RB q)
noncomputable def LB (tb:String->Option RK) (p q:NT) (loose mods:List Str) (Xt:ND->Bool) (g0:Bool) (N:Nat) (w:N7):Prop :=
 (jg tb p w N).map (fun t=>(Ue q loose mods Xt g0 t.abs).2)=some (TQ,true,true,PySem.pinGoodD (RZ q),Ry q (PySem.W.looseW q loose),Rz q loose,T5 q,T7 q loose)
noncomputable def LO (tb:String->Option RK) (p:NT) (N:Nat) {α:Type} (Yf:ND->α) (Ya:N7->α) (w:N7):Prop:=(jg tb p w N).map (fun t=>Yf t.abs)=some (Ya w)
theorem Au {tb:String->Option RK}{p q:NT}{loose mods:List Str}{Xt:ND->Bool}{g0:Bool}{N:Nat}{α:Type}{Yf:ND->α}{Ya:N7->α}{w:N7} (h1:LA tb p q loose mods Xt g0 N w) (h2:LB tb p q loose mods Xt g0 N w) (h3:LO tb p N Yf Ya w) :
 (openEnds tb p w N).map (fun s=>(Ue q loose mods Xt g0 s,Yf s))=some (openGood q loose,Ya w):=by
 rw[good]
 have h:=wD (f:=fun t:Sj=>Ue q loose mods Xt g0 t.abs) (g:=fun t:Sj=>Yf t.abs) h1 h2 h3
 exact As (f:=fun s=>(Ue q loose mods Xt g0 s,Yf s)) h
end BR
end
section
namespace BG
open PySem PySem.Spec PySem.Calls PyProof.Rows L2
structure FS where
 name:Str
 qual:Str
 params:R8
 body:FuncBody
 scope:Ow
 globals:NL
 closure:List (Str×NL)
 defaults:Value
 builtins:NL
 code:Bool
noncomputable def Av (K:Nz) (f:NL):Option FS:=match K.lookup f with
 | some ⟨_,_,.func fd,_⟩=>some ⟨fd.name,fd.qualname,fd.params,fd.body,fd.scope,fd.globals,fd.closure,fd.defaults,fd.builtins,QV K fd.code fd.qualname⟩
 | _=>none
noncomputable def sR (x qual:Str) (st:RX):FS:=⟨x,qual,fN st,.stmts (dS st),c7 st,NU,[],.none,P4,true⟩
noncomputable def strOf:Value->Option Str
 | .str x _=>some x
 | _=>none
noncomputable def intOf:Value->Option Int
 | .int i _=>some i
 | _=>none
noncomputable def refOf:Option (Option Value)->Option NL
 | some (some (.ref a))=>some a
 | _=>none
inductive Qy where
 | fn (x:Str) (f:NL) (st:RX) | int (x:Str) (n:Int) | tup (x:Str) (f:NL) (xs:List Str) | dct (x:Str) (f:NL) (kvs:List (Str×Int)) | no (x:Str) | cls (c:Str) (C:NL) | me (C:NL) (m x qual:Str) (f:NL) (st:RX) | mk (C:NL)
 | tab (x:Str) (c P:NL) | bm (b:NL) | fv (x:Str) (f:NL) | exc (D:NL) (xs:List (Str×NL))
 | str (x s:Str) | stp (f:NL) (xs:List Str) | dtp (x:Str) (f:NL) (kvs:List (Str×NL))
inductive Ov where
 | fn (a:Option NL) (o:Option FS) | int (n:Option Int) | seq (a:Option NL) (c:Option (Value×Option NL×Nat)) (xs:Option (List (Option Str))) | dct (a:Option NL) (c:Option (Value×Option NL×Nat)) (xs:Option (List (Int×Option Str×Option Int))) | b (x:Bool)
noncomputable def shp (o:Obj):Value×Option NL×Nat:=(o.cls,o.dict,o.slots.size)
noncomputable def sU (o:Obj):Option (List (Option Str)):=match o.data with
 | .seq its _=>some (its.toList.map strOf)
 | _=>none
noncomputable def Dc (o:Obj):Option (List (Int×Option Str×Option Int)):=match o.data with
 | .dict es _=>some (es.toList.map fun e=>(e.hash,strOf e.key,intOf e.val))
 | _=>none
noncomputable def sV:Value->Option Int
 | .ref a=>some (a:Int)
 | _=>none
noncomputable def Dd (o:Obj):Option (List (Int×Option Str×Option Int)):=match o.data with
 | .dict es _=>some (es.toList.map fun e=>(e.hash,strOf e.key,sV e.val))
 | _=>none
noncomputable def attrs:List Str:=["program","asked","gap","most","kept","farthest","front","now","origins","branches","tape","named"]
noncomputable def KZ (K:Nz) (c:Str) (C:NL):Bool:=decide (Od K NU c=some (some (.ref C)))&&P8 K C Str.empty&&Pf K C&&Rj K C&&decide (N9 K (.ref C) "__setattr__"=some (some (.builtin "object.__setattr__"))) &&
 attrs.all fun f=>decide (N9 K (.ref C) f=some none)
noncomputable def meB (K:Nz) (C:NL) (m:Str) (f:NL):Bool:=decide (N9 K (.ref C) m=some (some (.ref f)))&&Rn K (.ref f)
noncomputable def mkB (K:Nz) (C:NL):Bool:=RJ K C&&OG K (.ref C)
noncomputable def bmB (K:Nz) (b:NL):Bool:=decide (Od K NU "__builtins__"=some (some (.ref b)))&&decide (b≠P4)&&(match K.lookup b with
 | some ⟨.type "module",some d,.plain,_⟩=>d==P4
 | _=>false)
noncomputable def K5 (K:Nz) (C D:NL):Bool:=match K.lookup C with
 | some ⟨_,_,.cls cd,_⟩=>cd.mro.contains (.ref D)
 | _=>false
noncomputable def G5 (K:Nz) (c:Str) (C:NL):Bool:=decide (Od K NU c=some (some (.ref C)))&&PySem.W.excIn K C [.type "ValueError",.type "Exception",.type "BaseException",.type "object"] "ValueError.__new__"
noncomputable def K6 (K:Nz) (D:NL) (xs:List (Str×NL)) (c:Str) (C:NL):Bool:=G5 K c C&&K5 K C D&&decide (N9 K (.ref C) "__getattribute__"=some (some (.builtin "BaseException.__getattribute__")))&&decide (N9 K (.ref C) "__getattr__"=some none) &&
 decide (Q9 K C (.type "BaseException")=some true)&&Pf K C&&decide (N9 K (.ref C) "__class__"=some (some (.builtin "object.__class__")))&&decide (TR K (.builtin "object.__class__") "__get__"=some (some (.builtin "getset_descriptor.__get__"))) &&
 decide (Ul K (.builtin "object.__class__")=some true)&&decide (Q9 K C (.type "object")=some true)&&decide (OZ K (.ref C) (.type "ValueError")=some true)&&xs.all fun q=>decide (OZ K (.ref C) (.ref q.2)=some (q.1==c))
noncomputable def K7 (K:Nz) (D:NL) (xs:List (Str×NL)):Bool:=G5 K "TapeError" D&&xs.all fun q=>K6 K D xs q.1 q.2
noncomputable def fS (K:Nz):Qy->Ov
 | .fn x f _=>.fn (refOf (Od K NU x)) (Av K f)
 | .int x _=>.int (match Od K NU x with | some (some v)=>intOf v | _=>none)
 | .tup x f _=>.seq (refOf (Od K NU x)) ((K.lookup f).map shp) ((K.lookup f).bind sU)
 | .dct x f _=>.dct (refOf (Od K NU x)) ((K.lookup f).map shp) ((K.lookup f).bind Dc)
 | .no x=>.b (decide (Od K NU x=some none))
 | .cls c C=>.b (KZ K c C)
 | .me C m _ _ f _=>.fn (if meB K C m f then some f else none) (Av K f)
 | .mk C=>.b (mkB K C)
 | .tab x c P=>.b (decide (OY K x=some (c,P))&&Rq K c P)
 | .bm b=>.b (bmB K b)
 | .fv x f=>.b (decide (Od K NU x=some (some (.ref f)))&&OG K (.ref f))
 | .exc D xs=>.b (K7 K D xs)
 | .str x _=>.seq none none (match Od K NU x with | some (some v)=>some [strOf v] | _=>none)
 | .stp f _=>.seq none ((K.lookup f).map shp) ((K.lookup f).bind sU)
 | .dtp x f _=>.dct (refOf (Od K NU x)) ((K.lookup f).map shp) ((K.lookup f).bind Dd)
noncomputable def fT (w:N7):Qy->Ov
 | .fn x f st=>.fn (some f) (some (sR x x st))
 | .int _ n=>.int (some n)
 | .tup _ f xs=>.seq (some f) (some (.type "tuple",none,0)) (some (xs.map some))
 | .dct _ f kvs=>.dct (some f) (some (.type "dict",none,0)) (some (kvs.map fun q=>(PyData.keyHash w.params q.1,some q.1,some q.2)))
 | .no _=>.b true
 | .cls _ _=>.b true
 | .me _ _ x qual f st=>.fn (some f) (some (sR x qual st))
 | .mk _=>.b true
 | .tab _ _ _=>.b true
 | .bm _=>.b true
 | .fv _ _=>.b true
 | .exc _ _=>.b true
 | .str _ s=>.seq none none (some [some s])
 | .stp f xs=>.seq none (some (.type "tuple",none,0)) (some (xs.map some))
 | .dtp _ f kvs=>.dct (some f) (some (.type "dict",none,0)) (some (kvs.map fun q=>(PyData.keyHash w.params q.1,some q.1,some (q.2:Int))))
noncomputable def KOf (as:List NL) (h:Heap):Nz:=as.map fun a=>(a,(h.get? a).getD default)
noncomputable def sees (as:List NL) (qs:List Qy) (ts:List NL):PySem.W.Hook where
 α:=Bool×List Ov×List (Option Obj)
 obs:=fun s=>(as.all fun a=>(s.heap.get? a).isSome,qs.map (fS (KOf as s.heap)),ts.map s.heap.get?)
 val:=fun w=>(true,qs.map (fT w),ts.map fun _=>some (QT #[]))
 says:=fun w h=>∃ K:Nz,K.map (·.1)=as/\(∀ p∈K,h.get? p.1=some p.2)/\(∀ q∈qs,fS K q=fT w q)/\∀ P∈ts,h.get? P=some (QT #[])
 of:=fun w s e=>by
  have e1:=congrArg Prod.fst e
  have e2:=congrArg (fun p=>p.2.1) e
  have e3:=congrArg (fun p=>p.2.2) e
  refine ⟨KOf as s.heap,by simp[KOf,Function.comp_def],fun p hp=>?_,fun q hq=>List.map_inj_left.mp e2 q hq,fun P hP=>List.map_inj_left.mp e3 P hP⟩
  obtain ⟨a,ha,rfl⟩:=List.mem_map.mp hp
  have h1:=List.all_eq_true.mp e1 a ha
  obtain ⟨o,ho⟩:=Option.isSome_iff_exists.mp h1
  show s.heap.get? a=some ((s.heap.get? a).getD default)
  rw[ho];rfl
 keeps:=fun w h h' ⟨K,m,n,k,t⟩ hk=>⟨K,m,fun p hp=>hk _ _ (n p hp),k,fun P hP=>hk _ _ (t P hP)⟩
end BG
end
section
namespace BL
open PySem PySem.Spec PyProof.Rows L2 BG
noncomputable abbrev pg:NT:=PySem.Challenge.pw_backtape_k01_known
noncomputable def qg:NT:=PySem.W.view pg [1,2,3,4,5,6,7,8,9,10,11,12,13,14,15,16,17,19,20,21,22,23,24,25,26,27,28,29,30,31,32,33]
noncomputable abbrev loo:List Str:=["INNER_COUNTS","ROW_FORMS"]
noncomputable def top (i:Nat):RX:=pg.main.body.getD i (.Pass ⟨0,0,0,0⟩)
noncomputable def G6:RX->List RX
 | .ClassDef _ _ _ b _ _ _ _ _ _ _=>b
 | _=>[]
noncomputable def Nn (i j:Nat):RX:=(G6 (top i)).getD j (.Pass ⟨0,0,0,0⟩)
noncomputable def K8:RX->Pos
 | .FunctionDef _ _ _ _ _ _ _ _ _ p=>p
 | _=>⟨0,0,0,0⟩
noncomputable abbrev adr:List NL:=[3,15,16,17,18,19,20,21,22,23,24,25,26,32,33,39,40,46,47,53,54,60,61,67,68,74,75,81,82,88,89,93,94,98,99,105,106,112,113,119,120,126,127,131,132,136,137,143,144,150,151,157,158,164,165,171,172,178,179,183,184,188,189,193,194]
noncomputable def qys:List Qy:=[.fn "is_whole" 33 (top 7),
 .fn "is_worth" 40 (top 8),
 .fn "is_name" 47 (top 9),
 .fn "is_place" 54 (top 10),
 .fn "first_word" 61 (top 11),
 .fn "inner_sums" 68 (top 12),
 .fn "has_sum_form" 75 (top 13),
 .fn "is_sum" 82 (top 14),
 .fn "fits" 89 (top 15),
 .fn "is_row" 94 (top 16),
 .fn "is_program" 99 (top 17),
 .fn "_law_cell" 106 (top 19),
 .fn "_law_drawn" 113 (top 20),
 .fn "_law_sum" 120 (top 21),
 .fn "_law_row" 127 (top 22),
 .fn "_law_program" 132 (top 23),
 .fn "_law_asked" 137 (top 24),
 .fn "_law_odd" 144 (top 25),
 .fn "_law_spoilt" 151 (top 26),
 .fn "_law_is_worth" 158 (top 27),
 .fn "_law_left" 165 (top 28),
 .fn "_law_is_sum" 172 (top 29),
 .fn "_law_is_row" 179 (top 30),
 .fn "_law_is_program" 184 (top 31),
 .fn "_law_each" 189 (top 32),
 .fn "law" 194 (top 33),
 .int "WORTH_COUNT" 10007,
 .int "MOST_PARTS" 15,
 .int "MOST_ROWS" 20,
 .tup "LETTERS" 15 ["a","b","c","d","e","f"],
 .dct "INNER_COUNTS" 16 [("num",0),("name",0),("cell",1),("add",2),("sub",2),("mul",2),("less",2)],
 .dtp "ROW_FORMS" 17 [("set",18),("put",19),("ask",20),("say",21),("jump",22),("unless",23),("call",24),("back",25),("stop",26)],
 .stp 18 ["name","sum"],
 .stp 19 ["sum","sum"],
 .stp 20 ["name"],
 .stp 21 ["sum"],
 .stp 22 ["place"],
 .stp 23 ["sum","place"],
 .stp 24 ["place"],
 .stp 25 [],
 .stp 26 [],
 .no "len",
 .no "abs",
 .no "int",
 .no "list",
 .no "tuple",
 .no "isinstance",
 .no "str",
 .no "bool",
 .no "range",
 .no "reversed",
 .no "enumerate",
 .no "zip",
 .no "min",
 .no "max",
 .no "sorted",
 .no "sum",
 .no "all",
 .no "any",
 .no "set",
 .no "ValueError",
 .no "dict",
 .no "worths_of",
 .no "last_change",
 .no "next_change",
 .no "moments_so",
 .no "last_so",
 .no "next_so",
 .no "visits",
 .no "last_visit",
 .no "when_said",
 .no "next_within",
 .no "last_within",
 .no "first_other",
 .no "writer_of",
 .no "judged",
 .no "remade"]
noncomputable abbrev tl:List (Str×NL×NL):=[]
noncomputable abbrev tas:List NL:=[]
noncomputable abbrev LA:N7->Prop:=BR.LA treeTable pg qg loo (Rh pg.main.body) (fun s=>SL qg [] s&&Sk [] s) true 2338
theorem la0 (w:N7):LA (w.withFollow "special-get-raises" false):=by unfold LA BR.LA;kernel_rfl
theorem la1 (w:N7):LA (w.withFollow "special-get-raises" true):=by unfold LA BR.LA;kernel_rfl
noncomputable abbrev LB:N7->Prop:=BR.LB treeTable pg qg loo (Rh pg.main.body) (fun s=>SL qg [] s&&Sk [] s) true 2338
theorem lb0 (w:N7):LB (w.withFollow "special-get-raises" false):=by unfold LB BR.LB;kernel_rfl
theorem lb1 (w:N7):LB (w.withFollow "special-get-raises" true):=by unfold LB BR.LB;kernel_rfl
noncomputable abbrev LO:N7->Prop:=BR.LO treeTable pg 2338 (sees adr qys tas).obs (sees adr qys tas).val
theorem lo0 (w:N7):LO (w.withFollow "special-get-raises" false):=by unfold LO BR.LO;kernel_rfl
theorem lo1 (w:N7):LO (w.withFollow "special-get-raises" true):=by unfold LO BR.LO;kernel_rfl
theorem left:PySem.W.LeftO pg qg loo (fun s=>SL qg [] s&&Sk [] s) (sees adr qys tas).obs (sees adr qys tas).val 2338:=fun w=>BR.Au (RY (P:=LA) "special-get-raises" la0 la1 w) (RY (P:=LB) "special-get-raises" lb0 lb1 w) (RY (P:=LO) "special-get-raises" lo0 lo1 w)
end BL
end
section
namespace L2
open PySem PySem.Spec PyProof.Rows
noncomputable abbrev Key:=Sum Int Str
noncomputable def iN:Key->Value->Bool
 | .inl k,v=>Value.isInt k v
 | .inr x,v=>Qg x v
noncomputable def G7 (w:N7):Key->Int
 | .inl k=>hashInt k
 | .inr x=>hashStr w x
theorem dw:∀ {k:Key}{v:Value},iN k v=true->(∃ i t,k=Sum.inl i/\v=Ri i t)\/(∃ x t,k=Sum.inr x/\v=Te x t)
 | .inl i,v,h=>by
  obtain ⟨t,e⟩:=Value.isInt_shape (k:=i) (v:=v) h
  exact .inl ⟨i,t,rfl,e⟩
 | .inr x,v,h=>by
  obtain ⟨t,e⟩:=Value.isStrOf_shape (x:=x) (v:=v) h
  exact .inr ⟨x,t,rfl,e⟩
theorem vd (i:Int) (t:Tok):iN (.inl i) (.int i t)=true:=by simp[iN,Value.isInt]
theorem ve (x:Str) (t:Tok):iN (.inr x) (.str x t)=true:=by simp[iN,Qg]
theorem DM (a b:Int):decide ((Sum.inl a:Key)=Sum.inl b)=(a==b):=by
 by_cases e:a=b
 ·subst e;simp
 ·have h:¬ (Sum.inl a:Key)=Sum.inl b:=fun q=>e (Sum.inl.inj q)
  rw[decide_eq_false h]
  exact (beq_eq_false_iff_ne.mpr e).symm
theorem DN (a b:Str):decide ((Sum.inr a:Key)=Sum.inr b)=decide (a=b):=by
 by_cases e:a=b
 ·subst e;simp
 ·have h:¬ (Sum.inr a:Key)=Sum.inr b:=fun q=>e (Sum.inr.inj q)
  rw[decide_eq_false h,decide_eq_false e]
theorem DO (a:Int) (b:Str):decide ((Sum.inl a:Key)=Sum.inr b)=false:=decide_eq_false (fun q=>nomatch q)
theorem DP (a:Str) (b:Int):decide ((Sum.inr a:Key)=Sum.inl b)=false:=decide_eq_false (fun q=>nomatch q)
noncomputable def c8 (prog:NT) (w:N7):PySem.KeyKind prog w Key where
 is:=iN
 hash:=G7 w
 inj:=fun v a b ha hb=>by
  rcases dw ha with ⟨i,t,rfl,rfl⟩ | ⟨x,t,rfl,rfl⟩
  ·rcases dw hb with ⟨j,u,rfl,e⟩ | ⟨y,u,rfl,e⟩
   ·injection e with e1 _;rw[e1]
   ·exact nomatch e
  ·rcases dw hb with ⟨j,u,rfl,e⟩ | ⟨y,u,rfl,e⟩
   ·exact nomatch e
   ·injection e with e1 _;rw[e1]
 byValue:=fun k v h=>by
  rcases dw h with ⟨i,t,rfl,rfl⟩ | ⟨x,t,rfl,rfl⟩<;>rfl
 pyHash:=fun hv h=>by
  rcases dw hv with ⟨i,t,rfl,rfl⟩ | ⟨x,t,rfl,rfl⟩
  ·exact wpAny_pyHash_int h
  ·exact wpAny_pyHash_str h
 eqBool:=fun hu hv h=>by
  rcases dw hu with ⟨i,t,rfl,rfl⟩ | ⟨x,t,rfl,rfl⟩
  ·rcases dw hv with ⟨j,u,rfl,rfl⟩ | ⟨y,u,rfl,rfl⟩
   ·rw[DM] at h;exact wpAny_eqBool_int h
   ·rw[DO] at h;exact SeqAt.EqAt.int_str i t y u _ _ _ _ h
  ·rcases dw hv with ⟨j,u,rfl,rfl⟩ | ⟨y,u,rfl,rfl⟩
   ·rw[DP] at h;exact SeqAt.EqAt.str_int x t j u _ _ _ _ h
   ·rw[DN] at h;exact wpAny_eqBool_str h
 «strs»:=fun k x t v h=>by
  rcases dw h with ⟨i,u,rfl,e⟩ | ⟨y,u,rfl,e⟩
  ·exact nomatch e
  ·injection e with e1 _
   subst e1
   cases v<;>rfl
theorem pW (prog:NT) (w:N7) (i:Int) (t:Tok):(c8 prog w).is (.inl i) (.int i t)=true:=vd i t
theorem d9 (prog:NT) (w:N7) (x:Str) (t:Tok):(c8 prog w).is (.inr x) (.str x t)=true:=ve x t
end L2
namespace L2
open PySem PySem.Spec PyProof.Rows
inductive V where
 | non | bl (b:Bool) | int (i:Int) | str (x:Str) | byt (b:Array UInt8) | flt (b:UInt64) | ref (a:NL) | ty (n:String)
 deriving DecidableEq
noncomputable def RelV:V->Value->Prop
 | .non,u=>u=Pz
 | .bl b,u=>u=Qz b
 | .int i,u=>∃ t,u=Ri i t
 | .str x,u=>∃ t,u=Te x t
 | .byt b,u=>∃ t,u=Value.bytes b t
 | .flt b,u=>∃ t,u=Value.float b t
 | .ref a,u=>u=OS a
 | .ty n,u=>u=Value.type n
noncomputable abbrev cZ:List V->List Value->Prop:=Paired RelV
theorem cZ.length {xs:List V}{us:List Value} (r:cZ xs us):xs.length=us.length:=Paired.length r
theorem cZ.get:∀ {xs:List V}{us:List Value}{i:Nat}{x:V},cZ xs us->xs[i]?=some x->∃ u,us[i]?=some u/\RelV x u
 | _,_,_,_,.nil,e=>by simp at e
 | _,_,0,_,.cons r _,e=>by simp at e;subst e;exact ⟨_,rfl,r⟩
 | _,_,i+1,x,.cons _ t,e=>by
  obtain ⟨u,h1,h2⟩:=cZ.get (i:=i) (x:=x) t (by simpa using e)
  exact ⟨u,by simpa using h1,h2⟩
theorem cZ.set {x:V}{u:Value} (r:RelV x u):∀ {xs:List V}{us:List Value} (i:Nat),cZ xs us->cZ (xs.set i x) (us.set i u)
 | _,_,_,.nil=>.nil
 | _,_,0,.cons _ t=>.cons r t
 | _,_,i+1,.cons q t=>.cons q (cZ.set r i t)
theorem cZ.append:∀ {xs ys:List V}{us ws:List Value},cZ xs us->cZ ys ws->cZ (xs++ys) (us++ws)
 | _,_,_,_,.nil,s=>s
 | _,_,_,_,.cons r t,s=>.cons r (cZ.append t s)
theorem cZ.take:∀ {xs:List V}{us:List Value} (n:Nat),cZ xs us->cZ (xs.take n) (us.take n)
 | _,_,0,_=>.nil
 | _,_,_+1,.nil=>.nil
 | _,_,n+1,.cons r t=>.cons r (cZ.take n t)
theorem cZ.drop:∀ {xs:List V}{us:List Value} (n:Nat),cZ xs us->cZ (xs.drop n) (us.drop n)
 | _,_,0,r=>r
 | _,_,_+1,.nil=>.nil
 | _,_,n+1,.cons _ t=>cZ.drop n t
noncomputable def lM:Option V->Option Value->Prop
 | some v,some u=>RelV v u
 | none,none=>True
 | _,_=>False
noncomputable def KV {κ:Type}:List (κ×V)->List (κ×Value)->Prop:=Paired fun (p:κ×V) (q:κ×Value)=>p.1=q.1/\RelV p.2 q.2
noncomputable def kV:Key->V
 | .inl i=>.int i
 | .inr x=>.str x
inductive HO where
 | lst (xs:List V)
 | tup (xs:List V)
 | dK (kvs:List (Key×V)) | dT (kvs:List (List Key×V))
 | set (S:Int->Bool) (n:Nat)
 | ins (C dx:NL) (fs:List (Str×V))
 | own (x:NL)
 | xd (fs:List (Str×V))
 | met (f x:NL)
 | rng (lo hi:Int)
 | frz (o:Obj) (u:HO)
 | tbl (ps:Array Value)
 | ext (φ:Heap->Prop)
noncomputable abbrev Hp:=NL->Option HO
noncomputable def upd (H:Hp) (a:NL) (o:HO):Hp:=fun b=>if b=a then some o else H b
theorem dU {H:Hp}{a:NL}{o:HO}:upd H a o a=some o:=by unfold upd;rw[if_pos rfl]
theorem dg {H:Hp}{a b:NL}{o:HO} (h:b≠a):upd H a o b=H b:=by unfold upd;rw[if_neg h]
theorem dP {H:Hp}{a b:NL}{o:HO} (h:H a=some o) (h':H b=none):a≠b:=by
 intro e;subst e;rw[h] at h';cases h'
section
variable (P:NT) (w:N7)
noncomputable def fG (H:Hp) (h:Heap) (a:NL):HO->Prop
 | .lst xs=>xs.length<=sizeLine/\∃ (its:List Value) (n:Nat),cZ xs its/\h.get? a=some { cls:=.type "list",data:=.seq its.toArray n }
 | .tup xs=>xs.length<=sizeLine/\∃ its:List Value,cZ xs its/\IsTup h a its.toArray
 | .dK kvs=>kvs.length<=sizeLine/\(a==O9)=false/\∃ vs,KV kvs vs/\h.DictOf (c8 P w) a vs
 | .dT kvs=>kvs.length<=sizeLine/\(a==O9)=false/\∃ xs:List (List Key×NL×Value),
  Paired (fun (p:List Key×V) (q:List Key×NL×Value)=>p.1=q.1/\H q.2.1=some (.tup (p.1.map kV))/\RelV p.2 q.2.2) kvs xs ∧
  ∃ o es ep,h.get? a=some o/\o.ExactDict/\o.data=.dict es ep/\es.toList=xs.map (entryOfKey (tupleKind (c8 P w)))/\(xs.map (·.1)).Nodup
 | .set S n=>h.SetOf (intKind P w) a S n
 | .ins C dx fs=>H dx=some (.own a)/\fs.length<=1000/\dx≠a/\h.get? a=some (O1 C dx) ∧
  ∃ mA,h.Ns1 dx mA/\(∀ f,lM (fs.lookup f) (mA f))/\Tf mA (fs.map (·.1))
 | .own _=>∃ o,h.get? a=some o
 | .xd fs=>∃ mA,h.Ns1 a mA/\∀ f,lM (fs.lookup f) (mA f)
 | .rng lo hi=>∃ t u v,h.get? a=some { cls:=.type "range",data:=.fields #[.int lo t,.int hi u,.int 1 v] }
 | .frz o u=>h.get? a=some o/\fG H h a u
 | .tbl ps=>h.get? a=some { cls:=.none,data:=.fields ps }
 | .met f x=>h.get? a=some (Rk (.ref f) (.ref x))
 | .ext φ=>φ h/\(∃ o,h.get? a=some o)/\∀ h1 h2:Heap,φ h1->(∀ o,h1.get? a=some o->h2.get? a=some o)->φ h2
noncomputable def HOk (H:Hp) (h:Heap):Prop:=∀ a o,H a=some o->fG P w H h a o
end
section
variable {P:NT}{w:N7}{H H':Hp}{h h':Heap}{a:NL}{o:HO}
theorem fG.lt (x:fG P w H h a o):a < h.objs.size:=by
 cases o with
 | lst xs=>obtain ⟨_,_,_,_,e⟩:=x;exact NK e
 | tup xs=>obtain ⟨_,_,_,p⟩:=x;exact p.lt
 | dK kvs=>obtain ⟨_,_,_,_,o,_,_,e,_⟩:=x;exact NK e
 | dT kvs=>obtain ⟨_,_,_,_,o,_,_,e,_⟩:=x;exact NK e
 | set S n=>obtain ⟨o,_,_,_,e,_⟩:=x;exact NK e
 | ins C dx fs=>obtain ⟨_,_,_,e,_⟩:=x;exact NK e
 | own y=>obtain ⟨_,e⟩:=x;exact NK e
 | xd fs=>obtain ⟨_,⟨_,_,_,e,_⟩,_⟩:=x;exact NK e
 | rng lo hi=>obtain ⟨_,_,_,e⟩:=x;exact NK e
 | frz ob u=>obtain ⟨e,_⟩:=x;exact NK e
 | tbl ps=>exact NK (show h.get? a=some _ from x)
 | met f y=>exact NK (show h.get? a=some _ from x)
 | ext φ=>obtain ⟨_,⟨_,e⟩,_⟩:=x;exact NK e
theorem Paired.G8 {α β:Type}{F G:α->β->Prop}:∀ {l₁:List α}{l₂:List β},Paired F l₁ l₂->(∀ a b,F a b->G a b)->Paired G l₁ l₂
 | _,_,.nil,_=>.nil
 | _,_,.cons r t,f=>.cons (f _ _ r) (Paired.G8 t f)
theorem fG.stay (x:fG P w H h a o) (k:∀ b u,(b=a\/H b=some (.own a))->h.get? b=some u->h'.get? b=some u)
 (ho:∀ b,H b=some (.own a)->H' b=some (.own a)) (ht:∀ b xs,H b=some (.tup xs)->H' b=some (.tup xs)):fG P w H' h' a o:=by
 induction o with
 | lst xs=>obtain ⟨z,its,n,r,e⟩:=x;exact ⟨z,its,n,r,k _ _ (.inl rfl) e⟩
 | tup xs=>obtain ⟨z,its,r,ob,e,c⟩:=x;exact ⟨z,its,r,ob,k _ _ (.inl rfl) e,c⟩
 | dK kvs=>obtain ⟨z,y,vs,r,ob,es,ep,e,c⟩:=x;exact ⟨z,y,vs,r,ob,es,ep,k _ _ (.inl rfl) e,c⟩
 | dT kvs =>
  obtain ⟨z,y,xs,r,ob,es,ep,e,c⟩:=x
  exact ⟨z,y,xs,Paired.G8 r fun p q z=>⟨z.1,ht _ _ z.2.1,z.2.2⟩,ob,es,ep,k _ _ (.inl rfl) e,c⟩
 | set S n=>obtain ⟨ob,es,ep,t,e,c⟩:=x;exact ⟨ob,es,ep,t,k _ _ (.inl rfl) e,c⟩
 | ins C dx fs =>
  obtain ⟨d,z,ne,e,mA,⟨od,es,ep,e2,c⟩,r⟩:=x
  exact ⟨ho _ d,z,ne,k _ _ (.inl rfl) e,mA,⟨od,es,ep,k _ _ (.inr d) e2,c⟩,r⟩
 | own y=>obtain ⟨ob,e⟩:=x;exact ⟨ob,k _ _ (.inl rfl) e⟩
 | xd fs=>obtain ⟨mA,⟨od,es,ep,e,c⟩,r⟩:=x;exact ⟨mA,⟨od,es,ep,k _ _ (.inl rfl) e,c⟩,r⟩
 | rng lo hi=>obtain ⟨t,u,v,e⟩:=x;exact ⟨t,u,v,k _ _ (.inl rfl) e⟩
 | frz ob u ih=>obtain ⟨e,q⟩:=x;exact ⟨k _ _ (.inl rfl) e,ih q⟩
 | tbl ps =>
  have e:h.get? a=some { cls:=.none,data:=.fields ps }:=x
  show h'.get? a=some { cls:=.none,data:=.fields ps }
  exact k a _ (.inl rfl) e
 | met f y =>
  have e:h.get? a=some (Rk (.ref f) (.ref y)):=x
  show h'.get? a=some (Rk (.ref f) (.ref y))
  exact k a _ (.inl rfl) e
 | ext φ=>obtain ⟨p,⟨o,e⟩,st⟩:=x;exact ⟨st _ _ p fun o q=>k _ _ (.inl rfl) q,⟨o,k _ _ (.inl rfl) e⟩,st⟩
theorem HOk.lt (x:HOk P w H h) (e:H a=some o):a < h.objs.size:=(x a o e).lt
theorem HOk.fresh (x:HOk P w H h) (e:h.objs.size<=a):H a=none:=by
 cases q:H a with
 | none=>rfl
 | some u=>exact absurd (N4 (x.lt q) e) (Pa _)
theorem HOk.kept (x:HOk P w H h) (k:∀ b u,h.get? b=some u->h'.get? b=some u):HOk P w H h':=fun a o e =>
 (x a o e).stay (fun b u _ q=>k b u q) (fun _ q=>q) fun _ _ q=>q
theorem HOk.laid (x:HOk P w H h) (k:∀ b u,h.get? b=some u->h'.get? b=some u) (hp:h.objs.size<=a) (new:fG P w (upd H a o) h' a o):HOk P w (upd H a o) h':=fun b u e=>by
 have hn:=x.fresh hp
 by_cases hb:b=a
 ·subst hb;rw[dU] at e;cases e;exact new
 ·rw[dg hb] at e
  exact (x b u e).stay (fun c v _ q=>k c v q) (fun c q=>by rw[dg (dP q hn)];exact q) fun c xs q=>by rw[dg (dP q hn)];exact q
end
noncomputable def Rd (H:Hp) (a:NL) (u:HO):Prop:=H a=some u\/∃ o,H a=some (.frz o u)
theorem Rd.ok {P:NT}{w:N7}{H:Hp}{h:Heap}{a:NL}{u:HO} (r:Rd H a u) (x:HOk P w H h):fG P w H h a u:=by
 rcases r with r | ⟨o,r⟩
 ·exact x a u r
 ·obtain ⟨_,q⟩:=x a _ r
  exact q
noncomputable def Mut:Option HO->Prop
 | some (.lst _)=>True
 | some (.dK _)=>True
 | some (.dT _)=>True
 | some (.set _ _)=>True
 | some (.ins _ _ _)=>True
 | some (.ext _)=>True
 | _=>False
section
variable {P:NT}{w:N7}{H:Hp}{h h':Heap}{x e:NL}{o':HO}
theorem HOk.write (ok:HOk P w H h) (mu:Mut (H x)) (he:e=x\/H e=some (.own x)) (k:∀ b u,b≠e->h.get? b=some u->h'.get? b=some u) (heo:∃ u,h'.get? e=some u)
 (new:fG P w (upd H x o') h' x o'):HOk P w (upd H x o') h':=fun b u q=>by
 have nown:∀ c y,H c=some (.own y)->c≠x:=fun c y r z=>by subst z;rw[r] at mu;exact mu
 have ntup:∀ c xs,H c=some (.tup xs)->c≠x:=fun c xs r z=>by subst z;rw[r] at mu;exact mu
 by_cases hb:b=x
 ·subst hb;rw[dU] at q;cases q;exact new
 ·rw[dg hb] at q
  by_cases hbe:b=e
  ·have q':H b=some (.own x):=by
    rcases he with z | z
    ·exact absurd (hbe.trans z) hb
    ·rw[hbe];exact z
   rw[q] at q';cases q'
   obtain ⟨v,hv⟩:=heo
   exact ⟨v,by rw[hbe];exact hv⟩
  ·refine (ok b u q).stay (fun c v hc r=>k c v ?_ r) (fun c r=>by rw[dg (nown c b r)];exact r) fun c xs r=>by rw[dg (ntup c xs r)];exact r
   rcases hc with rfl | hc
   ·exact hbe
   ·rintro rfl
    rcases he with z | z
    ·exact nown c b hc z
    ·rw[hc] at z;cases z;exact hb rfl
end
structure Un (fs ex:List NL) (H H':Hp) (h h':Heap):Prop where
 keep:∀ b o,h.get? b=some o->H b=none->b∉fs->b∉ex->h'.get? b=some o
 slot:∀ b o,h.get? b=some o->H b=none->b∈fs->b∉ex->∃ sl,h'.get? b=some { o with slots:=sl }
 free:∀ b o,h.get? b=some o->H b=none->b∉ex->H' b=none
 there:∀ b o,h.get? b=some o->b∉ex->∃ o',h'.get? b=some o'
 tups:∀ b xs,H b=some (.tup xs)->H' b=some (.tup xs)
 frzs:∀ b o u,H b=some (.frz o u)->H' b=some (.frz o u)
 tbls:∀ b ps,H b=some (.tbl ps)->∃ more,H' b=some (.tbl (ps++more))
section
variable {fs fs' ex ex':List NL}{H H1 H2:Hp}{h h1 h2 h':Heap}{a x e:NL}{o:HO}
theorem Un.any (u:Un fs ex H H1 h h1) {b:NL}{ob:Obj} (q:h.get? b=some ob) (n:H b=none) (hx:b∉ex):∃ sl,h1.get? b=some { ob with slots:=sl }:=by
 by_cases hb:b∈fs
 ·exact u.slot b ob q n hb hx
 ·exact ⟨ob.slots,u.keep b ob q n hb hx⟩
theorem Un.kept (k:∀ b u,h.get? b=some u->h'.get? b=some u):Un fs ex H H h h' :=
 ⟨fun b ob q _ _ _=>k b ob q,fun b ob q _ _ _=>⟨ob.slots,k b ob q⟩,fun _ _ _ n _=>n,fun b ob q _=>⟨ob,k b ob q⟩,fun _ _ q=>q,fun _ _ _ q=>q,fun _ ps q=>⟨#[],by rw[q];simp⟩⟩
theorem Un.refl:Un fs ex H H h h:=Un.kept fun _ _ q=>q
theorem Un.laid (k:∀ b u,h.get? b=some u->h'.get? b=some u) (hp:h.objs.size<=a) (hn:H a=none):Un fs ex H (upd H a o) h h' where
 keep:=fun b u q _ _ _=>k b u q
 slot:=fun b u q _ _ _=>⟨u.slots,k b u q⟩
 free:=fun b u q n _=>by rw[dg (N1 (N4 (NK q) hp))];exact n
 there:=fun b u q _=>⟨u,k b u q⟩
 tups:=fun b xs q=>by rw[dg (dP q hn)];exact q
 frzs:=fun b u xs q=>by rw[dg (dP q hn)];exact q
 tbls:=fun b ps q=>⟨#[],by rw[dg (dP q hn),q];simp⟩
theorem Un.write (mu:Mut (H x)) (he:e=x\/H e=some (.own x)) (k:∀ b u,b≠e->h.get? b=some u->h'.get? b=some u) (heo:∃ u,h'.get? e=some u):Un fs ex H (upd H x o) h h':=by
 have hx:∀ b,H b=none->b≠x:=fun b n z=>by subst z;rw[n] at mu;exact mu
 have hb:∀ b,H b=none->b≠e:=fun b n z=>by
  subst z
  rcases he with r | r
  ·exact hx b n r
  ·rw[n] at r;cases r
 have hm:∀ b u,H b=some u->¬ Mut (some u)->b≠x:=fun b u q nm z=>by subst z;rw[q] at mu;exact nm mu
 refine ⟨fun b u q n _ _=>k b u (hb b n) q,fun b u q n _ _=>⟨u.slots,k b u (hb b n) q⟩,fun b u q n _=>by rw[dg (hx b n)];exact n,fun b u q _=>?_,
  fun b xs q=>by rw[dg (hm b _ q fun z=>z)];exact q,fun b u xs q=>by rw[dg (hm b _ q fun z=>z)];exact q,fun b ps q=>⟨#[],by rw[dg (hm b _ q fun z=>z),q];simp⟩⟩
 by_cases hbe:b=e
 ·subst hbe;exact heo
 ·exact ⟨u,k b u hbe q⟩
end
noncomputable def trk (h:Heap) (H:Hp):List NL:=(OR h.objs.size).filter fun a=>(H a).isSome
noncomputable def pX (h:Heap) (H:Hp):Heap:=PySem.W.hideAll h (trk h H)
theorem vf (h:Heap) (H:Hp):(pX h H).objs.size=h.objs.size:=PySem.W.hideAll_size _ _
theorem pY {h:Heap}{H:Hp}{b:NL}{o:Obj} (e:h.get? b=some o) (n:H b=none):(pX h H).get? b=some o :=
 PySem.W.hideAll_get _ e fun hm=>by
  have q:(H b).isSome=true:=(List.mem_filter.mp hm).2
  rw[n] at q;simp at q
theorem Aw {h:Heap}{H:Hp}{b:NL}{o:Obj} (e:(pX h H).get? b=some o):h.get? b=some o/\H b=none:=by
 have e':h.get? b=some o:=PySem.W.of_hideAll (trk h H) e
 refine ⟨e',?_⟩
 cases q:H b with
 | none=>rfl
 | some x =>
  have hm:b∈trk h H:=List.mem_filter.mpr ⟨List.mem_range.mpr (NK e'),by simp[q]⟩
  have z:(pX h H).get? b=none:=PySem.W.hideAll_none (trk h H) hm
  rw[z] at e;cases e
noncomputable def Ax (g h:Heap) (L:NL):List (NL×Obj):=(OR h.objs.size).filterMap fun a=>if a=L\/(g.get? a).isSome=true then none else (h.get? a).map fun o=>(a,o)
noncomputable def rest (g h:Heap) (L d:NL):List (NL×Obj):=(Ax g h L).filter fun p=>decide (p.1≠d)
end L2
namespace L2
open PySem PySem.Spec PyProof.Rows
structure Mod (K:Nz) (mg:Str->Option Value) (base:Heap):Prop where
 kin:K.In base
 glob:base.Ns NU mg
 blt:∃ mb,base.Ns P4 mb/\∀ x:Str,x≠"__name__"->mb x=QJ x
 nolimit:base.NoLimit
structure Cx where
 prog:NT
 w:N7
 K:Nz
 mg:Str->Option Value
 base:Heap
 A:Om
 N:List Str
 s₀:ND
 H₀:Hp
 env:Env
 outer:List Env
 stack:List Env
 ex:List NL
 fn:Str->Bool
 calm:Bool
 pn:List (NL×Obj)
 xe:Value->ND->Prop
noncomputable def frs (l:List Env):List NL:=l.filterMap (·.frame)
noncomputable abbrev Cx.fs (X:Cx):List NL:=frs X.outer
noncomputable def Vis (sc:Ow) (x:Str):Prop:=sc.names.lookup x=some .local\/sc.names.lookup x=some .cell\/sc.names.lookup x=some .free
noncomputable def Loc (sc:Ow) (x:Str):Prop:=sc.names.lookup x=some .local\/sc.names.lookup x=some .cell
noncomputable def Look (env:Env) (h:Heap) (m:Str->Option Value) (x:Str) (u:Value):Prop :=
 (env.kindOf x=some .local/\m x=some u)\/((env.kindOf x=some .cell\/env.kindOf x=some .free)/\∃ c,env.cells.lookup x=some c/\h.IsCell c (some u))
structure Cx.Ok (X:Cx):Prop where
 mod:Mod X.K X.mg X.base
 kind:X.env.scope.kind=.function
 glob:X.env.globals=NU
 blt:X.env.builtins=P4
 above:X.s₀.heap.objs.size<=X.env.locals
 inj:∀ x y c,X.env.cells.lookup x=some c->X.env.cells.lookup y=some c->x=y
 has:∀ x,(X.env.kindOf x=some .cell\/X.env.kindOf x=some .free)->∃ c,X.env.cells.lookup x=some c
 cab:∀ x c,X.fn x=true->X.env.cells.lookup x=some c->X.s₀.heap.objs.size<=c
 hd:X.calm=true->X.A.handled=none
 frames:X.A.frames=some X.stack
 stk:X.stack=X.outer\/(X.stack=X.env :: X.outer/\X.env.frame=some X.env.locals)
 exf:∀ b∈X.ex,b≠X.env.locals/\∀ x c,X.env.cells.lookup x=some c->c≠b
 bs:∀ b o,X.base.get? b=some o->X.s₀.heap.get? b=some o/\X.H₀ b=none
 bsz:X.base.objs.size<=X.s₀.heap.objs.size
 noex:∀ b o,X.base.get? b=some o->b∉X.ex
 exfs:∀ b∈X.ex,b∉X.fs
 jK:X.s₀.heap.FunFrames X.base X.outer
 frf:∀ b∈X.fs,X.H₀ b=none
structure Inv (X:Cx) (pins:List (NL×Obj)) (σ:List (Option V)) (H:Hp) (s:ND):Prop where
 ok:X.Ok
 os:s.os=X.s₀.os
 bare:Tv s.gens
 base:Un X.fs X.ex X.H₀ H X.s₀.heap s.heap
 loc:∃ m,s.heap.Ns X.env.locals m/\∀ (i:Nat) (x:Str) (v:V),X.N[i]?=some x->σ[i]?=some (some v)->Vis X.env.scope x->∃ u,RelV v u/\Look X.env s.heap m x u
 cell:∀ x c,X.env.cells.lookup x=some c->∃ v,s.heap.IsCell c v
 free:H X.env.locals=none
 freeC:∀ x c,X.env.cells.lookup x=some c->H c=none
 pin:∀ p∈X.pn++pins,s.heap.get? p.1=some p.2/\H p.1=none/\p.1≠X.env.locals/\p.1∉X.fs/\∀ v,p.2.data≠.cell v
 hok:HOk X.prog X.w H s.heap
 len:σ.length=X.N.length
section
variable {X:Cx}{pins:List (NL×Obj)}{σ:List (Option V)}{H H':Hp}{s:ND}{h':Heap}
theorem Cx.Ok.K9 (ok:X.Ok) {b:NL}{o:Obj} (e:X.base.get? b=some o):b∉X.fs:=fun hb=>by
 have:=(ok.jK.mem hb).1
 rw[e] at this;cases this
theorem Inv.bs (I:Inv X pins σ H s):∀ b o,X.base.get? b=some o->s.heap.get? b=some o/\H b=none:=fun b o e =>
 ⟨I.base.keep b o (I.ok.bs b o e).1 (I.ok.bs b o e).2 (I.ok.K9 e) (I.ok.noex b o e),I.base.free b o (I.ok.bs b o e).1 (I.ok.bs b o e).2 (I.ok.noex b o e)⟩
theorem Inv.bk (I:Inv X pins σ H s):∀ b o,X.base.get? b=some o->s.heap.get? b=some o:=fun b o e=>(I.bs b o e).1
theorem Inv.mod (I:Inv X pins σ H s):Mod X.K X.mg X.base:=I.ok.mod
theorem Inv.kIn (I:Inv X pins σ H s):X.K.In s.heap:=I.ok.mod.kin.keeps I.bk
theorem Inv.lt (I:Inv X pins σ H s):X.env.locals < s.heap.objs.size:=let ⟨_,hn,_⟩:=I.loc;hn.lt
theorem Inv.sz (I:Inv X pins σ H s):X.s₀.heap.objs.size<=s.heap.objs.size:=Ol I.ok.above (PR I.lt)
theorem Inv.La (I:Inv X pins σ H s) {a:NL} (h:s.heap.objs.size<=a):a∉X.fs:=fun hb=>by
 obtain ⟨_,o,ho,_⟩:=I.ok.jK.mem hb
 exact absurd (N4 (NK ho) (Ol I.sz h)) (Pa _)
theorem Inv.cne (I:Inv X pins σ H s):∀ x c,X.env.cells.lookup x=some c->c≠X.env.locals:=fun x c e z=>by
 obtain ⟨v,o,ho,hd⟩:=I.cell x c e
 obtain ⟨m,⟨o',es,ep,ho',hd',_⟩,_⟩:=I.loc
 rw[z,ho'] at ho;cases ho;rw[hd'] at hd;cases hd
theorem Inv.jK (I:Inv X pins σ H s):s.heap.FunFrames X.base X.outer:=by
 have all:∀ (l:List Env),(∀ b∈frs l,b∈X.fs)->X.s₀.heap.FunFrames X.base l->s.heap.FunFrames X.base l:=by
  intro l
  induction l with
  | nil=>intro _ _;trivial
  | cons env r ih =>
   intro hs hl
   obtain ⟨hk,⟨L,o,hf,hn,ho,hd⟩,hr⟩:=hl
   have hL:L∈X.fs:=hs L (by unfold frs;rw[OI,hf];exact NV)
   obtain ⟨sl,e⟩:=I.base.slot L o ho (I.ok.frf L hL) hL fun z=>I.ok.exfs L z hL
   exact ⟨hk,⟨L,_,hf,hn,e,hd⟩,ih (fun b hb=>hs b (by unfold frs;rw[OI,hf];exact NP _ hb)) hr⟩
 exact all X.outer (fun _ hb=>hb) I.ok.jK
theorem Inv.stack (I:Inv X pins σ H s):s.heap.FunFrames X.base X.stack:=by
 rcases I.ok.stk with e | ⟨e,hf⟩
 ·rw[e];exact I.jK
 ·rw[e]
  obtain ⟨m,hn,_⟩:=I.loc
  refine .cons (by rw[I.ok.kind];decide) hf hn ?_ I.jK
  exact Heap.get?_none_of_le (Ol I.ok.bsz I.ok.above)
theorem Inv.n9 (I:Inv X pins σ H s):∀ b∈frs X.stack,b∈X.env.locals :: X.fs:=fun b hb=>by
 rcases I.ok.stk with e | ⟨e,hf⟩
 ·rw[e] at hb;exact NP _ hb
 ·rw[e] at hb
  unfold frs at hb
  rw[OI,hf] at hb
  exact hb
theorem Inv.sW (I:Inv X pins σ H s):∀ b∈frs X.stack,H b=none:=fun b hb=>by
 rcases List.mem_cons.mp (I.n9 b hb) with e | hb
 ·rw[e];exact I.free
 ·obtain ⟨_,o,ho,_⟩:=I.ok.jK.mem hb
  exact I.base.free b o ho (I.ok.frf b hb) fun z=>I.ok.exfs b z hb
theorem Inv.step {g':Array GenState}{t':Nat}{d':Drawn}{ch:List NL} (I:Inv X pins σ H s)
 (hch:∀ b∈ch,(b∈X.ex\/X.s₀.heap.objs.size<=b)/\b≠X.env.locals/\(∀ x c,X.env.cells.lookup x=some c->c≠b)/\∀ p∈X.pn++pins,p.1≠b)
 (keep:∀ b o,b≠X.env.locals->b∉X.fs->b∉ch->s.heap.get? b=some o->H b=none->h'.get? b=some o)
 (slot:∀ b o,b≠X.env.locals->b∈X.fs->b∉ch->s.heap.get? b=some o->H b=none->∃ sl,h'.get? b=some { o with slots:=sl }) (free:∀ b o,b∉ch->s.heap.get? b=some o->H b=none->H' b=none)
 (there:∀ b o,b∉ch->s.heap.get? b=some o->∃ o',h'.get? b=some o')
 (tups:∀ b xs,H b=some (.tup xs)->H' b=some (.tup xs)) (frzs:∀ b o u,H b=some (.frz o u)->H' b=some (.frz o u)) (tbls:∀ b ps,H b=some (.tbl ps)->∃ more,H' b=some (.tbl (ps++more)))
 (ns:∀ m,s.heap.Ns X.env.locals m->h'.Ns X.env.locals m) (hok:HOk X.prog X.w H' h') (hg:Tv g') :
 Inv X pins σ H' { s with heap:=h',gens:=g',drawn:=d',toks:=t' }:=by
 have neL:∀ b o,X.s₀.heap.get? b=some o->b≠X.env.locals:=fun b o e=>N1 (N4 (NK e) I.ok.above)
 have neC:∀ b o,X.s₀.heap.get? b=some o->b∉X.ex->b∉ch:=fun b o e hx hb=>by
  rcases (hch b hb).1 with z | z
  ·exact hx z
  ·exact absurd (N4 (NK e) z) (Pa _)
 have cellK:∀ x c,X.env.cells.lookup x=some c->∀ v,s.heap.IsCell c v->h'.IsCell c v:=fun x c e v ⟨o,ho,hd⟩=>by
  have nch:c∉ch:=fun z=>(hch c z).2.2.1 x c e rfl
  by_cases hc:c∈X.fs
  ·obtain ⟨sl,q⟩:=slot c o (I.cne x c e) hc nch ho (I.freeC x c e)
   exact ⟨_,q,hd⟩
  ·exact ⟨o,keep c o (I.cne x c e) hc nch ho (I.freeC x c e),hd⟩
 refine ⟨I.ok,I.os,hg,⟨fun b o e n hb hx=>?_,fun b o e n hb hx=>?_,fun b o e n hx=>?_,fun b o e hx=>?_,fun b xs e=>tups b xs (I.base.tups b xs e),fun b o xs e=>frzs b o xs (I.base.frzs b o xs e),fun b ps e=>?_⟩,?_,fun x c e=>?_,?_,fun x c e=>?_,fun p hp=>?_,hok,I.len⟩
 ·exact keep b o (neL b o e) hb (neC b o e hx) (I.base.keep b o e n hb hx) (I.base.free b o e n hx)
 ·obtain ⟨sl,e1⟩:=I.base.slot b o e n hb hx
  obtain ⟨sl',e2⟩:=slot b _ (neL b o e) hb (neC b o e hx) e1 (I.base.free b o e n hx)
  exact ⟨sl',e2⟩
 ·obtain ⟨o',e1⟩:=I.base.there b o e hx
  exact free b o' (neC b o e hx) e1 (I.base.free b o e n hx)
 ·obtain ⟨o',e1⟩:=I.base.there b o e hx
  exact there b o' (neC b o e hx) e1
 ·obtain ⟨m1,e1⟩:=I.base.tbls b ps e
  obtain ⟨m2,e2⟩:=tbls b _ e1
  exact ⟨m1++m2,by rw[e2,Array.append_assoc]⟩
 ·obtain ⟨m,hn,hl⟩:=I.loc
  refine ⟨m,ns m hn,fun i x v e1 e2 e3=>?_⟩
  obtain ⟨u,r,l⟩:=hl i x v e1 e2 e3
  refine ⟨u,r,?_⟩
  rcases l with l | ⟨k,c,e,z⟩
  ·exact .inl l
  ·exact .inr ⟨k,c,e,cellK x c e _ z⟩
 ·obtain ⟨v,z⟩:=I.cell x c e
  exact ⟨v,cellK x c e v z⟩
 ·obtain ⟨m,⟨o,_,_,ho,_⟩,_⟩:=I.loc
  exact free _ o (fun z=>(hch _ z).2.1 rfl) ho I.free
 ·obtain ⟨v,o,ho,hd⟩:=I.cell x c e
  exact free c o (fun z=>(hch c z).2.2.1 x c e rfl) ho (I.freeC x c e)
 ·obtain ⟨e,n,ne,nf,d⟩:=I.pin p hp
  have nch:p.1∉ch:=fun z=>(hch p.1 z).2.2.2 p hp rfl
  exact ⟨keep p.1 p.2 ne nf nch e n,free p.1 p.2 nch e n,ne,nf,d⟩
theorem Inv.un {t':Nat} (I:Inv X pins σ H s) (u:Un X.fs [] H H' s.heap h') (hok:HOk X.prog X.w H' h'):Inv X pins σ H' { s with heap:=h',toks:=t' }:=by
 obtain ⟨m,⟨o,es,ep,ho,r⟩,_⟩:=id I.loc
 obtain ⟨sl,hL⟩:=u.any ho I.free (by simp)
 exact I.step (g':=s.gens) (d':=s.drawn) (ch:=[]) (fun _ z=>nomatch z) (fun b o _ hb _ e n=>u.keep b o e n hb (by simp)) (fun b o _ hb _ e n=>u.slot b o e n hb (by simp)) (fun b o _ e n=>u.free b o e n (by simp)) (fun b o _ e=>u.there b o e (by simp)) u.tups u.frzs u.tbls (fun m' hm=>by
  obtain ⟨o',es',ep',ho',r'⟩:=hm
  rw[ho] at ho';cases ho'
  exact ⟨_,es',ep',hL,r'⟩) hok I.bare
theorem Inv.call {g':Array GenState}{t':Nat}{d':Drawn}{ch:List NL} (I:Inv X pins σ H s) (u:Un (frs X.stack) ch H H' s.heap h') (hok:HOk X.prog X.w H' h') (hg:Tv g')
 (hch:∀ b∈ch,(b∈X.ex\/X.s₀.heap.objs.size<=b)/\b≠X.env.locals/\(∀ x c,X.env.cells.lookup x=some c->c≠b)/\∀ p∈X.pn++pins,p.1≠b) :
 Inv X pins σ H' { s with heap:=h',gens:=g',drawn:=d',toks:=t' }:=by
 obtain ⟨m,⟨o,es,ep,ho,r⟩,_⟩:=id I.loc
 obtain ⟨sl,hL⟩:=u.any ho I.free fun z=>(hch _ z).2.1 rfl
 exact I.step (ch:=ch) hch (fun b o hL hb hc e n=>u.keep b o e n (fun z=>(List.mem_cons.mp (I.n9 b z)).elim hL hb) hc) (fun b o _ _ hc e n=>u.any e n hc) (fun b o hc e n=>u.free b o e n hc) (fun b o hc e=>u.there b o e hc) u.tups u.frzs u.tbls (fun m' hm=>by
  obtain ⟨o',es',ep',ho',r'⟩:=hm
  rw[ho] at ho';cases ho'
  exact ⟨_,es',ep',hL,r'⟩) hok hg
theorem Inv.turned {t':Nat}{it:NL} (I:Inv X pins σ H s) (k:∀ b o,b≠it->s.heap.get? b=some o->h'.get? b=some o) (hn:H it=none) (hL:it≠X.env.locals)
 (h1:it∈X.ex\/X.s₀.heap.objs.size<=it) (h2:∀ x c,X.env.cells.lookup x=some c->c≠it) (h3:∀ p∈X.pn++pins,p.1≠it):Inv X pins σ H { s with heap:=h',toks:=t' }:=by
 have nit:∀ b u,H b=some u->b≠it:=fun b u e z=>by rw[z,hn] at e;cases e
 refine I.step (g':=s.gens) (d':=s.drawn) (ch:=[it]) (fun b hb=>?_) (fun b o _ _ hc e _=>k b o (fun z=>hc (by simp[z])) e) (fun b o _ _ hc e _=>⟨o.slots,k b o (fun z=>hc (by simp[z])) e⟩) (fun _ _ _ _ n=>n)
  (fun b o hc e=>⟨o,k b o (fun z=>hc (by simp[z])) e⟩) (fun _ _ e=>e) (fun _ _ _ e=>e) (fun b ps e=>⟨#[],by rw[e];simp⟩) (fun m hm=>?_) (fun b u e=>?_) I.bare
 ·have e:b=it:=by simpa using hb
  subst e
  exact ⟨h1,hL,h2,h3⟩
 ·obtain ⟨o,es,ep,ho,r⟩:=hm
  exact ⟨o,es,ep,k _ o (QB hL) ho,r⟩
 ·refine (I.hok b u e).stay (fun c v hc q=>k c v ?_ q) (fun _ q=>q) fun _ _ q=>q
  rcases hc with z | z
  ·rw[z];exact nit b u e
  ·exact nit c _ z
theorem Inv.tok (I:Inv X pins σ H s) (t:Nat):Inv X pins σ H { s with toks:=t }:=I.un (h':=s.heap) (t':=t) Un.refl I.hok
theorem Inv.kept {t':Nat} (I:Inv X pins σ H s) (k:∀ b u,s.heap.get? b=some u->h'.get? b=some u):Inv X pins σ H { s with heap:=h',toks:=t' }:=I.un (Un.kept k) (I.hok.kept k)
theorem Inv.laid {a:NL}{o:HO}{t':Nat} (I:Inv X pins σ H s) (k:∀ b u,s.heap.get? b=some u->h'.get? b=some u) (hp:s.heap.objs.size<=a) (new:fG X.prog X.w (upd H a o) h' a o) :
 Inv X pins σ (upd H a o) { s with heap:=h',toks:=t' }:=I.un (Un.laid k hp (I.hok.fresh hp)) (I.hok.laid k hp new)
theorem Inv.write {x e:NL}{o:HO}{t':Nat} (I:Inv X pins σ H s) (mu:Mut (H x)) (he:e=x\/H e=some (.own x)) (k:∀ b u,b≠e->s.heap.get? b=some u->h'.get? b=some u) (heo:∃ u,h'.get? e=some u)
 (new:fG X.prog X.w (upd H x o) h' x o):Inv X pins σ (upd H x o) { s with heap:=h',toks:=t' }:=I.un (Un.write mu he k heo) (I.hok.write mu he k heo new)
theorem Inv.lq {pins':List (NL×Obj)} (I:Inv X pins σ H s) (h:∀ p∈pins',s.heap.get? p.1=some p.2/\H p.1=none/\p.1≠X.env.locals/\p.1∉X.fs/\∀ v,p.2.data≠.cell v):Inv X pins' σ H s :=
 ⟨I.ok,I.os,I.bare,I.base,I.loc,I.cell,I.free,I.freeC,fun p hp=>(List.mem_append.mp hp).elim (fun z=>I.pin p (Qh _ z)) (h p),I.hok,I.len⟩
theorem pZ {N:List Str} (hN:N.Nodup) {i j:Nat}{x:Str} (a:N[i]?=some x) (b:N[j]?=some x):i=j:=by
 obtain ⟨h1,e1⟩:=List.getElem?_eq_some_iff.mp a
 obtain ⟨h2,e2⟩:=List.getElem?_eq_some_iff.mp b
 exact (List.getElem_inj hN).mp (e1.trans e2.symm)
theorem nE {M:Model}{A:Om}{E:Value->ND->Prop}{i:Nat}{x:Str}{v:V}{u:Value}{Q:Unit->ND->Prop} (I:Inv X pins σ H s) (hN:X.N.Nodup) (hi:X.N[i]?=some x) (hx:Loc X.env.scope x) (r:RelV v u)
 (h:∀ s',Inv X pins (σ.set i (some v)) H s'->(∃ a,Oh a s.heap s'.heap/\(a=X.env.locals\/X.env.cells.lookup x=some a))->Q () s') (hf:X.fn x=true\/X.env.scope.names.lookup x=some .local:=by first | exact .inl rfl | exact .inr rfl | assumption):wpAny M A (storeName X.env x u) Q E s:=by
 obtain ⟨m,hn,hl⟩:=id I.loc
 have hcls:(X.env.scope.kind==.class||(X.env.scope.kind==.module&&X.env.locals != X.env.globals))=false:=by rw[I.ok.kind];rfl
 have hiσ:i < σ.length:=by rw[I.len];exact (List.getElem?_eq_some_iff.mp hi).1
 have cne:=I.cne
 have tracked:∀ {a:NL}{h':Heap},(∃ o,s.heap.get? a=some o/\H a=none)->Oh a s.heap h'->HOk X.prog X.w H h':=fun {a h'} ha hs b ob e=>by
  obtain ⟨_,_,hfree⟩:=ha
  refine (I.hok b ob e).stay (fun c w' hc q=>(hs.2 c ?_).trans q) (fun _ q=>q) fun _ _ q=>q
  rintro rfl
  rcases hc with rfl | hc
  ·rw[hfree] at e;cases e
  ·rw[hfree] at hc;cases hc
 rcases hx with hk | hk
 ·refine wpAny_storeName_local hk hn (fun h' hn' hs=>?_) hcls
  obtain ⟨oL,_,_,hoL,_⟩:=id hn
  refine h _ ⟨I.ok,I.os,I.bare,⟨fun b o e n hb hx=>?_,fun b o e n hb hx=>?_,I.base.free,fun b o e hx=>?_,I.base.tups,I.base.frzs,I.base.tbls⟩,⟨_,hn',fun j y v' e1 e2 e3=>?_⟩,fun y c e=>?_,I.free,I.freeC,fun p hp=>?_,tracked ⟨oL,hoL,I.free⟩ hs,by simpa using I.len⟩ ⟨_,hs,.inl rfl⟩
  ·exact (hs.2 b (N1 (N4 (NK e) I.ok.above))).trans (I.base.keep b o e n hb hx)
  ·obtain ⟨sl,e1⟩:=I.base.slot b o e n hb hx
   exact ⟨sl,(hs.2 b (N1 (N4 (NK e) I.ok.above))).trans e1⟩
  ·obtain ⟨o',e1⟩:=I.base.there b o e hx
   exact ⟨o',(hs.2 b (N1 (N4 (NK e) I.ok.above))).trans e1⟩
  ·by_cases hj:j=i
   ·subst hj
    rw[hi] at e1;cases e1
    rw[OX hiσ] at e2
    cases e2
    exact ⟨u,r,.inl ⟨hk,by simp⟩⟩
   ·rw[Pu (QB hj)] at e2
    obtain ⟨u',r',q⟩:=hl j y v' e1 e2 e3
    refine ⟨u',r',?_⟩
    rcases q with ⟨k,e⟩ | ⟨k,c,e,z⟩
    ·refine .inl ⟨k,?_⟩
     have:y≠x:=fun e=>hj (pZ hN e1 (e ▸ hi))
     simp[this,e]
    ·exact .inr ⟨k,c,e,z.sameBut hs (cne y c e)⟩
  ·obtain ⟨w',z⟩:=I.cell y c e
   exact ⟨w',z.sameBut hs (cne y c e)⟩
  ·obtain ⟨e,n,ne,nf,d⟩:=I.pin p hp
   exact ⟨(hs.2 p.1 ne).trans e,n,ne,nf,d⟩
 ·have hfn:X.fn x=true:=by
   rcases hf with z | z
   ·exact z
   ·rw[z] at hk;cases hk
  obtain ⟨c,hc⟩:=I.ok.has x (.inl hk)
  obtain ⟨w',z⟩:=I.cell x c hc
  refine wpAny_storeName_cell I.ok.kind hk hc z (fun h' hc' hs=>?_)
  obtain ⟨oc,hoc,hocd⟩:=id z
  refine h { s with heap:=h' } ⟨I.ok,I.os,I.bare,⟨fun b o e n hb hx=>?_,fun b o e n hb hx=>?_,I.base.free,fun b o e hx=>?_,I.base.tups,I.base.frzs,I.base.tbls⟩,⟨m,hn.sameBut hs (QB (cne x c hc)),fun j y v' e1 e2 e3=>?_⟩,fun y c' e=>?_,I.free,I.freeC,fun p hp=>?_,tracked ⟨oc,hoc,I.freeC x c hc⟩ hs,by simpa using I.len⟩ ⟨c,hs,.inr hc⟩
  ·exact (hs.2 b (N1 (N4 (NK e) (I.ok.cab x c hfn hc)))).trans (I.base.keep b o e n hb hx)
  ·obtain ⟨sl,e1⟩:=I.base.slot b o e n hb hx
   exact ⟨sl,(hs.2 b (N1 (N4 (NK e) (I.ok.cab x c hfn hc)))).trans e1⟩
  ·obtain ⟨o',e1⟩:=I.base.there b o e hx
   exact ⟨o',(hs.2 b (N1 (N4 (NK e) (I.ok.cab x c hfn hc)))).trans e1⟩
  ·by_cases hj:j=i
   ·subst hj
    rw[hi] at e1;cases e1
    rw[OX hiσ] at e2
    cases e2
    exact ⟨u,r,.inr ⟨.inl hk,c,hc,hc'⟩⟩
   ·rw[Pu (QB hj)] at e2
    obtain ⟨u',r',q⟩:=hl j y v' e1 e2 e3
    refine ⟨u',r',?_⟩
    rcases q with q | ⟨k,c',e,z'⟩
    ·exact .inl q
    ·refine .inr ⟨k,c',e,z'.sameBut hs ?_⟩
     rintro rfl
     exact hj (pZ hN e1 (I.ok.inj _ _ _ e hc ▸ hi))
  ·by_cases hcc:c'=c
   ·subst hcc;exact ⟨_,hc'⟩
   ·obtain ⟨w2,z2⟩:=I.cell y c' e
    exact ⟨w2,z2.sameBut hs hcc⟩
  ·obtain ⟨e,n,ne,nf,d⟩:=I.pin p hp
   refine ⟨(hs.2 p.1 ?_).trans e,n,ne,nf,d⟩
   intro q
   rw[q,hoc] at e
   have q':oc=p.2:=NO e
   exact d w' (by rw[← q'];exact hocd)
theorem lN {M:Model}{A:Om}{E:Value->ND->Prop}{i:Nat}{x:Str}{v:V}{u:Value}{Q:Unit->ND->Prop} (I:Inv X pins σ H s) (hN:X.N.Nodup) (hi:X.N[i]?=some x) (hx:Loc X.env.scope x) (r:RelV v u)
 (h:∀ s',Inv X pins (σ.set i (some v)) H s'->Q () s') (hf:X.fn x=true\/X.env.scope.names.lookup x=some .local:=by first | exact .inl rfl | exact .inr rfl | assumption):wpAny M A (storeName X.env x u) Q E s :=
 nE I hN hi hx r (fun s' I' _=>h s' I') hf
end
noncomputable abbrev XK:=Value->Option NL->Hp->Prop
noncomputable abbrev St:=List (Option V)
noncomputable abbrev VK:=V->Hp->Prop
noncomputable abbrev TE:=St->Hp->VK->Prop
noncomputable abbrev TT:=St->Hp->(Bool->Hp->Prop)->Prop
noncomputable abbrev TA:=St->Hp->(List V->Hp->Prop)->Prop
structure Ends where
 nx:St->Hp->Prop
 rt:VK
 bk:St->Hp->Prop:=fun _ _=>False
 ct:St->Hp->Prop:=fun _ _=>False
noncomputable abbrev TS:=Ends->St->Hp->Prop
inductive EP (X:Cx) (pins:List (NL×Obj)) (σ:St) (Q:VK) (u:Value) (s':ND):Prop where
 | mk (v:V) (H':Hp) (I:Inv X pins σ H' s') (r:RelV v u) (q:Q v H'):EP X pins σ Q u s'
inductive TP (X:Cx) (pins:List (NL×Obj)) (σ:St) (Q:Bool->Hp->Prop) (b:Bool) (s':ND):Prop where
 | mk (H':Hp) (I:Inv X pins σ H' s') (q:Q b H'):TP X pins σ Q b s'
inductive AP (X:Cx) (pins:List (NL×Obj)) (σ:St) (Q:List V->Hp->Prop) (us:List Value) (s':ND):Prop where
 | mk (vs:List V) (H':Hp) (I:Inv X pins σ H' s') (r:cZ vs us) (q:Q vs H'):AP X pins σ Q us s'
noncomputable def SP (X:Cx) (pins:List (NL×Obj)) (D:Ends) (f:Flow) (s':ND):Prop :=
 match f with
 | .next=>∃ σ' H',Inv X pins σ' H' s'/\D.nx σ' H'
 | .brk=>∃ σ' H',Inv X pins σ' H' s'/\D.bk σ' H'
 | .cont=>∃ σ' H',Inv X pins σ' H' s'/\D.ct σ' H'
 | .ret u=>∃ v σ' H',Inv X pins σ' H' s'/\RelV v u/\D.rt v H'
noncomputable def PE (X:Cx) (e:Qk) (t:TE):Prop :=
 ∀ (pins:List (NL×Obj)) (s:ND) (σ:St) (H:Hp) (Q:VK),Inv X pins σ H s->t σ H Q->wpAny (N5 X.prog X.w) X.A (eval e X.env) (EP X pins σ Q) X.xe s
noncomputable def PT (X:Cx) (e:Qk) (t:TT):Prop :=
 ∀ (pins:List (NL×Obj)) (s:ND) (σ:St) (H:Hp) (Q:Bool->Hp->Prop),Inv X pins σ H s->t σ H Q->wpAny (N5 X.prog X.w) X.A (isTrue e X.env (eval e X.env)) (TP X pins σ Q) X.xe s
noncomputable def PW (X:Cx) (e:Qk) (t:TT):Prop :=
 ∀ (whole:Sem Value) (pins:List (NL×Obj)) (s:ND) (σ:St) (H:Hp) (Q:Bool->Hp->Prop),Inv X pins σ H s->t σ H Q->wpAny (N5 X.prog X.w) X.A (isTrue e X.env whole) (TP X pins σ Q) X.xe s
theorem PW.pt {X:Cx}{e:Qk}{t:TT} (h:PW X e t):PT X e t:=h _
noncomputable def PA (X:Cx) (es:List Qk) (t:TA):Prop :=
 ∀ (pos:Pos) (pins:List (NL×Obj)) (s:ND) (σ:St) (H:Hp) (Q:List V->Hp->Prop),Inv X pins σ H s->t σ H Q->wpAny (N5 X.prog X.w) X.A (spliced (Qf pos (Oc es X.env))) (AP X pins σ Q) X.xe s
noncomputable def PS (X:Cx) (st:RX) (t:TS):Prop :=
 ∀ (pins:List (NL×Obj)) (s:ND) (σ:St) (H:Hp) (D:Ends),Inv X pins σ H s->t D σ H->wpAny (N5 X.prog X.w) X.A (exec st X.env) (SP X pins D) X.xe s
noncomputable def PSs (X:Cx) (st:List RX) (t:TS):Prop :=
 ∀ (pins:List (NL×Obj)) (s:ND) (σ:St) (H:Hp) (D:Ends),Inv X pins σ H s->t D σ H->wpAny (N5 X.prog X.w) X.A (execs st X.env) (SP X pins D) X.xe s
theorem thn {α:Type}{t:Sem α}{Q Q':α->ND->Prop}{M:Model}{A:Om}{E:Value->ND->Prop}{s:ND} (h:wpAny M A t Q E s) (hQ:∀ a s,Q a s->Q' a s):wpAny M A t Q' E s:=Px h hQ fun _ _ x=>x
end L2
namespace L2
open PySem PySem.Spec PyProof.Rows
section
variable {X:Cx}
theorem bin {a b:Qk}{ta tb:TE} (ha:PE X a ta) (hb:PE X b tb) {pins:List (NL×Obj)}{s:ND}{σ:St}{H:Hp}{R:V->V->Hp->Prop} (I:Inv X pins σ H s) (h:ta σ H fun x H1=>tb σ H1 fun y H2=>R x y H2)
 {α:Type}{Q:α->ND->Prop}{f:Value->Value->Sem α}
 (hf:∀ v u s2 x y H2,Inv X pins σ H2 s2->RelV x v->RelV y u->R x y H2->wpAny (N5 X.prog X.w) X.A (f v u) Q X.xe s2) :
 wpAny (N5 X.prog X.w) X.A (eval a X.env) (fun v s₁=>wpAny (N5 X.prog X.w) X.A (eval b X.env) (fun u s₂=>wpAny (N5 X.prog X.w) X.A (f v u) Q X.xe s₂) X.xe s₁) X.xe s:=by
 refine thn (ha pins s σ H _ I h) fun v s1 zq=>?_
 obtain ⟨x,H1,I1,r1,q1⟩:=zq
 refine thn (hb pins s1 σ H1 _ I1 q1) fun u s2 zq=>?_
 obtain ⟨y,H2,I2,r2,q2⟩:=zq
 exact hf v u s2 x y H2 I2 r1 r2 q2
noncomputable def Lb (i:Nat):TE:=fun σ H Q=>∃ v,σ[i]?=some (some v)/\Q v H
noncomputable def tC (v:V):TE:=fun _ H Q=>Q v H
theorem DQ {i:Nat}{x:Str}{pos:Pos} (hN:X.N[i]?=some x) (hv:Vis X.env.scope x) (hd:(x==("__debug__":Str))=false:=by decide) (hcd:(x==("__classdict__":Str))=false:=by decide):PE X (.Name x pos) (Lb i):=by
 intro pins s σ H Q I h
 obtain ⟨v,e,h⟩:=h
 obtain ⟨m,hn,hl⟩:=I.loc
 obtain ⟨u,r,l⟩:=hl i x v hN e hv
 have fin:EP X pins σ Q u s:=⟨v,H,I,r,h⟩
 rcases l with ⟨hk,hm⟩ | ⟨hk,c,hc,hcell⟩
 ·exact wpAny_Name (wpAny_loadName_local I.ok.kind hk hn hm fin) hd
 ·rcases hk with hk | hk
  ·exact wpAny_Name (wpAny_loadName_cell I.ok.kind hk hc hcell fin) hd
  ·exact wpAny_Name (wpAny_loadName_free I.ok.kind hk hc hcell fin hcd) hd
theorem oh {i j pos}:PE X (.Constant (.int i) j pos) (tC (.int i)):=fun _ _ _ H _ I h=>wpAny_Constant_int ⟨.int i,H,I.tok _,⟨_,rfl⟩,h⟩
theorem G9 {b j pos}:PE X (.Constant (.bool b) j pos) (tC (.bl b)):=fun _ _ _ H _ I h=>Constant_bool ⟨.bl b,H,I,rfl,h⟩
theorem DR {j pos}:PE X (.Constant .none j pos) (tC .non):=fun _ _ _ H _ I h=>Constant_none ⟨.non,H,I,rfl,h⟩
theorem DS {x j pos}:PE X (.Constant (.str x) j pos) (tC (.str x)):=fun _ _ _ H _ I h=>Calls.Constant_str ⟨.str x,H,I.tok _,⟨_,rfl⟩,h⟩
noncomputable def Gl (X:Cx) (x:Str):Prop:=X.env.kindOf x=some .globalImplicit
theorem jL {E:Value->ND->Prop}{pins:List (NL×Obj)}{s:ND}{σ:St}{H:Hp}{x:Str}{u:Value}{pos:Pos}{Q:Value->ND->Prop} (I:Inv X pins σ H s) (hg:Gl X x) (hm:X.mg x=some u) (h:Q u s)
 (hd:(x==("__debug__":Str))=false:=by decide):wpAny (N5 X.prog X.w) X.A (eval (.Name x pos) X.env) Q E s :=
 Sf I.ok.kind hg (Calls.loadGlobal_global (by rw[I.ok.glob];exact I.mod.glob.keeps I.bk) hm h) hd
theorem jB {E:Value->ND->Prop}{pins:List (NL×Obj)}{s:ND}{σ:St}{H:Hp}{x:Str}{u:Value}{pos:Pos}{Q:Value->ND->Prop} (I:Inv X pins σ H s) (hg:Gl X x) (hm:X.mg x=none) (hv:QJ x=some u) (h:Q u s)
 (hn:x≠"__name__":=by decide) (hd:(x==("__debug__":Str))=false:=by decide):wpAny (N5 X.prog X.w) X.A (eval (.Name x pos) X.env) Q E s:=by
 obtain ⟨mb,h1,h2⟩:=I.mod.blt
 exact Sf I.ok.kind hg (Calls.loadGlobal_builtin (by rw[I.ok.glob];exact I.mod.glob.keeps I.bk) hm (by rw[I.ok.blt];exact h1.keeps I.bk) ((h2 x hn).trans hv) h) hd
theorem sX {x:Str}{v:V}{u:Value}{pos:Pos} (hg:Gl X x) (hm:X.mg x=some u) (r:RelV v u) (hd:(x==("__debug__":Str))=false:=by decide):PE X (.Name x pos) (tC v) :=
 fun _ _ _ H _ I h=>jL I hg hm ⟨v,H,I,r,h⟩ hd
theorem jM {x:Str}{v:V}{u:Value}{pos:Pos} (hg:Gl X x) (hm:X.mg x=none) (hv:QJ x=some u) (r:RelV v u) (hn:x≠"__name__":=by decide) (hd:(x==("__debug__":Str))=false:=by decide):PE X (.Name x pos) (tC v) :=
 fun _ _ _ H _ I h=>jB I hg hm hv ⟨v,H,I,r,h⟩ hn hd
variable {a b:Qk}{ta tb:TE}{pos:Pos}
noncomputable def tB (t:TE):TT:=fun σ H Q=>t σ H fun x H1=>∃ c,x=.bl c/\Q c H1
theorem DT {e:Qk}{t:TE} (h:PE X e t) (he:∀ whole,isTrue e X.env whole=(do let v ← whole;S7 e.pos;QY [v] (truthy v)):=by intro _;rfl):PT X e (tB t):=by
 intro pins s σ H Q I hw
 refine isTrue_plain (thn (h pins s σ H _ I hw) fun v s1 ⟨x,H1,I1,r1,q1⟩=>?_) (he _)
 obtain ⟨d,rfl,q⟩:=q1
 cases r1
 exact OM ⟨H1,I1,q⟩
variable {tA tB':TT}{rest:List Qk}
noncomputable def Hf (t u:TT):TT:=fun σ H Q=>t σ H fun c H1=>if c=true then u σ H1 Q else Q false H1
noncomputable def tOr (t u:TT):TT:=fun σ H Q=>t σ H fun c H1=>if c=true then Q true H1 else u σ H1 Q
noncomputable def Hg (t:TT):TT:=fun σ H Q=>t σ H fun c H1=>Q (!c) H1
theorem Ay (ha:PT X a tA):PW X (.BoolOp .And [a] pos) tA:=by
 intro wh pins s σ H Q I h
 refine isTrue_and (thn (ha pins s σ H Q I h) fun c s1 e=>?_)
 cases c with
 | true=>exact isTrue_and_nil e
 | false=>exact e
theorem DU (ha:PT X a tA):PW X (.BoolOp .Or [a] pos) tA:=by
 intro wh pins s σ H Q I h
 refine isTrue_or (thn (ha pins s σ H Q I h) fun c s1 e=>?_)
 cases c with
 | false=>exact isTrue_or_nil e
 | true=>exact e
theorem wF (ha:PT X a tA) (hb:PW X (.BoolOp .And (b :: rest) pos) tB'):PW X (.BoolOp .And (a :: b :: rest) pos) (Hf tA tB'):=by
 intro wh pins s σ H Q I h
 refine isTrue_and (thn (ha pins s σ H _ I h) fun c s1 zq=>?_)
 obtain ⟨H1,I1,q1⟩:=zq
 cases c with
 | true=>exact hb wh pins s1 σ H1 Q I1 q1
 | false=>exact ⟨H1,I1,q1⟩
theorem De (ha:PT X a tA) (hb:PW X (.BoolOp .Or (b :: rest) pos) tB'):PW X (.BoolOp .Or (a :: b :: rest) pos) (tOr tA tB'):=by
 intro wh pins s σ H Q I h
 refine isTrue_or (thn (ha pins s σ H _ I h) fun c s1 zq=>?_)
 obtain ⟨H1,I1,q1⟩:=zq
 cases c with
 | true=>exact ⟨H1,I1,q1⟩
 | false=>exact hb wh pins s1 σ H1 Q I1 q1
theorem DV (ha:PT X a tA):PT X (.UnaryOp .Not a pos) (Hg tA):=by
 intro pins s σ H Q I h
 exact isTrue_not (thn (ha pins s σ H (fun c H1=>Q (!c) H1) I h) fun c s' z=>by obtain ⟨H1,I1,q⟩:=z;exact ⟨H1,I1,q⟩)
noncomputable def Df (ta tb:TE):TE:=fun σ H Q=>ta σ H fun x H1=>∃ c,x=.bl c/\if c=true then tb σ H1 Q else Q (.bl false) H1
noncomputable def Hh (ta tb:TE):TE:=fun σ H Q=>ta σ H fun x H1=>∃ c,x=.bl c/\if c=true then Q (.bl true) H1 else tb σ H1 Q
noncomputable def Dg (ta:TE):TE:=fun σ H Q=>ta σ H fun x H1=>∃ c,x=.bl c/\Q (.bl (!c)) H1
theorem wG {op}{t:TE} (h:PE X a t):PE X (.BoolOp op [a] pos) t:=fun pins s σ H Q I hw=>BoolOp_one (h pins s σ H Q I hw)
theorem wH (ha:PE X a ta) (hb:PE X (.BoolOp .And (b :: rest) pos) tb):PE X (.BoolOp .And (a :: b :: rest) pos) (Df ta tb):=by
 intro pins s σ H Q I h
 refine BoolOp_and (thn (ha pins s σ H _ I h) fun v s1 zq=>?_)
 obtain ⟨x,H1,I1,r1,q1⟩:=zq
 obtain ⟨c,rfl,q1⟩:=q1
 cases r1
 refine OM ?_
 cases c with
 | true=>exact hb pins s1 σ H1 Q I1 q1
 | false=>exact ⟨.bl false,H1,I1,rfl,q1⟩
theorem Dh (ha:PE X a ta) (hb:PE X (.BoolOp .Or (b :: rest) pos) tb):PE X (.BoolOp .Or (a :: b :: rest) pos) (Hh ta tb):=by
 intro pins s σ H Q I h
 refine BoolOp_or (thn (ha pins s σ H _ I h) fun v s1 zq=>?_)
 obtain ⟨x,H1,I1,r1,q1⟩:=zq
 obtain ⟨c,rfl,q1⟩:=q1
 cases r1
 refine OM ?_
 cases c with
 | false=>exact hb pins s1 σ H1 Q I1 q1
 | true=>exact ⟨.bl true,H1,I1,rfl,q1⟩
theorem DW (ha:PE X a ta):PE X (.UnaryOp .Not a pos) (Dg ta):=by
 intro pins s σ H Q I h
 refine UnaryOp_ (thn (ha pins s σ H _ I h) fun v s1 zq=>?_)
 obtain ⟨x,H1,I1,r1,q1⟩:=zq
 obtain ⟨c,rfl,q1⟩:=q1
 cases r1
 exact not_of (OM ⟨.bl (!c),H1,I1,rfl,q1⟩)
noncomputable def tIf (t:TT) (ta tb:TE):TE:=fun σ H Q=>t σ H fun c H1=>if c=true then ta σ H1 Q else tb σ H1 Q
theorem wI {c:Qk} (hc:PT X c tA) (ha:PE X a ta) (hb:PE X b tb):PE X (.IfExp c a b pos) (tIf tA ta tb):=by
 intro pins s σ H Q I h
 refine wpAny_IfExp (thn (hc pins s σ H _ I h) fun d s1 zq=>?_)
 obtain ⟨H1,I1,q1⟩:=zq
 cases d with
 | true=>exact ha pins s1 σ H1 Q I1 q1
 | false=>exact hb pins s1 σ H1 Q I1 q1
end
end L2
namespace L2
open PySem PySem.Spec PyProof.Rows
noncomputable def SqL (K:Nz) (H:Hp) (a:NL) (xs:List V):Prop :=
 Rd H a (.lst xs) ∨
  ∃ (o:Obj) (its:Array Value) (n:Nat),K.lookup a=some o/\o.cls=.type "list"/\o.dict=none/\o.data=.seq its n/\its.size<=sizeLine/\cZ xs its.toList
noncomputable def SqT (K:Nz) (H:Hp) (a:NL) (xs:List V):Prop :=
 Rd H a (.tup xs) ∨
  ∃ (o:Obj) (its:Array Value) (n:Nat),K.lookup a=some o/\o.cls=.type "tuple"/\o.data=.seq its n/\its.size<=sizeLine/\cZ xs its.toList
noncomputable def Lc:Value->Option V
 | .none=>some .non
 | .bool b=>some (.bl b)
 | .int i _=>some (.int i)
 | .str x _=>some (.str x)
 | .bytes b _=>some (.byt b)
 | .float b _=>some (.flt b)
 | .ref a=>some (.ref a)
 | .type n=>some (.ty n)
 | _=>none
theorem RelV.abs {x:V}{u:Value} (r:RelV x u):Lc u=some x:=by
 cases x with
 | non=>cases r;rfl
 | bl _=>cases r;rfl
 | int _=>obtain ⟨t,rfl⟩:=r;rfl
 | str _=>obtain ⟨t,rfl⟩:=r;rfl
 | byt _=>obtain ⟨t,rfl⟩:=r;rfl
 | flt _=>obtain ⟨t,rfl⟩:=r;rfl
 | ref _=>cases r;rfl
 | ty _=>cases r;rfl
theorem RelV.inj {x y:V}{u:Value} (r:RelV x u) (q:RelV y u):x=y:=NO (r.abs.symm.trans q.abs)
theorem cZ.inj:∀ {xs ys:List V}{us:List Value},cZ xs us->cZ ys us->xs=ys
 | _,_,_,.nil,.nil=>rfl
 | _,_,_,.cons r t,.cons r' t'=>by rw[r.inj r',cZ.inj t t']
section
variable {X:Cx}{pins:List (NL×Obj)}{σ:St}{H:Hp}{s:ND}{a:NL}{xs ys:List V}
theorem Inv.list (I:Inv X pins σ H s) (h:SqL X.K H a xs):∃ its:List Value,cZ xs its/\PlainL s.heap a its.toArray/\xs.length<=sizeLine:=by
 rcases h with h | ⟨o,its,n,hk,hc,hd,hs,hz,r⟩
 ·obtain ⟨z,its,n,r,e⟩:=h.ok I.hok
  exact ⟨its,r,⟨_,n,e,rfl,rfl,rfl⟩,z⟩
 ·refine ⟨its.toList,r,⟨o,n,I.kIn a o hk,hc,hd,by simpa using hs⟩,?_⟩
  have e:=r.length
  simp only[Ql] at e
  lia
theorem Inv.tuple (I:Inv X pins σ H s) (h:SqT X.K H a xs):∃ its:List Value,cZ xs its/\IsTup s.heap a its.toArray/\xs.length<=sizeLine:=by
 rcases h with h | ⟨o,its,n,hk,hc,hs,hz,r⟩
 ·obtain ⟨z,its,r,p⟩:=h.ok I.hok
  exact ⟨its,r,p,z⟩
 ·refine ⟨its.toList,r,⟨o,I.kIn a o hk,hc,n,by simpa using hs⟩,?_⟩
  have e:=r.length
  simp only[Ql] at e
  lia
theorem Inv.lO (I:Inv X pins σ H s) (h:SqL X.K H a xs) (h':SqL X.K H a ys):xs=ys:=by
 obtain ⟨its,r,⟨o,n,e,_,_,d⟩,_⟩:=I.list h
 obtain ⟨its',r',⟨o',n',e',_,_,d'⟩,_⟩:=I.list h'
 rw[e] at e';cases e'
 rw[d] at d'
 injection d' with d1 _
 have:its=its':=by simpa using congrArg Array.toList d1
 subst this
 exact r.inj r'
theorem Inv.nF (I:Inv X pins σ H s) (h:SqT X.K H a xs) (h':SqT X.K H a ys):xs=ys:=by
 obtain ⟨its,r,⟨o,e,_,n,d⟩,_⟩:=I.tuple h
 obtain ⟨its',r',⟨o',e',_,n',d'⟩,_⟩:=I.tuple h'
 rw[e] at e';cases e'
 rw[d] at d'
 injection d' with d1 _
 have:its=its':=by simpa using congrArg Array.toList d1
 subst this
 exact r.inj r'
end
noncomputable abbrev Cx.mY (X:Cx) (E:Value->ND->Prop):Cx:={ X with xe:=E }
noncomputable abbrev Cx.nox (X:Cx):Cx:=X.mY fun _ _=>False
theorem Cx.Ok.mY {X:Cx} (ok:X.Ok) (E:Value->ND->Prop):(X.mY E).Ok :=
 ⟨ok.mod,ok.kind,ok.glob,ok.blt,ok.above,ok.inj,ok.has,ok.cab,ok.hd,ok.frames,ok.stk,ok.exf,ok.bs,ok.bsz,ok.noex,ok.exfs,ok.jK,ok.frf⟩
theorem Cx.Ok.iR {X:Cx}{E:Value->ND->Prop} (ok:(X.mY E).Ok):X.Ok :=
 ⟨ok.mod,ok.kind,ok.glob,ok.blt,ok.above,ok.inj,ok.has,ok.cab,ok.hd,ok.frames,ok.stk,ok.exf,ok.bs,ok.bsz,ok.noex,ok.exfs,ok.jK,ok.frf⟩
section
variable {X:Cx}{pins:List (NL×Obj)}{σ:St}{H:Hp}{s:ND}{E:Value->ND->Prop}
theorem Inv.mY (I:Inv X pins σ H s) (E:Value->ND->Prop):Inv (X.mY E) pins σ H s:=⟨I.ok.mY E,I.os,I.bare,I.base,I.loc,I.cell,I.free,I.freeC,I.pin,I.hok,I.len⟩
theorem Inv.iR (I:Inv (X.mY E) pins σ H s):Inv X pins σ H s:=⟨I.ok.iR,I.os,I.bare,I.base,I.loc,I.cell,I.free,I.freeC,I.pin,I.hok,I.len⟩
theorem SP.iR {D:Ends}{f:Flow}{s':ND} (h:SP (X.mY E) pins D f s'):SP X pins D f s':=by
 cases f with
 | next=>obtain ⟨σ',H',I,q⟩:=h;exact ⟨σ',H',I.iR,q⟩
 | brk=>obtain ⟨σ',H',I,q⟩:=h;exact ⟨σ',H',I.iR,q⟩
 | cont=>obtain ⟨σ',H',I,q⟩:=h;exact ⟨σ',H',I.iR,q⟩
 | ret u=>obtain ⟨v,σ',H',I,r,q⟩:=h;exact ⟨v,σ',H',I.iR,r,q⟩
theorem PSs.nox {st:List RX}{t:TS} (h:PSs X.nox st t):PSs X st t:=fun pins s σ H D I hw =>
 Px (h pins s σ H D (I.mY _) hw) (fun _ _ q=>q.iR) fun _ _ z=>OQ z
end
section
variable {X:Cx}{st:RX}{rest:List RX}{t u:TS}{e:Qk}{te:TE}{pos:Pos}
noncomputable def Hi:TS:=fun D σ H=>D.nx σ H
noncomputable def Hj (t u:TS):TS:=fun D σ H=>t { D with nx:=u D } σ H
theorem Az:PSs X [] Hi:=fun _ _ σ H _ I h=>Rg ⟨σ,H,I,h⟩
theorem qa (h1:PS X st t) (h2:PSs X rest u):PSs X (st :: rest) (Hj t u):=by
 intro pins s σ H D I h
 refine wpAny_execs_cons (thn (h1 pins s σ H { D with nx:=u D } I h) fun f s1 q=>?_)
 cases f with
 | next =>
  obtain ⟨σ',H',I',q⟩:=q
  exact h2 pins s1 σ' H' D I' q
 | ret v=>exact q
 | brk=>exact q
 | cont=>exact q
theorem sY (h1:PS X st t):PSs X [st] t:=by
 intro pins s σ H D I h
 refine wpAny_execs_cons (thn (h1 pins s σ H D I h) fun f s1 q=>?_)
 cases f with
 | next=>exact Rg q
 | ret v=>exact q
 | brk=>exact q
 | cont=>exact q
noncomputable def DX:TS:=fun D σ H=>D.bk σ H
noncomputable def Hl:TS:=fun D σ H=>D.ct σ H
theorem wJ:PS X (.Break pos) DX:=fun _ _ σ H _ I h=>wpAny_Break ⟨σ,H,I,h⟩
theorem qb:PS X (.Continue pos) Hl:=fun _ _ σ H _ I h=>wpAny_Continue ⟨σ,H,I,h⟩
theorem Inv.quiet {pins:List (NL×Obj)}{σ:St}{H:Hp}{s:ND} (I:Inv X pins σ H s):interactive X.env=false:=by simp[interactive,I.ok.kind]
noncomputable def Ho (te:TE):TS:=fun D σ H=>te σ H fun _ H1=>D.nx σ H1
theorem AA (he:PE X e te) (hs:Qv e none pos.line X.env=pure false:=by rfl):PS X (.Expr e pos) (Ho te):=by
 intro pins s σ H D I h
 exact wpAny_Expr_any (thn (he pins s σ H _ I h) fun v s1 ⟨x,H1,I1,r1,q1⟩=>⟨σ,H1,I1,q1⟩) I.quiet hs
noncomputable def Ld (te:TE):TS:=fun D σ H=>te σ H D.rt
theorem DY (he:PE X e te):PS X (.Return (some e) pos) (Ld te):=by
 intro pins s σ H D I h
 exact wpAny_Return_some (thn (he pins s σ H _ I h) fun v s1 ⟨x,H1,I1,r1,q1⟩=>⟨x,σ,H1,I1,r1,q1⟩)
noncomputable def Lf (c:TT) (t u:TS):TS:=fun D σ H=>c σ H fun b H1=>if b=true then t D σ H1 else u D σ H1
theorem Hq {c:Qk}{a b:List RX}{tc:TT} (hc:PT X c tc) (ha:PSs X a t) (hb:PSs X b u):PS X (.If c a b pos) (Lf tc t u):=by
 intro pins s σ H D I h
 refine wpAny_If (thn (hc pins s σ H _ I h) fun d s1 zq=>?_)
 obtain ⟨H1,I1,q1⟩:=zq
 cases d with
 | true=>exact ha pins s1 σ H1 D I1 q1
 | false=>exact hb pins s1 σ H1 D I1 q1
end
noncomputable abbrev TG:=V->St->Hp->(St->Hp->Prop)->Prop
noncomputable abbrev TGs:=List V->St->Hp->(St->Hp->Prop)->Prop
noncomputable def PG (X:Cx) (target:Qk) (t:TG):Prop :=
 ∀ (pins:List (NL×Obj)) (s:ND) (σ:St) (H:Hp) (v:V) (u:Value) (Q:St->Hp->Prop),Inv X pins σ H s->RelV v u->t v σ H Q →
  wpAny (N5 X.prog X.w) X.A (Sy target X.env u) (fun _ s'=>∃ σ' H',Inv X pins σ' H' s'/\Q σ' H') X.xe s
noncomputable def PGs (X:Cx) (ts:List Qk) (t:TGs):Prop :=
 ∀ (pins:List (NL×Obj)) (s:ND) (σ:St) (H:Hp) (vs:List V) (us:List Value) (Q:St->Hp->Prop),Inv X pins σ H s->cZ vs us->t vs σ H Q →
  wpAny (N5 X.prog X.w) X.A (assignInOrder ((Py ts X.env).map (·.2)) us) (fun _ s'=>∃ σ' H',Inv X pins σ' H' s'/\Q σ' H') X.xe s
noncomputable abbrev DZ:=V->V->V->Hp->(Hp->Prop)->Prop
noncomputable def Hr (X:Cx) (t:DZ):Prop :=
 ∀ (pins:List (NL×Obj)) (s:ND) (σ:St) (H:Hp) (o i v:V) (ov iv u:Value) (Q:Hp->Prop),Inv X pins σ H s->RelV o ov->RelV i iv->RelV v u->t o i v H Q →
  wpAny (N5 X.prog X.w) X.A (setItem ov iv u) (fun _ s'=>∃ H',Inv X pins σ H' s'/\Q H') X.xe s
noncomputable abbrev TIp:=V->V->Hp->VK->Prop
noncomputable def PIp (X:Cx) (op:QK) (t:TIp):Prop :=
 ∀ (pins:List (NL×Obj)) (s:ND) (σ:St) (H:Hp) (x y:V) (v u:Value) (Q:VK),Inv X pins σ H s->RelV x v->RelV y u->t x y H Q →
  wpAny (N5 X.prog X.w) X.A (inplaceOp op v u) (EP X pins σ Q) X.xe s
section
variable {X:Cx}{pos:Pos}
noncomputable def sZ (i:Nat):TG:=fun v σ H Q=>Q (σ.set i (some v)) H
theorem tw {i:Nat}{x:Str} (hN:X.N.Nodup) (hi:X.N[i]?=some x) (hx:Loc X.env.scope x) (hf:X.fn x=true\/X.env.scope.names.lookup x=some .local:=by first | exact .inl rfl | exact .inr rfl | assumption):PG X (.Name x pos) (sZ i):=by
 intro pins s σ H v u Q I r h
 exact wpAny_assign_Name (lN I hN hi hx r (fun s' I'=>⟨_,H,I',h⟩) hf)
noncomputable def Hs:TGs:=fun vs σ H Q=>vs=[]/\Q σ H
noncomputable def Hu (t:TG) (u:TGs):TGs:=fun vs σ H Q=>∃ v r,vs=v :: r/\t v σ H fun σ' H'=>u r σ' H' Q
theorem AB:PGs X [] Hs:=by
 intro pins s σ H vs us Q I r h
 obtain ⟨e,h⟩:=h
 subst e
 cases r
 exact assignInOrder_nil ⟨σ,H,I,h⟩
theorem wK {e:Qk}{es:List Qk}{t:TG}{u:TGs} (h1:PG X e t) (h2:PGs X es u)
 (hs:(Py (e :: es) X.env).map (·.2)=Sy e X.env :: (Py es X.env).map (·.2):=by rfl):PGs X (e :: es) (Hu t u):=by
 intro pins s σ H vs us Q I r h
 obtain ⟨v,vr,e1,h⟩:=h
 subst e1
 cases r with
 | cons r rr =>
  rw[hs]
  refine assignInOrder_cons (thn (h1 pins s σ H _ _ _ I r h) fun _ s1 zq=>?_)
  obtain ⟨σ1,H1,I1,q1⟩:=zq
  exact h2 pins s1 σ1 H1 _ _ Q I1 rr q1
noncomputable def Lg (K:Nz) (n:Nat) (t:TGs):TG:=fun v σ H Q=>∃ a xs,v=.ref a/\SqT K H a xs/\xs.length=n/\t xs σ H Q
theorem D0 {es:List Qk}{k:Nat}{t:TGs}{n:Nat} (hc:X.calm=true) (h:PGs X es t)
 (hn:(Py es X.env).length=n:=by rfl) (hst:(Py es X.env).findIdx? (·.1)=none:=by rfl):PG X (.Tuple es k pos) (Lg X.K n t):=by
 intro pins s σ H v u Q I r hw
 obtain ⟨a,xs,e1,hq,hl,hw⟩:=hw
 subst e1
 cases r
 obtain ⟨its,rv,ht,hz⟩:=I.tuple hq
 refine assign_Tuple_tuple (I.ok.hd hc) ht (by simp[hn,← hl,rv.length]) hst fun h' hx=>?_
 have I1:Inv X pins σ H { s with heap:=h' }:=I.kept (t':=s.toks) fun b o e=>hx b o (N1 (NK e)) e
 exact h pins _ σ H xs _ Q I1 (by simpa using rv) hw
noncomputable def Hv (to ti:TE) (t:DZ):TG:=fun v σ H Q=>to σ H fun o H1=>ti σ H1 fun i H2=>t o i v H2 fun H3=>Q σ H3
theorem D3 {o i:Qk}{to ti:TE}{t:DZ} (ho:PE X o to) (hi:PE X i ti) (hs:Hr X t)
 (ha:∀ v,Sy (.Subscript o i pos) X.env v=(do
  let ov ← QY [v] (eval o X.env)
  let iv ← QY [v,ov] (eval i X.env)
  S7 pos
  QY [v,ov,iv] (setItem ov iv v)
  release [v,ov,iv] []):=by intro _;rfl):PG X (.Subscript o i pos) (Hv to ti t):=by
 intro pins s σ H v u Q I r h
 rw[ha]
 refine NB (P7 (thn (ho pins s σ H _ I h) fun ov s1 zq=>?_))
 obtain ⟨x,H1,I1,r1,q1⟩:=zq
 refine NB (P7 (thn (hi pins s1 σ H1 _ I1 q1) fun iv s2 zq=>?_))
 obtain ⟨y,H2,I2,r2,q2⟩:=zq
 refine NB (RN (NB (P7 (thn (hs pins s2 σ H2 x y v ov iv u _ I2 r1 r2 r q2) fun _ s3 zq=>?_))))
 obtain ⟨H3,I3,q3⟩:=zq
 exact wpAny_release ⟨σ,H3,I3,q3⟩
noncomputable def wL (te:TE) (g:TG):TS:=fun D σ H=>te σ H fun x H1=>g x σ H1 D.nx
theorem wM {tg e:Qk}{te:TE}{g:TG} (he:PE X e te) (hg:PG X tg g) (hs:swapsWithSole [tg] e pos.line X.env=pure false:=by rfl) (hw:swappedStores [tg] e X.env=pure none:=by rfl)
 (h1:(Py [tg] X.env).map (·.2)=[Sy tg X.env]:=by rfl):PS X (.Assign [tg] e pos) (wL te g):=by
 intro pins s σ H D I h
 refine wpAny_Assign_stores (thn (he pins s σ H _ I h) fun v s1 ⟨x,H1,I1,r1,q1⟩=>?_) hs hw
 rw[h1]
 exact thn (hg pins s1 σ H1 x v _ I1 r1 q1) fun _ s2 q=>q
theorem wN {i:Nat}{x:Str}{e:Qk}{te:TE}{pos':Pos} (hN:X.N.Nodup) (hi:X.N[i]?=some x) (hx:Loc X.env.scope x) (he:PE X e te) (hs:Qv e (some (.Name x pos')) pos.line X.env=pure false:=by rfl) (hf:X.fn x=true\/X.env.scope.names.lookup x=some .local:=by first | exact .inl rfl | exact .inr rfl | assumption) :
 PS X (.Assign [.Name x pos'] e pos) (wL te (sZ i)):=by
 intro pins s σ H D I h
 refine wpAny_Assign_Name (thn (he pins s σ H _ I h) fun v s1 ⟨y,H1,I1,r1,q1⟩=>?_) hs
 exact lN I1 hN hi hx r1 (fun s2 I2=>⟨_,H1,I2,q1⟩) hf
noncomputable def Hw (i:Nat) (te:TE) (ti:TIp):TS:=fun D σ H=>∃ x,σ[i]?=some (some x)/\te σ H fun y H1=>ti x y H1 fun z H2=>D.nx (σ.set i (some z)) H2
theorem D4 {i:Nat}{x:Str}{e:Qk}{te:TE}{op:QK}{ti:TIp}{pos':Pos} (hN:X.N.Nodup) (hi:X.N[i]?=some x) (hx:Loc X.env.scope x) (he:PE X e te) (ho:PIp X op ti) (hf:X.fn x=true\/X.env.scope.names.lookup x=some .local:=by first | exact .inl rfl | exact .inr rfl | assumption) :
 PS X (.AugAssign (.Name x pos') op e pos) (Hw i te ti):=by
 intro pins s σ H D I h
 obtain ⟨v,e1,h⟩:=h
 obtain ⟨m,hn,hl⟩:=I.loc
 have vis:Vis X.env.scope x:=by rcases hx with k | k;exact .inl k;exact .inr (.inl k)
 obtain ⟨u,r,l⟩:=hl i x v hi e1 vis
 refine wpAny_AugAssign_Name ?_
 have go:wpAny (N5 X.prog X.w) X.A (eval e X.env) (fun w s₂=>wpAny (N5 X.prog X.w) X.A (inplaceOp op u w) (fun r s₃=>wpAny (N5 X.prog X.w) X.A (storeName X.env x r) (fun _=>SP X pins D .next) X.xe s₃) X.xe s₂) X.xe s:=by
  refine thn (he pins s σ H _ I h) fun w s1 zq=>?_
  obtain ⟨y,H1,I1,r1,q1⟩:=zq
  refine thn (ho pins s1 σ H1 v y u w _ I1 r r1 q1) fun z s2 zq=>?_
  obtain ⟨zv,H2,I2,r2,q2⟩:=zq
  exact lN I2 hN hi hx r2 (fun s3 I3=>⟨_,H2,I3,q2⟩) hf
 rcases l with ⟨hk,hm⟩ | ⟨hk,c,hc,hcell⟩
 ·exact wpAny_loadName_local I.ok.kind hk hn hm go
 ·rcases hk with hk | hk
  ·exact wpAny_loadName_cell I.ok.kind hk hc hcell go
  ·rcases hx with k | k
   ·have:X.env.scope.names.lookup x=some .free:=hk
    rw[k] at this;cases this
   ·have:X.env.scope.names.lookup x=some .free:=hk
    rw[k] at this;cases this
end
section
variable {X:Cx}{pos:Pos}
noncomputable def wO (c:TT) (tb:TS):TS:=fun D σ H=>∃ W:Nat->St->Hp->Prop,(∃ m,W m σ H)/\∀ m σ H,W m σ H →
 c σ H fun b H1=>if b=true then ∃ N:St->Hp->Prop,(∀ σ' H',N σ' H'->∃ m',m' < m/\W m' σ' H')/\tb { D with nx:=N,ct:=N,bk:=D.nx } σ H1 else D.nx σ H1
theorem wQ {c:Qk}{body:List RX}{tc:TT}{tb:TS} (hp:PassesOwn (N5 X.prog X.w) X.A X.env X.xe) (hc:PT X c tc) (hb:PSs X body tb):PS X (.While c body [] pos) (wO tc tb):=by
 intro pins s σ H D I h
 obtain ⟨W,⟨m0,w0⟩,turn⟩:=h
 refine wpAny_While (codeAny_whileLoop (fun n s'=>∃ σ' H',Inv X pins σ' H' s'/\W n σ' H') ?_ m0 ⟨σ,H,I,w0⟩)
 rintro n s1 ⟨σ1,H1,I1,w1⟩
 refine Pv hp (thn (hc pins s1 σ1 H1 _ I1 (turn n σ1 H1 w1)) fun b s2 zq=>?_)
 obtain ⟨H2,I2,q2⟩:=zq
 cases b with
 | true =>
  obtain ⟨N,hN,q2⟩:=q2
  rw[if_pos rfl]
  refine Pv hp (thn (hb pins s2 σ1 H2 _ I2 q2) fun f s3 q3=>?_)
  cases f with
  | next =>
   obtain ⟨σ3,H3,I3,n3⟩:=q3
   obtain ⟨m',hm,w3⟩:=hN σ3 H3 n3
   exact ⟨m',hm,σ3,H3,I3,w3⟩
  | cont =>
   obtain ⟨σ3,H3,I3,n3⟩:=q3
   obtain ⟨m',hm,w3⟩:=hN σ3 H3 n3
   exact ⟨m',hm,σ3,H3,I3,w3⟩
  | brk=>exact q3
  | ret v=>exact q3
 | false =>
  rw[if_neg N8]
  exact Rg ⟨σ1,H2,I2,q2⟩
end
structure It where
 go:Nat->Hp->Prop
 yld:Nat->Hp->V->Hp->Prop
 stop:Nat->Hp->Prop
noncomputable def mZ (X:Cx) (pins:List (NL×Obj)) (H:Hp) (b:NL):Prop :=
 H b=none/\b≠X.env.locals/\b∉X.fs/\(b∈X.ex\/X.s₀.heap.objs.size<=b)/\(∀ x c,X.env.cells.lookup x=some c->c≠b)/\∀ p∈X.pn++pins,p.1≠b
theorem Inv.rD {X:Cx}{pins:List (NL×Obj)}{σ:St}{H H':Hp}{s:ND}{b:NL} (I:Inv X pins σ H s) (hb:s.heap.objs.size<=b) (hn:H' b=none):mZ X pins H' b:=by
 refine ⟨hn,Qu (N4 I.lt hb),I.La hb,.inr (Ol I.sz hb),fun x c e z=>?_,fun p hp z=>?_⟩
 ·obtain ⟨v,q⟩:=I.cell x c e
  exact absurd (N4 q.lt (by rw[z];exact hb)) (Pa _)
 ·exact absurd (N4 (NK (I.pin p hp).1) (by rw[z];exact hb)) (Pa _)
structure Turn (P:NT) (w:N7) (K:Nz) (tg:Qk) (J:It) (fp:List NL) (it:NL) (tn:Nat->Heap->Prop):Prop where
 mem:it∈fp
 obj:∀ i h,tn i h->∀ b∈fp,∃ o,h.get? b=some o/\∀ v,o.data≠.cell v
 keep:∀ i h h',tn i h->(∀ b∈fp,∀ o,h.get? b=some o->h'.get? b=some o)->tn i h'
 item:∀ (X:Cx),X.prog=P->X.w=w->X.K=K->X.calm=true->∀ (i:Nat) (pins:List (NL×Obj)) (s:ND) (σ:St) (H:Hp) (E:Value->ND->Prop),Inv X pins σ H s->(∀ b∈fp,mZ X pins H b)->tn i s.heap->J.go i H →
  wpAny (N5 P w) X.A (pyNext (.ref it)) (fun r s1=>∃ u,r=some u ∧
   wpAny (N5 P w) X.A (Qw tg (.ref it) u) (fun _ s2=>∃ x H',Inv X pins σ H' s2/\RelV x u/\J.yld i H x H'/\tn (i+1) s2.heap/\∀ b∈fp,H' b=none) E s1) E s
 done:∀ (X:Cx),X.prog=P->X.w=w->X.K=K->X.calm=true->∀ (i:Nat) (pins:List (NL×Obj)) (s:ND) (σ:St) (H:Hp) (E:Value->ND->Prop),Inv X pins σ H s->(∀ b∈fp,mZ X pins H b)->tn i s.heap->J.stop i H →
  wpAny (N5 P w) X.A (pyNext (.ref it)) (fun r s1=>r=none/\Inv X pins σ H s1) E s
 self:∀ (A:Om) (i:Nat) (s:ND) (Q:Value->ND->Prop) (E:Value->ND->Prop),tn i s.heap->Q (.ref it) s->wpAny (N5 P w) A (pyIter (.ref it)) Q E s
noncomputable abbrev TI:=St->Hp->(It->Hp->Prop)->Prop
noncomputable def PIE (X:Cx) (pins:List (NL×Obj)) (σ:St) (tg:Qk) (R:It->Hp->Prop) (itv:Value) (s2:ND):Prop :=
 ∃ (it:NL) (fp:List NL) (tn:Nat->Heap->Prop) (J:It) (H':Hp),itv=.ref it/\Inv X pins σ H' s2/\Turn X.prog X.w X.K tg J fp it tn/\tn 0 s2.heap/\(∀ b∈fp,mZ X pins H' b)/\R J H'
noncomputable def PI (X:Cx) (tg iter:Qk) (wi:TI):Prop :=
 ∀ (pins:List (NL×Obj)) (s:ND) (σ:St) (H:Hp) (R:It->Hp->Prop),Inv X pins σ H s->wi σ H R →
  wpAny (N5 X.prog X.w) X.A (eval iter X.env) (fun v s1=>wpAny (N5 X.prog X.w) X.A (pyIter v) (PIE X pins σ tg R) X.xe s1) X.xe s
theorem nG {M:Model}{A:Om}{E:Value->ND->Prop}{s:ND}{tg:Qk}{it:NL}{u:Value}{o:Obj}{n:String}{vs:Array Value}{Q:Unit->ND->Prop} (ho:s.heap.get? it=some o) (hc:o.cls=.type n) (hd:o.data=.fields vs)
 (hn:["enumerate","zip","dict_itemiterator","dict_reverseitemiterator","odict_iterator","itertools.zip_longest","itertools.pairwise"].contains n=false) (hQ:Q () s):wpAny M A (Qw tg (.ref it) u) Q E s:=by
 unfold Qw
 cases tg<;>first
  | exact wpAny_pure hQ
  | (cases u<;>first
   | exact wpAny_pure hQ
   | (refine NB (wpAny_load ho ?_)
      rw[hc,hd]
      show wpAny M A (if (["enumerate","zip","dict_itemiterator","dict_reverseitemiterator","odict_iterator","itertools.zip_longest","itertools.pairwise"].contains n&&vs[0]?==some (rawInt _))=true then _ else _) Q E s
      rw[if_neg (by intro h;rw[hn,SJ] at h;cases h)]
      exact wpAny_pure hQ))
noncomputable def Itl (K:Nz) (a:NL):It :=
 ⟨fun i H=>∃ xs x,SqL K H a xs/\xs[i]?=some x,fun i H x H'=>H'=H/\∀ xs,SqL K H a xs->xs[i]?=some x,fun i H=>∃ xs,SqL K H a xs/\xs.length<=i⟩
noncomputable def Itt (K:Nz) (a:NL):It :=
 ⟨fun i H=>∃ xs x,SqT K H a xs/\xs[i]?=some x,fun i H x H'=>H'=H/\∀ xs,SqT K H a xs->xs[i]?=some x,fun i H=>∃ xs,SqT K H a xs/\xs.length<=i⟩
noncomputable def Itr (lo:Int) (n:Nat):It:=⟨fun i _=>i < n,fun i H x H'=>H'=H/\x=.int (lo+i),fun i _=>n<=i⟩
theorem vg {P:NT}{w:N7}{K:Nz}{tg:Qk} (a it:NL):Turn P w K tg (Itl K a) [it] it (fun i h=>h.IsListIter it a i) where
 mem:=by simp
 obj:=fun i h st b hb=>by
  have e:b=it:=by simpa using hb
  subst e
  obtain ⟨o,e,c,d⟩:=st
  exact ⟨o,e,fun v z=>by rw[d] at z;cases z⟩
 keep:=fun i h h' st k=>st.at fun o e=>k it (by simp) o e
 item:=by
  intro X hP hw hK hc i pins s σ H E I hf st hg
  subst hP hw hK
  obtain ⟨xs,x,hq,hx⟩:=hg
  obtain ⟨its,rv,p,hz⟩:=I.list hq
  obtain ⟨u,hu,ru⟩:=rv.get hx
  obtain ⟨f0,f1,f2,f3,f4,f5⟩:=hf it (by simp)
  refine wpAny_pyNext_list_item st p.isList (x:=u) (by simpa using hu) fun h' st' sb=>?_
  have I1:Inv X pins σ H { s with heap:=h' }:=I.turned (t':=s.toks) (fun b o hb e=>(sb.2 b hb).trans e) f0 f1 f3 f4 f5
  obtain ⟨o,e,c,d⟩:=id st'
  exact ⟨u,rfl,nG (s:={ s with heap:=h' }) e c d (by decide) ⟨x,H,I1,ru,⟨rfl,fun ys hy=>by rw[I.lO hy hq];exact hx⟩,st',fun b hb=>(hf b hb).1⟩⟩
 done:=by
  intro X hP hw hK hc i pins s σ H E I hf st hg
  subst hP hw hK
  obtain ⟨xs,hq,hx⟩:=hg
  obtain ⟨its,rv,p,hz⟩:=I.list hq
  obtain ⟨f0,f1,f2,f3,f4,f5⟩:=hf it (by simp)
  have hl:=rv.length
  exact wpAny_pyNext_list_end (I.ok.hd hc) st p.isList (by simp;lia) fun h' eb=>⟨rfl,I.turned (t':=s.toks) (fun b o hb e=>eb b o hb e) f0 f1 f3 f4 f5⟩
 self:=fun _ _ _ _ _ st h=>wpAny_pyIter_listiter st h
theorem rE {P:NT}{w:N7}{K:Nz}{tg:Qk} (a it:NL):Turn P w K tg (Itt K a) [it] it (fun i h=>h.IsTupleIter it a i) where
 mem:=by simp
 obj:=fun i h st b hb=>by
  have e:b=it:=by simpa using hb
  subst e
  obtain ⟨o,e,c,d⟩:=st
  exact ⟨o,e,fun v z=>by rw[d] at z;cases z⟩
 keep:=fun i h h' st k=>st.at fun o e=>k it (by simp) o e
 item:=by
  intro X hP hw hK hc i pins s σ H E I hf st hg
  subst hP hw hK
  obtain ⟨xs,x,hq,hx⟩:=hg
  obtain ⟨its,rv,p,hz⟩:=I.tuple hq
  obtain ⟨u,hu,ru⟩:=rv.get hx
  obtain ⟨f0,f1,f2,f3,f4,f5⟩:=hf it (by simp)
  refine wpAny_pyNext_tuple_item st (show s.heap.IsTuple a its.toArray from p) (x:=u) (by simpa using hu) fun h' st' sb=>?_
  have I1:Inv X pins σ H { s with heap:=h' }:=I.turned (t':=s.toks) (fun b o hb e=>(sb.2 b hb).trans e) f0 f1 f3 f4 f5
  obtain ⟨o,e,c,d⟩:=id st'
  exact ⟨u,rfl,nG (s:={ s with heap:=h' }) e c d (by decide) ⟨x,H,I1,ru,⟨rfl,fun ys hy=>by rw[I.nF hy hq];exact hx⟩,st',fun b hb=>(hf b hb).1⟩⟩
 done:=by
  intro X hP hw hK hc i pins s σ H E I hf st hg
  subst hP hw hK
  obtain ⟨xs,hq,hx⟩:=hg
  obtain ⟨its,rv,p,hz⟩:=I.tuple hq
  obtain ⟨f0,f1,f2,f3,f4,f5⟩:=hf it (by simp)
  have hl:=rv.length
  exact wpAny_pyNext_tuple_end (I.ok.hd hc) st (show s.heap.IsTuple a its.toArray from p) (by simp;lia) fun h' eb=>⟨rfl,I.turned (t':=s.toks) (fun b o hb e=>eb b o hb e) f0 f1 f3 f4 f5⟩
 self:=fun _ _ _ _ _ st h=>wpAny_pyIter_tupleiter st h
theorem rF {P:NT}{w:N7}{K:Nz}{tg:Qk} (it:NL) (lo:Int) (n:Nat):Turn P w K tg (Itr lo n) [it] it (fun i h=>Tj h it (lo+(i:Nat)*1) ((n:Int) - (i:Nat)) 1) where
 mem:=by simp
 obj:=fun i h st b hb=>by
  have e:b=it:=by simpa using hb
  subst e
  exact ⟨_,st,fun v z=>by
   have z':Data.fields _=Data.cell v:=z
   cases z'⟩
 keep:=fun i h h' st k=>k it (by simp) _ st
 item:=by
  intro X hP hw hK hc i pins s σ H E I hf st hg
  subst hP hw hK
  obtain ⟨f0,f1,f2,f3,f4,f5⟩:=hf it (by simp)
  have W:=Walks.range (prog:=X.prog) (w:=X.w) (I.ok.hd hc) it lo 1 n
  refine W.item i s _ _ hg st fun v h' tk hv st' kk=>?_
  obtain ⟨t,rfl⟩:=hv
  have I1:Inv X pins σ H { s with heap:=h',toks:=tk }:=I.turned (fun b o hb e=>kk b o (by simpa using hb) e) f0 f1 f3 f4 f5
  refine ⟨_,rfl,nG (s:={ s with heap:=h',toks:=tk }) (n:="range_iterator") st' rfl rfl (by decide) ⟨.int (lo+i),H,I1,⟨t,?_⟩,⟨rfl,rfl⟩,st',fun b hb=>(hf b hb).1⟩⟩
  rw[Int.mul_one]
 done:=by
  intro X hP hw hK hc i pins s σ H E I hf st hg
  subst hP hw hK
  obtain ⟨f0,f1,f2,f3,f4,f5⟩:=hf it (by simp)
  exact wpAny_pyNext_range_end (I.ok.hd hc) st (by have:n<=i:=hg;lia) fun h' eb=>⟨rfl,I.turned (t':=s.toks) (fun b o hb e=>eb b o hb e) f0 f1 f3 f4 f5⟩
 self:=fun _ _ _ _ _ st h=>wpAny_pyIter_rangeiter st h
end L2
namespace L2
open PySem PySem.Spec PyProof.Rows
section
variable {X:Cx}{tg:Qk}
noncomputable def Hx (K:Nz) (tl:TE):TI:=fun σ H R=>tl σ H fun x H1=>∃ a,x=.ref a/\(∃ xs,SqL K H1 a xs)/\R (Itl K a) H1
noncomputable def Lh (K:Nz) (tl:TE):TI:=fun σ H R=>tl σ H fun x H1=>∃ a,x=.ref a/\(∃ xs,SqT K H1 a xs)/\R (Itt K a) H1
theorem tE {l:Qk}{tl:TE} (hl:PE X l tl):PI X tg l (Hx X.K tl):=by
 intro pins s σ H R I h
 refine thn (hl pins s σ H _ I h) fun v s1 zq=>?_
 obtain ⟨x,H1,I1,r1,q1⟩:=zq
 obtain ⟨a,e,⟨xs,hq⟩,q⟩:=q1
 subst e
 cases r1
 obtain ⟨its,rv,p,hz⟩:=I1.list hq
 refine Sh p.isList ?_
 refine ⟨s1.heap.objs.size,[s1.heap.objs.size],_,_,H1,rfl,I1.kept (t':=s1.toks) fun b o e=>NC _ e,vg a _,⟨_,NR _ rfl,rfl,rfl⟩,fun b hb=>?_,q⟩
 have e:b=s1.heap.objs.size:=by simpa using hb
 subst e
 exact I1.rD (NI _) (I1.hok.fresh (NI _))
theorem D5 {l:Qk}{tl:TE} (hl:PE X l tl):PI X tg l (Lh X.K tl):=by
 intro pins s σ H R I h
 refine thn (hl pins s σ H _ I h) fun v s1 zq=>?_
 obtain ⟨x,H1,I1,r1,q1⟩:=zq
 obtain ⟨a,e,⟨xs,hq⟩,q⟩:=q1
 subst e
 cases r1
 obtain ⟨its,rv,p,hz⟩:=I1.tuple hq
 refine wpAny_pyIter_tuple (show s1.heap.IsTuple a its.toArray from p) ?_
 refine ⟨s1.heap.objs.size,[s1.heap.objs.size],_,_,H1,rfl,I1.kept (t':=s1.toks) fun b o e=>NC _ e,rE a _,⟨_,NR _ rfl,rfl,rfl⟩,fun b hb=>?_,q⟩
 have e:b=s1.heap.objs.size:=by simpa using hb
 subst e
 exact I1.rD (NI _) (I1.hok.fresh (NI _))
theorem wR {pins:List (NL×Obj)}{σ:St}{H:Hp}{s:ND}{R:It->Hp->Prop}{E:Value->ND->Prop}{lo hi:Int}{t u v:Tok}{tk:Nat} (I:Inv X pins σ H s) (h1:-(2 ^ 62)<=lo) (h2:lo < 2 ^ 62) (h3:-(2 ^ 62)<=hi) (h4:hi < 2 ^ 62)
 (q:R (Itr lo (hi - lo).toNat) H):wpAny (N5 X.prog X.w) X.A (pyIter (.ref s.heap.objs.size)) (PIE X pins σ tg R) E { s with heap:=s.heap.push { cls:=.type "range",data:=.fields #[.int lo t,.int hi u,.int 1 v] },toks:=tk }:=by
 refine wpAny_pyIter_range (IsRange.new ..) (small_one h1 h2 h3 h4) ?_
 have I1:Inv X pins σ H { s with heap:=s.heap.push { cls:=.type "range",data:=.fields #[.int lo t,.int hi u,.int 1 v] },toks:=tk }:=I.kept fun b o e=>NC _ e
 refine ⟨(s.heap.push { cls:=.type "range",data:=.fields #[.int lo t,.int hi u,.int 1 v] }).objs.size,[(s.heap.push { cls:=.type "range",data:=.fields #[.int lo t,.int hi u,.int 1 v] }).objs.size],_,_,H,rfl,
  I1.kept (t':=tk) fun b o e=>NC _ e,rF _ lo (hi - lo).toNat,?_,fun b hb=>?_,q⟩
 ·have e1:lo+((0:Nat):Int)*1=lo:=by simp
  have e2:(((hi - lo).toNat:Nat):Int) - ((0:Nat):Int)=Rv lo hi 1:=by rw[rangeSize_one];split<;>lia
  show Tj _ _ (lo+((0:Nat):Int)*1) ((((hi - lo).toNat:Nat):Int) - ((0:Nat):Int)) 1
  rw[e1,e2]
  exact NR _ rfl
 ·have e:b=(s.heap.push { cls:=.type "range",data:=.fields #[.int lo t,.int hi u,.int 1 v] }).objs.size:=by simpa using hb
  subst e
  exact I1.rD (NI _) (I1.hok.fresh (NI _))
noncomputable def Hy (ta:TA):TI:=fun σ H R=>ta σ H fun vs H1=>∃ j:Int,vs=[.int j]/\-(2 ^ 62)<=j/\j < 2 ^ 62/\R (Itr 0 j.toNat) H1
theorem vh {a:Qk}{ta:TA}{p pos:Pos} (hg:Gl X "range") (hm:X.mg "range"=none) (ha:PA X [a] ta) (hs:Oc [a] X.env=[(false,eval a X.env)]:=by rfl):PI X tg (.Call (.Name "range" p) [a] [] pos) (Hy ta):=by
 intro pins s σ H R I h
 refine Call_ (jB I hg hm boot_range (OO (thn (ha pos pins s σ H _ I h) fun us s1 ⟨vs,H1,I1,r1,q1⟩=>?_) hs rfl))
 obtain ⟨j,e,q1,q2,q⟩:=q1
 subst e
 cases r1 with
 | cons r rr =>
  cases rr
  obtain ⟨t,rfl⟩:=r
  exact call_range_1 (wR I1 (by lia) (by lia) q1 q2 (by simpa using q))
noncomputable def Hz (wi:TI) (g:TG) (tb:TS):TS:=fun D σ H=>wi σ H fun J H1=>∃ W:Nat->Nat->St->Hp->Prop,(∃ m,W 0 m σ H1)/\∀ i m σ H,W i m σ H →
 (J.stop i H/\D.nx σ H)\/(J.go i H/\∃ N:St->Hp->Prop,(∀ σ' H',N σ' H'->∃ m',m' < m/\W (i+1) m' σ' H')/\∀ x H',J.yld i H x H'->g x σ H' fun σ2 H2=>tb { D with nx:=N,ct:=N,bk:=D.nx } σ2 H2)
noncomputable def ko (fp:List NL) (h:Heap):List (NL×Obj):=fp.filterMap fun b=>(h.get? b).map fun o=>(b,o)
theorem gY {fp:List NL}{h:Heap}{b:NL}{o:Obj} (hb:b∈fp) (e:h.get? b=some o):(b,o)∈ko fp h:=List.mem_filterMap.mpr ⟨b,hb,by rw[e];rfl⟩
theorem vj {fp:List NL}{h:Heap}{p:NL×Obj} (hp:p∈ko fp h):p.1∈fp/\h.get? p.1=some p.2:=by
 obtain ⟨b,hb,e⟩:=List.mem_filterMap.mp hp
 cases q:h.get? b with
 | none=>rw[q] at e;cases e
 | some o =>
  rw[q] at e
  have e':(b,o)=p:=NO e
  subst e'
  exact ⟨hb,q⟩
theorem Inv.pinned {pins:List (NL×Obj)}{σ:St}{H:Hp}{s:ND}{fp:List NL} (I:Inv X pins σ H s) (hf:∀ b∈fp,mZ X pins H b) (ho:∀ b∈fp,∃ o,s.heap.get? b=some o/\∀ v,o.data≠.cell v):Inv X (pins++ko fp s.heap) σ H s :=
 I.lq fun p hp=>(List.mem_append.mp hp).elim (fun z=>I.pin p (Ob _ z)) fun z=>by
  obtain ⟨hb,e⟩:=vj z
  obtain ⟨f0,f1,f2,_⟩:=hf p.1 hb
  obtain ⟨o,e',d⟩:=ho p.1 hb
  rw[e] at e';cases e'
  exact ⟨e,f0,f1,f2,d⟩
theorem Inv.jN {pins pl:List (NL×Obj)}{σ:St}{H:Hp}{s:ND} (I:Inv X (pins++pl) σ H s):Inv X pins σ H s:=I.lq fun p hp=>I.pin p (Ob _ (Qh _ hp))
theorem D6 {iter:Qk}{body:List RX}{wi:TI}{g:TG}{tb:TS}{pos:Pos} (hp:PassesOwn (N5 X.prog X.w) X.A X.env X.xe) (hc:X.calm=true) (hi:PI X tg iter wi) (hg:PG X tg g) (hb:PSs X body tb)
 (hs:∀ x,foldedSetIterable iter X.env x=pure x:=by intro _;rfl):PS X (.For tg iter body [] pos) (Hz wi g tb):=by
 intro pins s σ H D I h
 refine wpAny_For (thn (hi pins s σ H _ I h) fun v s1 h1=>thn h1 fun itv s2 h2=>?_) hs
 obtain ⟨it,fp,tn,J,H2,e,I2,T,st2,f2,W,⟨m0,w0⟩,turn⟩:=h2
 subst e
 have stat:∀ {H':Hp},(∀ b∈fp,H' b=none)->∀ b∈fp,mZ X pins H' b:=fun hn b hb=>⟨hn b hb,(f2 b hb).2⟩
 refine codeAny_forLoop_any (fun n s'=>∃ i σ' H',Inv X pins σ' H' s'/\tn i s'.heap/\(∀ b∈fp,H' b=none)/\W i n σ' H') ?_ m0 ⟨0,σ,H2,I2,st2,fun b hb=>(f2 b hb).1,w0⟩
 rintro n s3 ⟨i,σ3,H3,I3,st3,fr3,w3⟩
 rcases turn i n σ3 H3 w3 with ⟨stop,qn⟩ | ⟨go,N,hN,step⟩
 ·refine Pv hp (thn (T.done X rfl rfl rfl hc i pins s3 σ3 H3 X.xe I3 (stat fr3) st3 stop) fun r s4 zq=>?_)
  obtain ⟨hr,I4⟩:=zq
  subst hr
  exact Rg ⟨σ3,H3,I4,qn⟩
 ·refine Pv hp (thn (T.item X rfl rfl rfl hc i pins s3 σ3 H3 X.xe I3 (stat fr3) st3 go) fun r s4 zq=>?_)
  obtain ⟨u,hr,h4⟩:=zq
  subst hr
  refine Pv hp (thn h4 fun _ s5 zq=>?_)
  obtain ⟨x,H5,I5,r5,y5,st5,fr5⟩:=zq
  have I5':=I5.pinned (stat fr5) (T.obj _ _ st5)
  refine Pv hp (thn (hg _ s5 σ3 H5 x u _ I5' r5 (step x H5 y5)) fun _ s6 zq=>?_)
  obtain ⟨σ6,H6,I6,q6⟩:=zq
  refine Pv hp (thn (hb _ s6 σ6 H6 _ I6 q6) fun f s7 q7=>?_)
  have again:∀ {σ7:St}{H7:Hp},Inv X (pins++ko fp s5.heap) σ7 H7 s7->N σ7 H7->∃ m,m < n/\∃ i σ' H',Inv X pins σ' H' s7/\tn i s7.heap/\(∀ b∈fp,H' b=none)/\W i m σ' H':=fun {σ7 H7} I7 n7=>by
   obtain ⟨m',hm,w7⟩:=hN σ7 H7 n7
   refine ⟨m',hm,i+1,σ7,H7,I7.jN,T.keep _ _ _ st5 fun b hb o e=>(I7.pin (b,o) (Ob _ (Ob _ (gY hb e)))).1,fun b hb=>?_,w7⟩
   obtain ⟨o,e,d⟩:=T.obj _ _ st5 b hb
   exact (I7.pin (b,o) (Ob _ (Ob _ (gY hb e)))).2.1
  cases f with
  | next=>obtain ⟨σ7,H7,I7,n7⟩:=q7;exact again I7 n7
  | cont=>obtain ⟨σ7,H7,I7,n7⟩:=q7;exact again I7 n7
  | brk=>obtain ⟨σ7,H7,I7,q7⟩:=q7;exact ⟨σ7,H7,I7.jN,q7⟩
  | ret v=>obtain ⟨x7,σ7,H7,I7,r7,q7⟩:=q7;exact ⟨x7,σ7,H7,I7.jN,r7,q7⟩
end
end L2
namespace L2
open PySem PySem.Spec PyProof.Rows
noncomputable abbrev R2:=V->V->Hp->VK->Prop
noncomputable def OpR (X:Cx) (f:Value->Value->Sem Value) (r:R2):Prop :=
 ∀ (pins:List (NL×Obj)) (s:ND) (σ:St) (H:Hp) (x y:V) (v u:Value) (Q:VK),Inv X pins σ H s->RelV x v->RelV y u->r x y H Q →
  wpAny (N5 X.prog X.w) X.A (f v u) (EP X pins σ Q) X.xe s
noncomputable def UnR (X:Cx) (f:Value->Sem Value) (r:V->Hp->VK->Prop):Prop :=
 ∀ (pins:List (NL×Obj)) (s:ND) (σ:St) (H:Hp) (x:V) (v:Value) (Q:VK),Inv X pins σ H s->RelV x v->r x H Q →
  wpAny (N5 X.prog X.w) X.A (f v) (EP X pins σ Q) X.xe s
noncomputable def ff (X:Cx) (f:Value) (r:List V->Hp->VK->Prop):Prop :=
 ∀ (pins:List (NL×Obj)) (s:ND) (σ:St) (H:Hp) (xs:List V) (us:List Value) (Q:VK),Inv X pins σ H s->cZ xs us->r xs H Q →
  wpAny (N5 X.prog X.w) X.A (call f us) (EP X pins σ Q) X.xe s
noncomputable def tOp (r:R2) (ta tb:TE):TE:=fun σ H Q=>ta σ H fun x H1=>tb σ H1 fun y H2=>r x y H2 Q
noncomputable def tUn (r:V->Hp->VK->Prop) (ta:TE):TE:=fun σ H Q=>ta σ H fun x H1=>r x H1 Q
noncomputable def rI (C:Int->Int->Prop) (g:Int->Int->V):R2:=fun x y H Q=>∃ i j,x=.int i/\y=.int j/\C i j/\Q (g i j) H
noncomputable def rI0 (g:Int->Int->V):R2:=fun x y H Q=>∃ i j,x=.int i/\y=.int j/\Q (g i j) H
noncomputable def rU (g:Int->V):V->Hp->VK->Prop:=fun x H Q=>∃ i,x=.int i/\Q (g i) H
section
variable {X:Cx}{a b c:Qk}{ta tb tc:TE}{pos:Pos}
theorem D7 (ha:PE X a ta) (hb:PE X b tb) {pins:List (NL×Obj)}{s:ND}{σ:St}{H:Hp}{R:V->V->Hp->Prop} (I:Inv X pins σ H s)
 (h:ta σ H fun x H1=>tb σ H1 fun y H2=>R x y H2) {Q:Value->ND->Prop}{f:Value->Value->Sem Value}
 (hf:∀ v u s2 x y H2,Inv X pins σ H2 s2->RelV x v->RelV y u->R x y H2->wpAny (N5 X.prog X.w) X.A (f v u) Q X.xe s2) :
 wpAny (N5 X.prog X.w) X.A (eval a X.env) (fun v s₁=>wpAny (N5 X.prog X.w) X.A (eval b X.env) (fun u s₂=>wpAny (N5 X.prog X.w) X.A (f v u) Q X.xe s₂) X.xe s₁) X.xe s:=by
 refine thn (ha pins s σ H _ I h) fun v s1 zq=>?_
 obtain ⟨x,H1,I1,r1,q1⟩:=zq
 refine thn (hb pins s1 σ H1 _ I1 q1) fun u s2 zq=>?_
 obtain ⟨y,H2,I2,r2,q2⟩:=zq
 exact hf v u s2 x y H2 I2 r1 r2 q2
theorem HA {op:QK}{r:R2} (ho:OpR X (OW op) r) (ha:PE X a ta) (hb:PE X b tb):PE X (.BinOp a op b pos) (tOp r ta tb):=by
 intro pins s σ H Q I h
 exact wpAny_BinOp (D7 ha hb I h fun v u s2 x y H2 I2 rx ry q=>ho pins s2 σ H2 x y v u Q I2 rx ry q)
theorem wU {op:UnaryOp}{r:V->Hp->VK->Prop} (ho:UnR X (unaryOp op) r) (ha:PE X a ta):PE X (.UnaryOp op a pos) (tUn r ta):=by
 intro pins s σ H Q I h
 exact UnaryOp_ (thn (ha pins s σ H _ I h) fun v s1 ⟨x,H1,I1,r1,q1⟩=>ho pins s1 σ H1 x v Q I1 r1 q1)
theorem opI {f:Value->Value->Sem Value}{C:Int->Int->Prop}{g:Int->Int->Int}
 (rule:∀ (i j:Int) (t u:Tok) (s:ND) (Q:Value->ND->Prop) (E:Value->ND->Prop),C i j->Q (.int (g i j) s.toks) { s with toks:=s.toks+1 }->wpAny (N5 X.prog X.w) X.A (f (.int i t) (.int j u)) Q E s) :
 OpR X f (rI C fun i j=>.int (g i j)):=by
 intro pins s σ H x y v u Q I rx ry h
 obtain ⟨i,j,rfl,rfl,hc,q⟩:=h
 obtain ⟨t,rfl⟩:=rx
 obtain ⟨t',rfl⟩:=ry
 exact rule i j t t' s _ _ hc ⟨.int (g i j),H,I.tok _,⟨_,rfl⟩,q⟩
theorem HB {f:Value->Value->Sem Value}{g:Int->Int->Int}
 (rule:∀ (i j:Int) (t u:Tok) (s:ND) (Q:Value->ND->Prop) (E:Value->ND->Prop),Q (.int (g i j) s.toks) { s with toks:=s.toks+1 }->wpAny (N5 X.prog X.w) X.A (f (.int i t) (.int j u)) Q E s) :
 OpR X f (rI0 fun i j=>.int (g i j)):=by
 intro pins s σ H x y v u Q I rx ry h
 obtain ⟨i,j,rfl,rfl,q⟩:=h
 obtain ⟨t,rfl⟩:=rx
 obtain ⟨t',rfl⟩:=ry
 exact rule i j t t' s _ _ ⟨.int (g i j),H,I.tok _,⟨_,rfl⟩,q⟩
theorem AD {f:Value->Value->Sem Value}{g:Int->Int->Bool}
 (rule:∀ (i j:Int) (t u:Tok) (s:ND) (Q:Value->ND->Prop) (E:Value->ND->Prop),Q (.bool (g i j)) s->wpAny (N5 X.prog X.w) X.A (f (.int i t) (.int j u)) Q E s) :
 OpR X f (rI0 fun i j=>.bl (g i j)):=by
 intro pins s σ H x y v u Q I rx ry h
 obtain ⟨i,j,rfl,rfl,q⟩:=h
 obtain ⟨t,rfl⟩:=rx
 obtain ⟨t',rfl⟩:=ry
 exact rule i j t t' s _ _ ⟨.bl (g i j),H,I,rfl,q⟩
noncomputable def Li (i j:Int):Prop:=0 < j/\j < 1073741824
noncomputable def Lj (i j:Int):Prop:=0<=j/\j<=1000000/\i.natAbs < 2 ^ 64
noncomputable def AE (i j:Int):Prop:=(-(2 ^ 64) < i/\i < 2 ^ 64)\/(-(2 ^ 64) < j/\j < 2 ^ 64)
theorem AE.ok {i j:Int} (h:AE i j):IntMulOk i j:=by
 rcases h with ⟨h1,h2⟩ | ⟨h1,h2⟩
 ·exact .of_left (intBits_le_64 h1 h2)
 ·exact .of_right (intBits_le_64 h1 h2)
theorem D8:OpR X (OW .Add) (rI0 fun i j=>.int (i+j)):=HB fun _ _ _ _ _ _ _ q=>add_int q
theorem D9:OpR X (OW .Sub) (rI0 fun i j=>.int (i - j)):=HB fun _ _ _ _ _ _ _ q=>sub_int q
theorem Eb:OpR X (OW .Mult) (rI AE fun i j=>.int (i*j)):=opI fun _ _ _ _ _ _ _ hc q=>mul_int q hc.ok
theorem AF:OpR X (OW .FloorDiv) (rI Li fun i j=>.int (i / j)):=opI fun i j _ _ _ _ _ hc q=>by
 have h1:(0:Int) < j:=hc.1
 have h2:j < 1073741824:=hc.2
 exact floordiv_int (by lia) (by rw[Int.fdiv_eq_ediv_of_nonneg i (by lia)];exact q) (.inl (SA (by lia)))
theorem Ec:OpR X (OW .Mod) (rI (fun _ j=>0 < j) fun i j=>.int (i % j)):=opI fun i j _ _ _ _ _ hc q=>by
 have h1:(0:Int) < j:=hc
 exact mod_int' (by lia) (by rw[Int.fmod_eq_emod_of_nonneg i (by lia)];exact q)
theorem Ed:OpR X (OW .Pow) (rI Lj fun i j=>.int (i ^ j.toNat)):=opI fun _ _ _ _ _ _ _ hc q=>pow_int_small hc.1 hc.2.1 hc.2.2 q
theorem unI {f:Value->Sem Value}{g:Int->Int}
 (rule:∀ (i:Int) (t:Tok) (s:ND) (Q:Value->ND->Prop) (E:Value->ND->Prop),Q (.int (g i) s.toks) { s with toks:=s.toks+1 }->wpAny (N5 X.prog X.w) X.A (f (.int i t)) Q E s) :
 UnR X f (rU fun i=>.int (g i)):=by
 intro pins s σ H x v Q I rx h
 obtain ⟨i,rfl,q⟩:=h
 obtain ⟨t,rfl⟩:=rx
 exact rule i t s _ _ ⟨.int (g i),H,I.tok _,⟨_,rfl⟩,q⟩
theorem rG:UnR X (unaryOp .USub) (rU fun i=>.int (-i)):=unI fun _ _ _ _ _ q=>neg_int q
end
section
variable {X:Cx}{a b c:Qk}{ta tb tc:TE}{pos:Pos}
theorem wV {pins:List (NL×Obj)}{σ:St}{H:Hp}{s:ND}{Q:VK}{k k':Bool} (I:Inv X pins σ H s) (q:Q (.bl k) H) (e:k=k'):EP X pins σ Q (.bool k') s:=by
 subst e
 exact ⟨.bl k,H,I,rfl,q⟩
theorem HC:OpR X (Oq .Lt) (rI0 fun i j=>.bl (decide (i < j))):=AD fun _ _ _ _ _ _ _ q=>lt_int q
theorem HD:OpR X (Oq .LtE) (rI0 fun i j=>.bl (decide (i<=j))):=AD fun _ _ _ _ _ _ _ q=>le_int q
theorem HE:OpR X (Oq .Gt) (rI0 fun i j=>.bl (decide (j < i))):=AD fun _ _ _ _ _ _ _ q=>gt_int q
theorem HF:OpR X (Oq .GtE) (rI0 fun i j=>.bl (decide (j<=i))):=AD fun _ _ _ _ _ _ _ q=>ge_int q
theorem Ef:OpR X (Oq .Is) (fun x y H Q=>y=.non/\Q (.bl (decide (x=.non))) H):=by
 intro pins s σ H x y v u Q I rx ry h
 obtain ⟨rfl,q⟩:=h
 cases ry
 refine is_none_gen (wV I q ?_)
 cases x<;>first
  | (cases rx;rfl)
  | (obtain ⟨t,rfl⟩:=rx;rfl)
theorem AG:OpR X (Oq .IsNot) (fun x y H Q=>y=.non/\Q (.bl (!decide (x=.non))) H):=by
 intro pins s σ H x y v u Q I rx ry h
 obtain ⟨rfl,q⟩:=h
 cases ry
 refine isnot_none_gen (wV I q ?_)
 cases x<;>first
  | (cases rx;rfl)
  | (obtain ⟨t,rfl⟩:=rx;rfl)
theorem tF {op:CmpOp}{r:R2} (ho:OpR X (Oq op) r) (ha:PE X a ta) (hb:PE X b tb) (hm:RT op b=false):PE X (.Compare a [op] [b] pos) (tOp r ta tb):=by
 intro pins s σ H Q I h
 exact wpAny_Compare1 (D7 ha hb I h fun v u s2 x y H2 I2 rx ry q=>ho pins s2 σ H2 x y v u Q I2 rx ry q) hm
noncomputable def wW (t:TE):TT:=fun σ H Q=>t σ H fun x H'=>∃ k,x=.bl k/\Q k H'
theorem tG {op:CmpOp}{r:R2} (ho:OpR X (Oq op) r) (ha:PE X a ta) (hb:PE X b tb) (hm:RT op b=false):PT X (.Compare a [op] [b] pos) (wW (tOp r ta tb)):=by
 intro pins s σ H Q I h
 refine wpAny_isTrue_Compare1 (thn (ha pins s σ H _ I h) fun v s1 ⟨x,H1,I1,r1,q1⟩=>thn (hb pins s1 σ H1 _ I1 q1) fun u s2 ⟨y,H2,I2,r2,q2⟩ =>
  thn (ho pins s2 σ H2 x y v u _ I2 r1 r2 q2) fun c s3 ⟨z,H3,I3,r3,k,e,q3⟩=>?_) hm
 subst e
 cases r3
 exact OM ⟨H3,I3,q3⟩
noncomputable def rH (r r':R2) (ta tb tc:TE):TE:=fun σ H Q=>ta σ H fun x H1=>tb σ H1 fun y H2=>r x y H2 fun z H3=>∃ k,z=.bl k ∧
 (if k=true then tc σ H3 fun w' H4=>r' y w' H4 Q else Q (.bl false) H3)
theorem wX {op op':CmpOp}{r r':R2} (ho:OpR X (Oq op) r) (ho':OpR X (Oq op') r') (ha:PE X a ta) (hb:PE X b tb) (hc:PE X c tc)
 (hm:lastMarks [op,op'] [b,c]=false:=by with_unfolding_all rfl):PE X (.Compare a [op,op'] [b,c] pos) (rH r r' ta tb tc):=by
 intro pins s σ H Q I h
 refine Compare_chain (thn (ha pins s σ H _ I h) fun v s1 ⟨x,H1,I1,r1,q1⟩=>chain_link (thn (hb pins s1 σ H1 _ I1 q1) fun u s2 ⟨y,H2,I2,r2,q2⟩ =>
  thn (ho pins s2 σ H2 x y v u _ I2 r1 r2 q2) fun d s3 ⟨z,H3,I3,r3,k,e,q3⟩=>?_)) hm
 subst e
 cases r3
 refine OM ?_
 cases k with
 | false=>exact ite_ff ⟨.bl false,H3,I3,rfl,q3⟩
 | true=>exact ite_tt (chain_last (thn (hc pins s3 σ H3 _ I3 q3) fun w' s4 ⟨z',H4,I4,r4,q4⟩=>ho' pins s4 σ H4 y z' u w' Q I4 r2 r4 q4))
theorem wY {op op':CmpOp}{r r':R2} (ho:OpR X (Oq op) r) (ho':OpR X (Oq op') r') (ha:PE X a ta) (hb:PE X b tb) (hc:PE X c tc)
 (hm:lastMarks [op,op'] [b,c]=false:=by with_unfolding_all rfl):PT X (.Compare a [op,op'] [b,c] pos) (wW (rH r r' ta tb tc)):=by
 intro pins s σ H Q I h
 refine isTrue_chain (thn (ha pins s σ H _ I h) fun v s1 ⟨x,H1,I1,r1,q1⟩=>test_link (thn (hb pins s1 σ H1 _ I1 q1) fun u s2 ⟨y,H2,I2,r2,q2⟩ =>
  thn (ho pins s2 σ H2 x y v u _ I2 r1 r2 q2) fun d s3 ⟨z,H3,I3,r3,k,e,q3⟩=>?_)) hm
 subst e
 cases r3
 refine OM ?_
 cases k with
 | false =>
  obtain ⟨k',e',q'⟩:=q3
  cases e'
  exact ite_ff ⟨H3,I3,q'⟩
 | true =>
  refine ite_tt (test_last (thn (hc pins s3 σ H3 _ I3 q3) fun w' s4 ⟨z',H4,I4,r4,q4⟩=>thn (ho' pins s4 σ H4 y z' u w' _ I4 r2 r4 q4) fun d' s5 zq=>?_))
  obtain ⟨z2,H5,I5,r5,k2,e2,q5⟩:=zq
  subst e2
  cases r5
  exact OM ⟨H5,I5,q5⟩
theorem kq:(sizeLine:Nat) < 2 ^ 63:=by rw[RC];decide
theorem rJ:OpR X (OW .Add) (fun x y H Q=>∃ i j,x=.str i/\y=.str j/\i.length+j.length<=sizeLine/\Q (.str (i++j)) H):=by
 intro pins s σ H x y v u Q I rx ry h
 obtain ⟨i,j,rfl,rfl,hz,q⟩:=h
 obtain ⟨t,rfl⟩:=rx
 obtain ⟨t',rfl⟩:=ry
 exact add_str (fun t' tk=>⟨.str (i++j),H,I.tok _,⟨_,rfl⟩,q⟩) hz
theorem vals1 {x:V}{us:List Value} (r:cZ [x] us):∃ u,us=[u]/\RelV x u:=by
 cases r with
 | cons r1 r2=>cases r2;exact ⟨_,rfl,r1⟩
theorem vals2 {x y:V}{us:List Value} (r:cZ [x,y] us):∃ u w',us=[u,w']/\RelV x u/\RelV y w':=by
 cases r with
 | cons r1 r2 =>
  cases r2 with
  | cons r3 r4=>cases r4;exact ⟨_,_,rfl,r1,r3⟩
theorem wZ:ff X (.builtin "abs") (fun xs H Q=>∃ i,xs=[.int i]/\Q (.int (if i < 0 then -i else i)) H):=by
 intro pins s σ H xs us Q I r h
 obtain ⟨i,rfl,q⟩:=h
 obtain ⟨u,rfl,t,rfl⟩:=vals1 r
 exact call_abs_int fun u tk=>⟨.int (if i < 0 then -i else i),H,I.tok _,⟨_,rfl⟩,q⟩
theorem vm (hc:X.calm=true):ff X (.builtin "max") (fun xs H Q=>∃ i j,xs=[.int i,.int j]/\Q (.int (if j > i then j else i)) H):=by
 intro pins s σ H xs us Q I r h
 obtain ⟨i,j,rfl,q⟩:=h
 obtain ⟨u,w',rfl,⟨t,rfl⟩,⟨t',rfl⟩⟩:=vals2 r
 refine max_two_ints (I.ok.hd hc) fun h' tk k=>⟨_,H,I.kept k,?_,q⟩
 by_cases hj:j > i
 ·rw[if_pos hj,if_pos hj];exact ⟨_,rfl⟩
 ·rw[if_neg hj,if_neg hj];exact ⟨_,rfl⟩
theorem vn (hc:X.calm=true):ff X (.builtin "min") (fun xs H Q=>∃ i j,xs=[.int i,.int j]/\Q (.int (if j < i then j else i)) H):=by
 intro pins s σ H xs us Q I r h
 obtain ⟨i,j,rfl,q⟩:=h
 obtain ⟨u,w',rfl,⟨t,rfl⟩,⟨t',rfl⟩⟩:=vals2 r
 refine min_two_ints (I.ok.hd hc) fun h' tk k=>⟨_,H,I.kept k,?_,q⟩
 by_cases hj:j < i
 ·rw[if_pos hj,if_pos hj];exact ⟨_,rfl⟩
 ·rw[if_neg hj,if_neg hj];exact ⟨_,rfl⟩
theorem nH:ff X (.type "int") (fun xs H Q=>(∃ i,xs=[.int i]/\Q (.int i) H)\/∃ k,xs=[.bl k]/\Q (.int (if k then 1 else 0)) H):=by
 intro pins s σ H xs us Q I r h
 rcases h with ⟨i,rfl,q⟩ | ⟨k,rfl,q⟩
 ·obtain ⟨u,rfl,t,rfl⟩:=vals1 r
  exact call_int_int ⟨.int i,H,I,⟨_,rfl⟩,q⟩
 ·obtain ⟨u,rfl,r1⟩:=vals1 r
  cases r1
  exact call_int_bool ⟨.int (if k then 1 else 0),H,I.tok _,⟨_,rfl⟩,q⟩
theorem oi:ff X (.type "str") (fun xs H Q=>∃ i,xs=[.int i]/\i.natAbs.log2 < 1920/\Q (.str (toString i)) H):=by
 intro pins s σ H xs us Q I r h
 obtain ⟨i,rfl,hz,q⟩:=h
 obtain ⟨u,rfl,t,rfl⟩:=vals1 r
 exact PySem.P.str_of_int hz ⟨.str _,H,I.tok _,⟨_,rfl⟩,q⟩
end
end L2
namespace L2
open PySem PySem.Spec PyProof.Rows
structure rK (h:Heap) (x dx C:NL) (mA:Str->Option Value):Prop where
 obj:h.get? x=some (O1 C dx)
 ns:h.Ns1 dx mA
 ne:dx≠x
theorem vo {h:Heap}{dx:NL}{mA:Str->Option Value} (n:h.Ns1 dx mA):∃ od,h.get? dx=some od/\∀ name,QU name od=some (mA name):=by
 obtain ⟨o,es,ep,ho,hd,hk,_,hm⟩:=n
 refine ⟨o,ho,fun name=>?_⟩
 have e:=hm name
 unfold nsFind findBy at e
 rw[← Array.find?_toList] at e
 unfold QU
 rw[hd]
 dsimp only
 split
 ·rename_i y q
  rw[q] at e
  exact congrArg some e
 ·rename_i q
  rw[q] at e
  have a:es.toList.any (·.refKey)=false:=by
   rw[List.any_eq_false]
   intro y hy
   obtain ⟨z,t,hkey⟩:=hk y (Array.mem_toList_iff.mp hy)
   simp[DictEntry.refKey,hkey]
  have a':¬ es.toList.any (·.refKey)=true:=by rw[a];exact N8
  rw[if_neg a']
  exact congrArg some e
theorem rK.look {h:Heap}{x dx C:NL}{mA:Str->Option Value} (I:rK h x dx C mA):∃ od,PySem.W.InstAt h x (O1 C dx) C (some od)/\∀ name,QU name od=some (mA name) :=
 let ⟨od,ho,hl⟩:=vo I.ns
 ⟨od,⟨I.obj,rfl,rfl,ho⟩,hl⟩
section
variable {prog:NT}{w:N7}{A:Om}{E:Value->ND->Prop}{s:ND}{K:Nz}{x dx C f:NL}{mA:Str->Option Value}{name:Str}{v:Value}
theorem get_map {expr:Bool}{Q:Value->ND->Prop} (X:K.In s.heap) (I:rK s.heap x dx C mA) (hg:P8 K C name=true) (hh:Pf K C=true)
 (ha:N9 K (.ref C) name=some none) (hv:mA name=some v) (hv':T6 v=true) (h:Q v { s with toks:=s.toks+1 }) :
 wpAny (N5 prog w) A (getAttr (.ref x) name expr) Q E s:=by
 obtain ⟨od,J,hl⟩:=I.look
 exact PySem.W.get_value X J (Q2 hg).1 (PySem.W.findObj_own hh ha rfl (by rw[hl,hv])) hv' h
theorem xg {pl:Sem Bool}{Q:Value×List Value->ND->Prop} (X:K.In s.heap) (I:rK s.heap x dx C mA) (hg:P8 K C name=true)
 (hf:N9 K (.ref C) name=some (some (.ref f))) (ht:Rn K (.ref f)=true) (hv:mA name=none) (h:Q (.ref f,[.ref x]) s) :
 wpAny (N5 prog w) A (S9 (.ref x) name pl) Q E s:=by
 obtain ⟨od,J,hl⟩:=I.look
 exact PySem.W.method_fn X J (Q2 hg).1 (Q2 hg).2 hf (beq_iff_eq.mp ht) (by show (QU name od).map (·.isSome)=some false;rw[hl,hv];rfl) h
theorem AH {ns:List Str}{Q:Unit->ND->Prop} (X:K.In s.heap) (I:rK s.heap x dx C mA)
 (hs:N9 K (.ref C) "__setattr__"=some (some (.builtin "object.__setattr__"))) (hp:Rj K C=true) (ht:RI K C name=some none) (hh:Pf K C=true)
 (hw:Tf mA ns) (hsz:ns.length<=sizeLine)
 (h:∀ h',rK h' x dx C (fun y=>if y=name then some v else mA y)->Oh dx s.heap h'->Q () { s with heap:=h',toks:=s.toks+2 }) :
 wpAny (N5 prog w) A (setAttr (.ref x) name v) Q E s:=by
 obtain ⟨od,J,hl⟩:=I.look
 refine PySem.W.set_plain X J hs (PySem.W.osa_open (s:={ s with toks:=s.toks+1 }) (r:=none) X J hp ht fun b=>?_)
 obtain ⟨cd,hc,hd'⟩:=PySem.W.any_some hh
 have hx:s.heap.get? x=some ⟨.ref C,some dx,.plain,#[]⟩:=I.obj
 refine NB (wpAny_pure (NB (NB (wpAny_loadPart hx (NB (PySem.W.Looks.here (s:={ s with toks:=s.toks+1 }) (PySem.W.looks_clsIn X hc) ?_))))))
 rw[hd']
 refine wpAny_pure (a:=some dx) (NB (wpAny_pure (NB ?_)))
 refine wpAny_nsSet1 (s:={ s with toks:=s.toks+1 }) I.ns fun h' hn2 hs2=>?_
 obtain ⟨oD,esD,epD,hoD,hdD,hcD⟩:=hn2.count (PySem.Within.cons name v hw)
 refine NB (wpAny_lookBehind hoD (by rw[hdD];exact pastItsLine_dict (Ol hcD (by rw[NJ];lia))) ?_)
 exact wpAny_pure (h _ ⟨(hs2.2 _ (QB I.ne)).trans I.obj,hn2,I.ne⟩ hs2)
theorem xh {R:Result->ND->Prop}{vs:List Value}{kw:List (Str×Value)} (X:K.In s.heap) (hm:RJ K C=true)
 (hi:N9 K (.ref C) "__init__"=some (some (.ref f))) (hf:PySem.W.typeIn K (.ref f)=some (.type "function"))
 (h:codeAny (N5 prog w) (A.under (.builtin "type.__call__" ⟨.ref C :: vs,kw⟩)) (.call (.ref f) ⟨.ref (s.heap.objs.size+1) :: vs,kw⟩) (PySem.W.InitBack (s.heap.objs.size+1) R)
  { s with heap:=(s.heap.push OE).push (O1 C s.heap.objs.size) }) :
 codeAny (N5 prog w) A (.call (.ref C) ⟨vs,kw⟩) R s:=by
 obtain ⟨hh,g,d,t,os⟩:=s
 exact PySem.W.make_core (PySem.W.makes_of X hm) (PySem.W.looks_findIn X hi) (fun self=>PySem.W.bind_fn X self hf) (.inl rfl) h
end
noncomputable def eY (f:Str) (v:V):List (Str×V)->List (Str×V)
 | []=>[(f,v)]
 | (g,x) :: r=>if g=f then (g,v) :: r else (g,x) :: eY f v r
theorem kQ (f g:Str) (v:V):∀ fs:List (Str×V),(eY f v fs).lookup g=if g=f then some v else fs.lookup g
 | []=>by
  show PD g [(f,v)]=_
  by_cases h:g=f
  ·have hb:(g==f)=true:=beq_iff_eq.mpr h
   simp only[PD,hb,if_pos h]
  ·have hb:(g==f)=false:=beq_eq_false_iff_ne.mpr h
   simp only[PD,hb,if_neg h]
 | (k,x) :: r=>by
  have ih:=kQ f g v r
  rw[show eY f v ((k,x) :: r)=(if k=f then (k,v) :: r else (k,x) :: eY f v r) from rfl]
  by_cases hk:k=f
  ·rw[if_pos hk]
   by_cases h:g=k
   ·have hb:(g==k)=true:=beq_iff_eq.mpr h
    simp only[PD,hb,if_pos (h.trans hk)]
   ·have hb:(g==k)=false:=beq_eq_false_iff_ne.mpr h
    simp only[PD,hb,if_neg (fun e:g=f=>h (e.trans hk.symm))]
  ·rw[if_neg hk]
   by_cases h:g=k
   ·have hb:(g==k)=true:=beq_iff_eq.mpr h
    simp only[PD,hb,if_neg (fun e:g=f=>hk (h.symm.trans e))]
   ·have hb:(g==k)=false:=beq_eq_false_iff_ne.mpr h
    simp only[PD,hb]
    exact ih
theorem kr (f:Str) (v:V):∀ fs:List (Str×V),f∈(eY f v fs).map (·.1)/\∀ g,g∈fs.map (·.1)->g∈(eY f v fs).map (·.1)
 | []=>⟨by simp[eY],fun g h=>by simp at h⟩
 | (k,x) :: r=>by
  obtain ⟨i1,i2⟩:=kr f v r
  rw[show eY f v ((k,x) :: r)=(if k=f then (k,v) :: r else (k,x) :: eY f v r) from rfl]
  by_cases hk:k=f
  ·rw[if_pos hk]
   subst hk
   exact ⟨by simp,fun g h=>by simpa using h⟩
  ·rw[if_neg hk]
   refine ⟨?_,fun g h=>?_⟩
   ·rw[OJ]
    exact NP _ i1
   ·rw[OJ] at h ⊢
    rcases List.mem_cons.mp h with e | e
    ·exact List.mem_cons.mpr (.inl e)
    ·exact NP _ (i2 g e)
theorem kR (f:Str) (v:V):∀ fs:List (Str×V),(eY f v fs).length<=fs.length+1
 | []=>by simp[eY]
 | (k,x) :: r=>by
  have ih:=kR f v r
  rw[show eY f v ((k,x) :: r)=(if k=f then (k,v) :: r else (k,x) :: eY f v r) from rfl]
  by_cases hk:k=f
  ·rw[if_pos hk,NJ,NJ];lia
  ·rw[if_neg hk,NJ,NJ];lia
theorem lM.some_of {v:V}{o:Option Value} (r:lM (some v) o):∃ u,o=some u/\RelV v u:=by
 cases o with
 | none=>exact (show False from r).elim
 | some u=>exact ⟨u,rfl,r⟩
theorem lM.none_of {o:Option Value} (r:lM none o):o=none:=by
 cases o with
 | none=>rfl
 | some u=>exact (show False from r).elim
theorem vp {v:V}{u:Value} (r:RelV v u):T6 u=true:=by
 cases v with
 | non=>cases (show u=Pz from r);rfl
 | bl b=>cases (show u=Qz b from r);rfl
 | int i=>obtain ⟨t,e⟩:=(show ∃ t,u=Ri i t from r);cases e;rfl
 | str x=>obtain ⟨t,e⟩:=(show ∃ t,u=Te x t from r);cases e;rfl
 | byt b=>obtain ⟨t,e⟩:=(show ∃ t,u=Value.bytes b t from r);cases e;rfl
 | flt b=>obtain ⟨t,e⟩:=(show ∃ t,u=Value.float b t from r);cases e;rfl
 | ref a=>cases (show u=OS a from r);rfl
 | ty n=>cases (show u=Value.type n from r);rfl
section
variable {P:NT}{w:N7}{H H':Hp}{h h':Heap}{a C dx:NL}{fs fs':List (Str×V)}
theorem oj (hok:HOk P w H h) (e:H a=some (.ins C dx fs)):∃ mA,rK h a dx C mA/\(∀ f,lM (fs.lookup f) (mA f))/\Tf mA (fs.map (·.1))/\fs.length<=1000/\H dx=some (.own a):=by
 obtain ⟨d,z,ne,ob,mA,n,r,q⟩:=(show fG P w H h a (.ins C dx fs) from hok a _ e)
 exact ⟨mA,⟨ob,n,ne⟩,r,q,z,d⟩
end
structure Cls (K:Nz) (C:NL):Prop where
 pg:P8 K C Str.empty=true
 hd:Pf K C=true
 po:Rj K C=true
 sa:N9 K (.ref C) "__setattr__"=some (some (.builtin "object.__setattr__"))
theorem Cls.get {K:Nz}{C:NL} (c:Cls K C) (f:Str):P8 K C f=true:=c.pg
noncomputable def iS (K:Nz) (C:NL) (f:Str):Prop:=N9 K (.ref C) f=some none
theorem iS.HG {K:Nz}{C:NL}{f:Str} (n:iS K C f):RI K C f=some none:=by
 unfold RI
 rw[show N9 K (.ref C) f=some none from n]
 rfl
structure xj (K:Nz) (C:NL) (m:Str) (f:NL):Prop where
 at_:N9 K (.ref C) m=some (some (.ref f))
 fn:Rn K (.ref f)=true
 kp:OG K (.ref f)=true
section
variable {X:Cx}{pins:List (NL×Obj)}{σ:St}{H:Hp}{s:ND}{a C dx:NL}{fs:List (Str×V)}{f:Str}{v:V}{A:Om}{E:Value->ND->Prop}
theorem lP {b:Bool}{Q:Value->ND->Prop} (I:Inv X pins σ H s) (e:H a=some (.ins C dx fs)) (c:Cls X.K C) (n:iS X.K C f) (l:fs.lookup f=some v)
 (h:∀ u s',Inv X pins σ H s'->RelV v u->Q u s'):wpAny (N5 X.prog X.w) A (getAttr (.ref a) f b) Q E s:=by
 obtain ⟨mA,O,r,_,_,_⟩:=oj I.hok e
 obtain ⟨u,hu,ru⟩:=lM.some_of (v:=v) (o:=mA f) (by rw[← l];exact r f)
 exact get_map I.kIn O (c.get f) c.hd n hu (vp ru) (h u _ (I.tok _) ru)
theorem lQ {m:Str}{g:NL}{pl:Sem Bool}{Q:Value×List Value->ND->Prop} (I:Inv X pins σ H s) (e:H a=some (.ins C dx fs)) (c:Cls X.K C) (k:xj X.K C m g) (l:fs.lookup m=none)
 (h:Q (.ref g,[.ref a]) s):wpAny (N5 X.prog X.w) A (S9 (.ref a) m pl) Q E s:=by
 obtain ⟨mA,O,r,_,_,_⟩:=oj I.hok e
 have hn:mA m=none:=lM.none_of (by rw[← l];exact r m)
 exact xg I.kIn O (c.get m) k.at_ k.fn hn h
theorem lR {y:V}{u:Value}{Q:Unit->ND->Prop} (I:Inv X pins σ H s) (e:H a=some (.ins C dx fs)) (c:Cls X.K C) (n:iS X.K C f) (hl:fs.length < 1000) (ry:RelV y u)
 (h:∀ s',Inv X pins σ (upd H a (.ins C dx (eY f y fs))) s'->Q () s'):wpAny (N5 X.prog X.w) A (setAttr (.ref a) f u) Q E s:=by
 obtain ⟨mA,O,r,wi,_,ho⟩:=oj I.hok e
 have hz:(fs.map (·.1)).length<=sizeLine:=by rw[NS,RC];lia
 refine AH I.kIn O c.sa c.po n.HG c.hd wi hz fun h' O' sb=>h _ ?_
 have hd:∃ o,h'.get? dx=some o:=let ⟨o,_,_,e',_⟩:=O'.ns;⟨o,e'⟩
 refine I.write (x:=a) (e:=dx) (by rw[e];exact True.intro) (.inr ho) (fun b q hb z=>(sb.2 b hb).trans z) hd ?_
 refine ⟨by rw[dg O.ne];exact ho,?_,O.ne,O'.obj,_,O'.ns,fun g=>?_,fun g hg=>?_⟩
 ·have:=kR f y fs;lia
 ·show lM ((eY f y fs).lookup g) (if g=f then some u else mA g)
  rw[kQ]
  by_cases q:g=f
  ·rw[if_pos q,if_pos q];exact ry
  ·rw[if_neg q,if_neg q];exact r g
 ·by_cases q:g=f
  ·rw[q];exact (kr f y fs).1
  ·refine (kr f y fs).2 g (wi g fun z=>hg ?_)
   show (if g=f then some u else mA g)=none
   rw[if_neg q];exact z
theorem Inv.made (I:Inv X pins σ H s):Inv X pins σ (upd (upd H s.heap.objs.size (.own (s.heap.objs.size+1))) (s.heap.objs.size+1) (.ins C s.heap.objs.size []))
 { s with heap:=(s.heap.push OE).push (O1 C s.heap.objs.size) }:=by
 have e1:(s.heap.push OE).get? s.heap.objs.size=some OE:=NR s.heap rfl
 have e2:((s.heap.push OE).push (O1 C s.heap.objs.size)).get? (s.heap.objs.size+1)=some (O1 C s.heap.objs.size):=by
  have:=NR (s.heap.push OE) (o:=O1 C s.heap.objs.size) rfl
  rwa [Pw] at this
 have e3:(s.heap.push OE).Ns s.heap.objs.size (fun _=>none):=⟨OE,#[],_,e1,rfl,(fun e he=>absurd he (by simp)),fun _=>rfl⟩
 have I1:=I.laid (a:=s.heap.objs.size) (o:=.own (s.heap.objs.size+1)) (h':=s.heap.push OE) (t':=s.toks) (fun b u q=>NC _ q) (NI _) ⟨_,e1⟩
 refine I1.laid (a:=s.heap.objs.size+1) (o:=.ins C s.heap.objs.size []) (t':=s.toks) (fun b u q=>NC _ q) (Nat.le_of_eq (Pw _ _)) ?_
 have ne:s.heap.objs.size≠s.heap.objs.size+1:=N1 (PC _)
 refine ⟨by rw[dg ne,dU],Qo _,ne,e2,fun _=>none,(Heap.Ns1.of_empty e3).at fun o q=>NC _ q,fun _=>True.intro,fun y hy=>absurd rfl hy⟩
theorem AI {prog:NT}{w:N7}{env:Env}{e:Qk}{f:Str}{pos:Pos}{s:ND}{Q:Value->ND->Prop} (hb:Q0 e f env (eval e env)=eval e env)
 (h:wpAny (N5 prog w) A (eval e env) (fun o s₁=>wpAny (N5 prog w) A (getAttr o f true) Q E s₁) E s):wpAny (N5 prog w) A (eval (.Attribute e f pos) env) Q E s :=
 Attribute_any_ h (by rw[arm_eval_Attribute,hb])
end
noncomputable def Lk (K:Nz) (ta:TE) (f:Str):TE:=fun σ H Q=>ta σ H fun x H1=>∃ a C dx fs v,x=.ref a/\H1 a=some (.ins C dx fs)/\Cls K C/\iS K C f/\fs.lookup f=some v/\Q v H1
noncomputable def HJ (K:Nz) (ta tv:TE) (f:Str):TS:=fun D σ H=>tv σ H fun y H1=>ta σ H1 fun x H2=>∃ a C dx fs,x=.ref a/\H2 a=some (.ins C dx fs)/\Cls K C/\iS K C f/\fs.length < 1000 ∧
 D.nx σ (upd H2 a (.ins C dx (eY f y fs)))
noncomputable def Ll (X:Cx) (op:QK) (rd:V->V->Hp->VK->Prop):Prop :=
 ∀ (pins:List (NL×Obj)) (s:ND) (σ:St) (H:Hp) (x y:V) (u v:Value) (Q:VK),Inv X pins σ H s->RelV x u->RelV y v->rd x y H Q->wpAny (N5 X.prog X.w) X.A (inplaceOp op u v) (EP X pins σ Q) X.xe s
noncomputable def tH (K:Nz) (ta tv:TE) (rd:V->V->Hp->VK->Prop) (f:Str):TS:=fun D σ H=>ta σ H fun x H1=>∃ a C dx fs v,x=.ref a/\H1 a=some (.ins C dx fs)/\Cls K C/\iS K C f/\fs.lookup f=some v ∧
 tv σ H1 fun y H2=>rd v y H2 fun z H3=>∃ dx' fs',H3 a=some (.ins C dx' fs')/\fs'.length < 1000/\D.nx σ (upd H3 a (.ins C dx' (eY f z fs')))
section
variable {X:Cx}{o e value:Qk}{f:Str}{pos pos' tpos:Pos}{ta tv:TE}
theorem Eg (he:PE X e ta) (hb:Q0 e f X.env (eval e X.env)=eval e X.env):PE X (.Attribute e f pos) (Lk X.K ta f):=by
 intro pins s σ H Q I h
 refine AI hb (thn (he pins s σ H _ I h) fun u s1 zq=>?_)
 obtain ⟨x,H1,I1,rx,a,C,dx,fs,v,ex,ea,c,n,l,q⟩:=zq
 subst ex
 obtain rfl:u=OS a:=rx
 exact lP I1 ea c n l fun u' s2 I2 ru=>⟨v,H1,I2,ru,q⟩
theorem Eh (ha:PE X o ta) (hv:PE X value tv) (hs:Qv value (some (.Attribute o f pos')) pos.line X.env=pure false):PS X (.Assign [.Attribute o f pos'] value pos) (HJ X.K ta tv f):=by
 intro pins s σ H D I h
 refine plainObj_wpAny_Assign_Attribute (thn (hv pins s σ H _ I h) fun u s1 ⟨y,H1,I1,ry,q⟩=>thn (ha pins s1 σ H1 _ I1 q) fun ov s2 ⟨x,H2,I2,rx,a,C,dx,fs,ex,ea,c,n,l,q2⟩=>?_) hs
 subst ex
 obtain rfl:ov=OS a:=rx
 exact lR I2 ea c n l ry fun s3 I3=>⟨σ,_,I3,q2⟩
theorem vq {op:QK}{rd:V->V->Hp->VK->Prop} (ha:PE X o ta) (hv:PE X value tv) (hop:Ll X op rd):PS X (.AugAssign (.Attribute o f tpos) op value pos) (tH X.K ta tv rd f):=by
 intro pins s σ H D I h
 refine wpAny_AugAssign_AttributeAny (thn (ha pins s σ H _ I h) fun ov s1 zq=>?_)
 obtain ⟨x,H1,I1,rx,a,C,dx,fs,v,ex,ea,c,n,l,q⟩:=zq
 subst ex
 obtain rfl:ov=OS a:=rx
 refine lP I1 ea c n l fun u s2 I2 ru=>thn (hv pins s2 σ H1 _ I2 q) fun w3 s3 ⟨y,H2,I3,ry,q3⟩=>thn (hop pins s3 σ H2 v y u w3 _ I3 ru ry q3) fun w4 s4 zq=>?_
 obtain ⟨z,H3,I4,rz,dx',fs',ea',l',q4⟩:=zq
 exact lR I4 ea' c n l' rz fun s5 I5=>⟨σ,_,I5,q4⟩
end
section
variable {X:Cx}{pins:List (NL×Obj)}{σ:St}{H:Hp}{s:ND}{A:Om}{E:Value->ND->Prop}{Q:Value->ND->Prop}{c:Value}{b:Bool}
end
end L2
namespace L2
open PySem PySem.Spec PyProof.Rows
structure fm (k:Nat) (A:Om):Prop where
 hd:A.handled=none
 dp:A.depth+3*k+5 < recursionLimit
 un:A.units+16*k+200 < cLine
theorem fm.mono {j k:Nat}{A:Om} (r:fm k A) (h:j<=k):fm j A:=⟨r.hd,by have:=r.dp;lia,by have:=r.un;lia⟩
theorem fm.deeper {k:Nat}{A:Om} (r:fm (k+1) A) (env:Env):fm k (A.deeper env) :=
 ⟨r.hd,by have:=r.dp;show A.depth+1+3*k+5 < _;lia,by have:=r.un;show A.units+3+16*k+200 < _;lia⟩
theorem rL {A:Om}{C:NL}{us:List Value}{kw:List (Str×Value)}:(A.under (.builtin "type.__call__" ⟨.ref C :: us,kw⟩)).depth=A.depth+1:=by
 first | rfl | simp[SZ,Code.weight,Code.isCreation,Code.isGuard,Code.isCaller,Code.frames,TJ,guardIds]
theorem rM {A:Om}{C:NL}{us:List Value}{kw:List (Str×Value)}:(A.under (.builtin "type.__call__" ⟨.ref C :: us,kw⟩)).units=A.units+1:=by
 first | rfl | simp[SZ,Code.cUnits,Code.frames,TJ]
theorem fm.make {k:Nat}{A:Om} (r:fm (k+1) A) (C:NL) (us:List Value) (kw:List (Str×Value)):fm k (A.under (.builtin "type.__call__" ⟨.ref C :: us,kw⟩)) :=
 ⟨r.hd,by have:=r.dp;rw[rL];lia,by have:=r.un;rw[rM];lia⟩
theorem fm.depth {k:Nat}{A:Om} (r:fm k A):A.depth < recursionLimit:=by have:=r.dp;lia
noncomputable def xm:TA:=fun _ H Q=>Q [] H
noncomputable def Di (ta:TE) (tr:TA):TA:=fun σ H Q=>ta σ H fun x H1=>tr σ H1 fun xs H2=>Q (x :: xs) H2
section
variable {X:Cx}{e:Qk}{es:List Qk}{te:TE}{t:TA}{pos:Pos}
theorem om:PA X [] xm:=fun _ _ _ _ H Q I h=>Calls.spliced_nil ⟨[],H,I,.nil,h⟩
theorem gZ (ha:PE X e te) (hr:PA X es t) (hs:Oc (e :: es) X.env=(false,eval e X.env) :: Oc es X.env:=by rfl):PA X (e :: es) (Di te t):=by
 intro pos pins s σ H Q I h
 rw[hs]
 show wpAny _ _ (spliced ((false,eval e X.env) :: Qf pos (Oc es X.env))) _ _ s
 refine Calls.spliced_cons (thn (ha pins s σ H _ I h) fun u s1 zq=>?_)
 obtain ⟨x,H1,I1,r1,q1⟩:=zq
 exact thn (hr pos pins s1 σ H1 _ I1 q1) fun us s2 ⟨xs,H2,I2,r2,q2⟩=>⟨x :: xs,H2,I2,.cons r1 r2,q2⟩
noncomputable def HK (t:TA):TE:=fun σ H Q=>t σ H fun xs H1=>xs.length<=sizeLine/\∀ p,H1 p=none->Q (.ref p) (upd H1 p (.tup xs))
noncomputable def HL (t:TA):TE:=fun σ H Q=>t σ H fun xs H1=>xs.length<=sizeLine/\∀ p,H1 p=none->Q (.ref p) (upd H1 p (.lst xs))
theorem Ei {x1} (h:PA X es t):PE X (.Tuple es x1 pos) (HK t):=by
 intro pins s σ H Q I hq
 refine wpAny_Tuple_spliced (thn (h pos pins s σ H _ I hq) fun us s1 ⟨xs,H1,I1,r,z,q⟩=>⟨by rw[← r.length];exact z,?_⟩)
 have hf:H1 s1.heap.objs.size=none:=I1.hok.fresh (NI _)
 refine ⟨.ref s1.heap.objs.size,upd H1 s1.heap.objs.size (.tup xs),I1.laid (t':=s1.toks) (fun b u e=>NC _ e) (NI _) ?_,rfl,q _ hf⟩
 exact ⟨z,us,r,⟨_,NR _ rfl,rfl,_,rfl⟩⟩
theorem Ej (h:PA X es t):PE X (.List es pos) (HL t):=by
 intro pins s σ H Q I hq
 refine wpAny_List_spliced (thn (h pos pins s σ H _ I hq) fun us s1 ⟨xs,H1,I1,r,z,q⟩=>⟨by rw[← r.length];exact z,?_⟩)
 have hf:H1 s1.heap.objs.size=none:=I1.hok.fresh (NI _)
 refine ⟨.ref s1.heap.objs.size,upd H1 s1.heap.objs.size (.lst xs),I1.laid (t':=s1.toks) (fun b u e=>NC _ e) (NI _) ?_,rfl,q _ hf⟩
 exact ⟨z,us,0,r,NR _ rfl⟩
end
noncomputable abbrev Sp:=List V->Hp->VK->XK->Prop
noncomputable abbrev CXT:=List Env->Hp->ND->XK->Value->ND->Prop
structure oq (P:NT) (w:N7) (K:Nz) (mg:Str->Option Value) (base:Heap) (A:Om) (outer:List Env) (s:ND) (H:Hp):Prop where
 frames:A.frames=some outer
 mod:Mod K mg base
 bs:∀ b o,base.get? b=some o->s.heap.get? b=some o/\H b=none
 bsz:base.objs.size<=s.heap.objs.size
 jK:s.heap.FunFrames base outer
 frf:∀ b∈frs outer,H b=none
 hok:HOk P w H s.heap
 bare:Tv s.gens
inductive CE (outer:List Env) (P:NT) (w:N7) (H:Hp) (s:ND) (Q:VK) (u:Value) (s':ND):Prop where
 | mk (v:V) (H':Hp) (os:s'.os=s.os) (b:Tv s'.gens) (un:Un (frs outer) [] H H' s.heap s'.heap) (hk:HOk P w H' s'.heap) (r:RelV v u) (q:Q v H'):CE outer P w H s Q u s'
noncomputable def CR (CX:CXT) (outer:List Env) (P:NT) (w:N7) (H:Hp) (s:ND) (Q:VK) (E:XK) (r:Result) (s':ND):Prop :=
 match r with
 | .ok (.ret u)=>CE outer P w H s Q u s'
 | .ok _=>False
 | .error e=>CX outer H s E e s'
structure g9 (P:NT) (w:N7) (K:Nz) (mg:Str->Option Value) (base:Heap) (CX:CXT) (k:Nat) (f:NL) (fd:O8) (ps:List Str) (sp:Sp):Prop where
 len:∀ vs H Q E,sp vs H Q E->vs.length=ps.length
 run:∀ (A:Om) (outer:List Env) (s:ND) (H:Hp) (args:Args) (us:List Value) (vs:List V) (Q:VK) (E:XK),fm k A->oq P w K mg base A outer s H->BindsTo s fd args (ps.zip us)->cZ vs us->sp vs H Q E →
  codeAny (N5 P w) A (.call (.ref f) args) (CR CX outer P w H s Q E) s
theorem oq.make {P:NT}{w:N7}{K:Nz}{mg:Str->Option Value}{base:Heap}{A:Om}{outer:List Env}{s:ND}{H:Hp} (e:oq P w K mg base A outer s H) (C:NL) (us:List Value) (kw:List (Str×Value)) :
 oq P w K mg base (A.under (.builtin "type.__call__" ⟨.ref C :: us,kw⟩)) outer s H:=⟨by first | exact e.frames | (simpa [SZ,Code.envs,TJ,pushEnvs] using e.frames),e.mod,e.bs,e.bsz,e.jK,e.frf,e.hok,e.bare⟩
section
variable {X:Cx}{pins:List (NL×Obj)}{σ:St}{H:Hp}{s s':ND}
theorem Inv.HM (I:Inv X pins σ H s):oq X.prog X.w X.K X.mg X.base X.A X.stack s H :=
 ⟨I.ok.frames,I.ok.mod,I.bs,Ol I.ok.bsz I.sz,I.stack,I.sW,I.hok,I.bare⟩
theorem Inv.after {Q:VK}{u:Value} (I:Inv X pins σ H s) (h:CE X.stack X.prog X.w H s Q u s'):EP X pins σ Q u s':=by
 obtain ⟨v,H',os,bare,un,hok,r,q⟩:=h
 obtain ⟨hh,g,d,t,os'⟩:=s'
 obtain rfl:os'=s.os:=os
 exact ⟨v,H',I.call (h':=hh) (g':=g) (d':=d) (t':=t) (ch:=[]) un hok bare (fun b z=>absurd z (by simp)),r,q⟩
end
noncomputable def xo (sp:Sp) (dvs:List V) (E:XK) (t:TA):TE:=fun σ H Q=>t σ H fun vs H1=>sp (vs++dvs) H1 Q E
noncomputable def xq (C:NL) (m:Str) (sp:Sp) (dvs:List V) (E:XK) (ta:TE) (t:TA):TE:=fun σ H Q=>ta σ H fun x H1=>∃ a dx fs,x=.ref a/\H1 a=some (.ins C dx fs)/\fs.lookup m=none ∧
 t σ H1 fun vs H2=>sp (x :: (vs++dvs)) H2 Q E
noncomputable def xu (C:NL) (sp:Sp) (dvs:List V) (E:XK) (t:TA):TE:=fun σ H Q=>t σ H fun vs H1=>∀ x dx,H1 x=none->H1 dx=none->dx≠x →
 sp (.ref x :: (vs++dvs)) (upd (upd H1 dx (.own x)) x (.ins C dx [])) (fun v H2=>v=.non/\Q (.ref x) H2) E
noncomputable def Binds (K:Nz) (fd:O8) (ps:List Str) (ds:List Value):Prop :=
 ∀ (s:ND) (us:List Value),K.In s.heap->(us++ds).length=ps.length->BindsTo s fd ⟨us,[]⟩ (ps.zip (us++ds))
theorem Binds.all {K:Nz}{fd:O8}{ps:List Str} (h:∀ us:List Value,us.length=ps.length->Uj fd ⟨us,[]⟩=pure (ps.zip us)):Binds K fd ps []:=fun s us _ hl=>by
 rw[Pj] at hl ⊢
 exact .of_eq (h us hl)
noncomputable def ig (CX:CXT) (X:Cx) (E:XK):Prop:=∀ (pins:List (NL×Obj)) (σ:St) (H:Hp) (s:ND) (e:Value) (s':ND),Inv X pins σ H s->CX X.stack H s E e s'->X.xe e s'
section
variable {X:Cx}{CX:CXT}{k:Nat}{f C:NL}{fd:O8}{ps:List Str}{sp:Sp}{dvs:List V}{ds:List Value}{E:XK}{x m:Str}{p pos apos:Pos}{e o:Qk}{es:List Qk}{ta:TE}{t:TA}
theorem oz {pins:List (NL×Obj)}{σ:St}{H:Hp}{s:ND}{Q:VK}{us:List Value}{vs:List V} (F:g9 X.prog X.w X.K X.mg X.base CX k f fd ps sp) (hr:fm k X.A) (hb:Binds X.K fd ps ds) (hd:cZ dvs ds) (hx:ig CX X E)
 (I:Inv X pins σ H s) (r:cZ vs us) (h:sp (vs++dvs) H Q E):wpAny (N5 X.prog X.w) X.A (call (.ref f) us) (EP X pins σ Q) X.xe s:=by
 have r2:cZ (vs++dvs) (us++ds):=r.append hd
 have hl:(us++ds).length=ps.length:=by rw[← r2.length];exact F.len _ _ _ _ h
 refine wpAny_call (Sx (F.run X.A X.stack s H ⟨us,[]⟩ (us++ds) (vs++dvs) Q E hr I.HM (hb s us I.kIn hl) r2 h) fun r s' hq=>?_)
 cases r with
 | error e=>exact hx pins σ H s e s' I hq
 | ok fl =>
  cases fl with
  | ret u=>exact I.after hq
  | next=>exact OQ hq
  | brk=>exact OQ hq
  | cont=>exact OQ hq
theorem AJ (F:g9 X.prog X.w X.K X.mg X.base CX k f fd ps sp) (hr:fm k X.A) (hg:Gl X x) (hm:X.mg x=some (.ref f)) (hk:OG X.K (.ref f)=true) (hb:Binds X.K fd ps ds) (hd:cZ dvs ds) (hx:ig CX X E)
 (ha:PA X (e :: es) t) (hdb:(x==("__debug__":Str))=false:=by decide) (he:Oc (e :: es) X.env=(false,eval e X.env) :: Oc es X.env:=by rfl) (hpl:(Qf pos (Oc es X.env)).any (·.1)=false:=by rfl) :
 PE X (.Call (.Name x p) (e :: es) [] pos) (xo sp dvs E t):=by
 intro pins s σ H Q I h
 refine Po (jL I hg hm ?_ hdb)
 refine Rc (h₀:=X.base) I.ok.mod.kin hk (thn (ha pos pins s σ H _ I h) fun us s1 ⟨vs,H1,I1,r,q⟩=>⟨I1.kIn,?_⟩) he hpl
 exact oz F hr hb hd hx I1 r q
theorem xw (F:g9 X.prog X.w X.K X.mg X.base CX k f fd ps sp) (hr:fm k X.A) (hg:Gl X x) (hm:X.mg x=some (.ref f)) (hk:OG X.K (.ref f)=true) (hb:Binds X.K fd ps ds) (hd:cZ dvs ds) (hx:ig CX X E)
 (hdb:(x==("__debug__":Str))=false:=by decide):PE X (.Call (.Name x p) [] [] pos) (xo sp dvs E xm):=by
 intro pins s σ H Q I h
 refine Po (jL I hg hm ?_ hdb)
 exact Q3 I.kIn hk (oz (us:=[]) F hr hb hd hx I .nil h)
theorem AK {pl:Sem Bool} (he:PE X o ta) (c:Cls X.K C) (hm:xj X.K C m f) (F:g9 X.prog X.w X.K X.mg X.base CX k f fd ps sp) (hr:fm k X.A) (hb:Binds X.K fd ps ds) (hd:cZ dvs ds) (hx:ig CX X E) (ha:PA X (e :: es) t)
 (hst:Oc (e :: es) X.env=(false,eval e X.env) :: Oc es X.env:=by rfl) (hpl:(Qf pos (Oc es X.env)).any (·.1)=false:=by rfl)
 (ht:eval (.Call (.Attribute o m apos) (e :: es) [] pos) X.env=(do
  let ov ← eval o X.env
  S7 apos.atName
  let (f,first) ← QY [ov] (S9 ov m pl)
  callWith pos f first (Qf pos (Oc (e :: es) X.env)) (RU pos (Qx [] X.env))):=by rfl) :
 PE X (.Call (.Attribute o m apos) (e :: es) [] pos) (xq C m sp dvs E ta t):=by
 intro pins s σ H Q I h
 refine SM (pl:=pl) (thn (he pins s σ H _ I h) fun u s1 ⟨x,H1,I1,rx,a,dx,fs,ex,ea,l,q⟩=>?_) ht
 subst ex
 obtain rfl:u=OS a:=rx
 refine lQ I1 ea c hm l ?_
 refine Rc (first:=[.ref a]) (h₀:=X.base) I.ok.mod.kin hm.kp (thn (ha pos pins s1 σ H1 _ I1 q) fun us s2 ⟨vs,H2,I2,r,q2⟩=>⟨I2.kIn,?_⟩) hst hpl
 exact oz (us:=.ref a :: us) (vs:=.ref a :: vs) F hr hb hd hx I2 (.cons rfl r) q2
theorem xy {pl:Sem Bool} (he:PE X o ta) (c:Cls X.K C) (hm:xj X.K C m f) (F:g9 X.prog X.w X.K X.mg X.base CX k f fd ps sp) (hr:fm k X.A) (hb:Binds X.K fd ps ds) (hd:cZ dvs ds) (hx:ig CX X E)
 (ht:eval (.Call (.Attribute o m apos) [] [] pos) X.env=(do
  let ov ← eval o X.env
  S7 apos.atName
  let (f,first) ← QY [ov] (S9 ov m pl)
  callWith pos f first (Qf pos (Oc [] X.env)) (RU pos (Qx [] X.env))):=by rfl) :
 PE X (.Call (.Attribute o m apos) [] [] pos) (xq C m sp dvs E ta xm):=by
 intro pins s σ H Q I h
 refine SM (pl:=pl) (thn (he pins s σ H _ I h) fun u s1 ⟨x,H1,I1,rx,a,dx,fs,ex,ea,l,q⟩=>?_) ht
 subst ex
 obtain rfl:u=OS a:=rx
 refine lQ I1 ea c hm l ?_
 exact Q3 (first:=[.ref a]) I1.kIn hm.kp (oz (us:=[.ref a]) (vs:=[.ref a]) F hr hb hd hx I1 (.cons rfl .nil) q)
structure Mk (K:Nz) (C f:NL):Prop where
 makes:RJ K C=true
 init:N9 K (.ref C) "__init__"=some (some (.ref f))
 fn:Rn K (.ref f)=true
 kp:OG K (.ref C)=true
theorem qc {pins:List (NL×Obj)}{σ:St}{H:Hp}{s:ND}{Q:VK}{us:List Value}{vs:List V} (M:Mk X.K C f) (F:g9 X.prog X.w X.K X.mg X.base CX k f fd ps sp) (hr:fm (k+1) X.A) (hb:Binds X.K fd ps ds) (hd:cZ dvs ds)
 (hx:ig CX X E) (I:Inv X pins σ H s) (r:cZ vs us)
 (h:∀ x dx,H x=none->H dx=none->dx≠x->sp (.ref x :: (vs++dvs)) (upd (upd H dx (.own x)) x (.ins C dx [])) (fun v H2=>v=.non/\Q (.ref x) H2) E) :
 wpAny (N5 X.prog X.w) X.A (call (.ref C) us) (EP X pins σ Q) X.xe s:=by
 have hq:=h (s.heap.objs.size+1) s.heap.objs.size (I.hok.fresh (Qp _)) (I.hok.fresh (NI _)) (N1 (PC _))
 have I2:=Inv.made (C:=C) I
 have r2:cZ (V.ref (s.heap.objs.size+1) :: (vs++dvs)) (OS (s.heap.objs.size+1) :: (us++ds)):=.cons rfl (r.append hd)
 have hl:(OS (s.heap.objs.size+1) :: us++ds).length=ps.length:=by
  have e:=r2.length
  rw[F.len _ _ _ _ hq] at e
  exact e.symm
 refine wpAny_call (xh (f:=f) I.kIn M.makes M.init (beq_iff_eq.mp M.fn) (Sx (F.run _ X.stack _ _ ⟨OS (s.heap.objs.size+1) :: us,[]⟩ (OS (s.heap.objs.size+1) :: (us++ds)) _ _ E (hr.make C us [])
  (I2.HM.make C us []) (hb _ (OS (s.heap.objs.size+1) :: us) I2.kIn hl) r2 hq) fun r s' hq'=>?_))
 cases r with
 | error e=>exact hx pins σ _ _ e s' I2 hq'
 | ok fl =>
  cases fl with
  | ret u =>
   obtain ⟨v,H',I3,rv,ev,q3⟩:=I2.after hq'
   subst ev
   exact ⟨rv,⟨V.ref (s.heap.objs.size+1),H',I3,rfl,q3⟩⟩
  | next=>exact OQ hq'
  | brk=>exact OQ hq'
  | cont=>exact OQ hq'
theorem AM (M:Mk X.K C f) (F:g9 X.prog X.w X.K X.mg X.base CX k f fd ps sp) (hr:fm (k+1) X.A) (hg:Gl X x) (hm:X.mg x=some (.ref C)) (hb:Binds X.K fd ps ds) (hd:cZ dvs ds) (hx:ig CX X E)
 (ha:PA X (e :: es) t) (hdb:(x==("__debug__":Str))=false:=by decide) (he:Oc (e :: es) X.env=(false,eval e X.env) :: Oc es X.env:=by rfl) (hpl:(Qf pos (Oc es X.env)).any (·.1)=false:=by rfl) :
 PE X (.Call (.Name x p) (e :: es) [] pos) (xu C sp dvs E t):=by
 intro pins s σ H Q I h
 refine Po (jL I hg hm ?_ hdb)
 refine Rc (h₀:=X.base) I.ok.mod.kin M.kp (thn (ha pos pins s σ H _ I h) fun us s1 ⟨vs,H1,I1,r,q⟩=>⟨I1.kIn,?_⟩) he hpl
 exact qc M F hr hb hd hx I1 r q
theorem xA (M:Mk X.K C f) (F:g9 X.prog X.w X.K X.mg X.base CX k f fd ps sp) (hr:fm (k+1) X.A) (hg:Gl X x) (hm:X.mg x=some (.ref C)) (hb:Binds X.K fd ps ds) (hd:cZ dvs ds) (hx:ig CX X E)
 (hdb:(x==("__debug__":Str))=false:=by decide):PE X (.Call (.Name x p) [] [] pos) (xu C sp dvs E xm):=by
 intro pins s σ H Q I h
 refine Po (jL I hg hm ?_ hdb)
 exact Q3 I.kIn M.kp (qc (us:=[]) M F hr hb hd hx I .nil h)
end
section
variable {X:Cx}{CX:CXT}{k:Nat}{f C:NL}{fd:O8}{ps ks:List Str}{sp:Sp}{E:XK}{x m:Str}{p pos apos kpos:Pos}{e o:Qk}{es:List Qk}{kws:List Qq}{te ta:TE}{t tk:TA}{nm:Option Str}
variable {g:List Value->List Value->List Value}{gV:List V->List V->List V}
end
structure fO (N P:List Str) (sc:Ow):Prop where
 kind:sc.kind=.function
 co:sc.isCoroutine=false
 gen:sc.isGenerator=false
 nd:N.Nodup
 pre:N.take P.length=P
 par:∀ x∈P,sc.names.lookup x=some .local\/sc.names.lookup x=some .cell
 nofree:∀ y∈sc.names,y.2≠.free
theorem nI {kindOf:Str->Option P9}{x:Str}:∀ {binds:List (Str×Value)}{m:Str->Option Value},(∀ v,(x,v)∉binds)->bindL kindOf binds m x=m x
 | [],_,_=>rfl
 | (n,v) :: r,m,h=>by
  unfold bindL
  rw[nI fun w hw=>h w (NP _ hw)]
  split
  ·have:x≠n:=by rintro rfl;exact h v NV
   simp[this]
  ·rfl
theorem nJ {kindOf:Str->Option P9}{x:Str}:∀ {binds:List (Str×Value)}{m:Str->Option Value},(∀ v,(x,v)∉binds)->bindC kindOf binds m x=m x
 | [],_,_=>rfl
 | (n,v) :: r,m,h=>by
  unfold bindC
  rw[nJ fun w hw=>h w (NP _ hw)]
  split
  ·rfl
  ·have:x≠n:=by rintro rfl;exact h v NV
   simp[this]
theorem nK {kindOf:Str->Option P9}{x:Str}{v:Value}:∀ {P:List Str}{vs:List Value}{i:Nat}{m:Str->Option Value},P.Nodup->P[i]?=some x->vs[i]?=some v->kindOf x=some .local →
 bindL kindOf (P.zip vs) m x=some v
 | [],_,_,_,_,h,_,_=>by simp at h
 | _ :: _,[],_,_,_,_,h,_=>by simp at h
 | p :: P,w :: vs,0,m,nd,h1,h2,hk=>by
  simp at h1 h2;subst h1;subst h2
  show bindL kindOf ((p,w) :: P.zip vs) m p=_
  unfold bindL
  rw[nI fun v hv=>(List.nodup_cons.mp nd).1 (QW hv).1,if_pos hk]
  simp
 | p :: P,w :: vs,i+1,m,nd,h1,h2,hk=>by
  show bindL kindOf ((p,w) :: P.zip vs) m x=_
  unfold bindL
  exact nK (i:=i) (List.nodup_cons.mp nd).2 (by simpa using h1) (by simpa using h2) hk
theorem nL {kindOf:Str->Option P9}{x:Str}{v:Value}:∀ {P:List Str}{vs:List Value}{i:Nat}{m:Str->Option Value},P.Nodup->P[i]?=some x->vs[i]?=some v->kindOf x≠some .local →
 bindC kindOf (P.zip vs) m x=some v
 | [],_,_,_,_,h,_,_=>by simp at h
 | _ :: _,[],_,_,_,_,h,_=>by simp at h
 | p :: P,w :: vs,0,m,nd,h1,h2,hk=>by
  simp at h1 h2;subst h1;subst h2
  show bindC kindOf ((p,w) :: P.zip vs) m p=_
  unfold bindC
  rw[nJ fun v hv=>(List.nodup_cons.mp nd).1 (QW hv).1,if_neg hk]
  simp
 | p :: P,w :: vs,i+1,m,nd,h1,h2,hk=>by
  show bindC kindOf ((p,w) :: P.zip vs) m x=_
  unfold bindC
  exact nL (i:=i) (List.nodup_cons.mp nd).2 (by simpa using h1) (by simpa using h2) hk
noncomputable def start (N:List Str) (vs:List V):St:=vs.map some++NX (N.length - vs.length) none
noncomputable def rN (CX:CXT) (P:NT) (w:N7) (K:Nz) (mg:Str->Option Value) (base:Heap) (N:List Str) (qual:Str) (scope:Ow) (f:NL) (cd:Value) (A:Om) (outer:List Env) (s:ND) (H:Hp) (E:XK):Cx where
 prog:=P
 w:=w
 K:=K
 mg:=mg
 base:=base
 A:=A.deeper (Tc qual scope s.heap.objs.size f cd)
 N:=N
 s₀:=s
 H₀:=H
 env:=Tc qual scope s.heap.objs.size f cd
 outer:=outer
 stack:=Tc qual scope s.heap.objs.size f cd :: outer
 ex:=[]
 calm:=true
 fn:=fun _=>true
 pn:=[]
 xe:=fun e s'=>wpAny (N5 P w) (A.deeper (Tc qual scope s.heap.objs.size f cd)) (leaving (Tc qual scope s.heap.objs.size f cd) e) (fun _ s''=>CX outer H s E e s'') (fun e' s''=>CX outer H s E e' s'') s'
theorem qd {sc:Ow}{n:Nat}{x:Str} (h:sc.names.lookup x=some .cell):∃ c,(cellsFrom n sc.names []).lookup x=some c:=by
 have q:=Sz sc.names n [] (.inl h)
 exact Option.isSome_iff_exists.mp q
theorem vv {CX:CXT}{P:NT}{w:N7}{K:Nz}{mg:Str->Option Value}{base:Heap}{N ps:List Str}{qual:Str}{scope:Ow}{f:NL}{cd:Value}{A:Om}{outer:List Env}{s s1:ND}{H:Hp}{E:XK}{us:List Value}{vs:List V}
 (S:fO N ps scope) (hd:A.handled=none) (e0:oq P w K mg base A outer s H) (hl:vs.length=ps.length) (r:cZ vs us)
 (x:InCallC s s.heap.objs.size (bindL (Tc qual scope s.heap.objs.size f cd).kindOf (ps.zip us) fun _=>none) (cellsFrom (s.heap.objs.size+1) scope.names []) (bindC (Tc qual scope s.heap.objs.size f cd).kindOf (ps.zip us) fun _=>none) s1) :
 Inv (rN CX P w K mg base N qual scope f cd A outer s H E) [] (start N vs) H s1:=by
 have hpl:ps.length<=N.length:=by have:=congrArg Sb S.pre;rw[OP] at this;lia
 obtain ⟨h1,tk,rfl,hk⟩:=x.done
 have noA:∀ b:NL,b∉(rN CX P w K mg base N qual scope f cd A outer s H E).ex:=fun b z=>absurd (show b∈([]:List NL) from z) (by simp)
 refine ⟨⟨e0.mod,S.kind,rfl,rfl,NI _,fun y z c h1 h2=>?_,fun y hy=>?_,fun y c _ h=>?_,fun _=>hd,Tu e0.frames,.inr ⟨rfl,rfl⟩,fun b z=>absurd z (noA b),e0.bs,e0.bsz,fun b _ _=>noA b,fun b z=>absurd z (noA b),e0.jK,e0.frf⟩,
  rfl,e0.bare,Un.kept hk,⟨_,x.toInCall.ns,fun i y v h1 h2 h3=>?_⟩,fun y c h=>⟨_,x.cell y c h⟩,e0.hok.fresh (NI _),fun y c h=>?_,fun p hp=>absurd (show p∈([]:List (NL×Obj)) from hp) (by simp),e0.hok.kept hk,?_⟩
 ·exact name_of_addr x.apart (OT h1) (OT h2)
 ·have hy:scope.names.lookup y=some .cell\/scope.names.lookup y=some .free:=hy
  rcases hy with hy | hy
  ·exact qd hy
  ·exact absurd rfl (S.nofree _ (OT hy))
 ·exact PR (x.above y c (OT h))
 ·have hi:i < vs.length:=by
   unfold start at h2
   by_cases hi:i < vs.length
   ·exact hi
   ·rw[Oa (by simpa using hi)] at h2
    rw[PY] at h2
    split at h2<;>cases h2
  have ha:vs[i]?=some v:=by
   unfold start at h2
   rw[NQ (by simpa using hi),Og] at h2
   cases e:vs[i]? with
   | none=>rw[e] at h2;cases h2
   | some a=>rw[e] at h2;cases h2;rfl
  obtain ⟨u,hu,rv⟩:=r.get ha
  have hp:ps[i]?=some y:=by
   rw[← S.pre,SQ (by lia)];exact h1
  have ndP:ps.Nodup:=by rw[← S.pre];exact S.nd.sublist (List.take_sublist _ _)
  refine ⟨u,rv,?_⟩
  rcases S.par y (NZ hp) with k | k
  ·exact .inl ⟨k,nK ndP hp hu k⟩
  ·obtain ⟨c,e⟩:=qd (n:=s.heap.objs.size+1) k
   refine .inr ⟨.inl k,c,e,?_⟩
   have q:=x.cell y c e
   rw[nL ndP hp hu (by show scope.names.lookup y≠_;rw[k];decide)] at q
   exact q
 ·exact e0.hok.fresh (PR (x.above y c (OT h)))
 ·unfold start
  show _=N.length
  rw[NW,NS,Qd]
  lia
theorem HN {CX:CXT}{P:NT}{w:N7}{K:Nz}{mg:Str->Option Value}{base:Heap}{k:Nat}{f:NL}{name qual:Str}{params:R8}{body:List RX}{scope:Ow}{dV kV doc pm cdv ct oc:Value}{an od:Option NL}
 {osl:Array (Option Value)}{N ps:List Str}{sp:Sp} (lk:K.lookup f=some ⟨oc,od,.func (O5 name qual params body scope dV kV doc pm an cdv ct),osl⟩) (hcd:QV K cdv qual=true) (S:fO N ps scope)
 (len:∀ vs H Q E,sp vs H Q E->vs.length=ps.length)
 (hbody:∀ (A:Om) (outer:List Env) (s:ND) (H:Hp) (vs:List V) (Q:VK) (E:XK),fm k (A.deeper (Tc qual scope s.heap.objs.size f cdv))->sp vs H Q E →
  ∃ t,PSs (rN CX P w K mg base N qual scope f cdv A outer s H E) body t/\t { nx:=fun _ H'=>Q .non H',rt:=Q } (start N vs) H) :
 g9 P w K mg base CX (k+1) f (O5 name qual params body scope dV kV doc pm an cdv ct) ps sp:=by
 refine ⟨len,fun A outer s H args us vs Q E hr e0 hb r hsp=>?_⟩
 have hl:=len _ _ _ _ hsp
 have KX:K.In s.heap:=e0.mod.kin.keeps fun b o e=>(e0.bs b o e).1
 have lim:s.heap.NoLimit:=e0.mod.nolimit.keeps fun b o e=>(e0.bs b o e).1
 have hkind:∀ y∈ps.zip us,scope.names.lookup y.1=some .local\/(scope.names.lookup y.1=some .cell/\((cellsFrom (s.heap.objs.size+1) scope.names []).lookup y.1).isSome=true):=fun ⟨n,v⟩ hy=>by
  rcases S.par n (QW hy).1 with q | q
  ·exact .inl q
  ·exact .inr ⟨q,Sz _ _ _ (.inl q)⟩
 refine codeAny_call_function hr.depth (KX _ _ lk) rfl S.co S.gen rfl (PySem.W.codeRec_of KX hcd) (hb _ _ _ _ ?_)
 refine wpAny_newFunctionEnv_cells S.kind hkind fun env he s1 x=>?_
 subst he
 refine ⟨lim.keeps x.toInCall.keep,codeAny_func ?_⟩
 obtain ⟨t,ht,hq⟩:=hbody A outer s H vs Q E (hr.deeper _) hsp
 have I:Inv (rN CX P w K mg base N qual scope f cdv A outer s H E) [] (start N vs) H s1:=vv S hr.hd e0 hl r x
 refine Px (ht [] s1 (start N vs) H _ I hq) (fun fl s' hs=>?_) fun e s' hs=>hs
 have fin:∀ {σ':St}{H':Hp}{v:V}{u:Value},Inv (rN CX P w K mg base N qual scope f cdv A outer s H E) [] σ' H' s'->RelV v u->Q v H'->CE outer P w H s Q u s' :=
  fun {σ' H' v u} J rv q=>⟨v,H',J.os,J.bare,J.base,J.hok,rv,q⟩
 cases fl with
 | ret u =>
  obtain ⟨v,σ',H',J,rv,q⟩:=hs
  exact fin J rv q
 | next =>
  obtain ⟨σ',H',J,q⟩:=hs
  exact fin (v:=V.non) (u:=Pz) J rfl q
 | brk =>
  obtain ⟨_,_,_,q⟩:=hs
  exact OQ q
 | cont =>
  obtain ⟨_,_,_,q⟩:=hs
  exact OQ q
end L2
namespace L2
open PySem PySem.Spec PyProof.Rows
section
variable {X:Cx}{x:Str}{p pos:Pos}{e:Qk}{es:List Qk}{t:TA}{id T:String}{r:List V->Hp->VK->Prop}
noncomputable def tCB (r:List V->Hp->VK->Prop) (t:TA):TE:=fun σ H Q=>t σ H fun vs H1=>r vs H1 Q
theorem gF (hc:ff X (.builtin id) r) (hg:Gl X x) (hm:X.mg x=none) (hv:QJ x=some (.builtin id)) (ha:PA X (e :: es) t) (hn:x≠"__name__":=by decide) (hdb:(x==("__debug__":Str))=false:=by decide)
 (he:Oc (e :: es) X.env=(false,eval e X.env) :: Oc es X.env:=by rfl) (hpl:(Qf pos (Oc es X.env)).any (·.1)=false:=by rfl):PE X (.Call (.Name x p) (e :: es) [] pos) (tCB r t):=by
 intro pins s σ H Q I h
 refine Po (jB I hg hm hv ?_ hn hdb)
 exact PyProof.Rows.callWith_builtin1 (thn (ha pos pins s σ H _ I h) fun us s1 ⟨vs,H1,I1,r1,q1⟩=>hc pins s1 σ H1 vs us Q I1 r1 q1) he hpl
theorem gc (hc:ff X (.type T) r) (hg:Gl X x) (hm:X.mg x=none) (hv:QJ x=some (.type T)) (ha:PA X (e :: es) t) (hn:x≠"__name__":=by decide) (hdb:(x==("__debug__":Str))=false:=by decide)
 (he:Oc (e :: es) X.env=(false,eval e X.env) :: Oc es X.env:=by rfl) (hpl:(Qf pos (Oc es X.env)).any (·.1)=false:=by rfl):PE X (.Call (.Name x p) (e :: es) [] pos) (tCB r t):=by
 intro pins s σ H Q I h
 refine Po (jB I hg hm hv ?_ hn hdb)
 exact OO (thn (ha pos pins s σ H _ I h) fun us s1 ⟨vs,H1,I1,r1,q1⟩=>hc pins s1 σ H1 vs us Q I1 r1 q1) he hpl
end
end L2
namespace HT
open PySem PyProof.Rows
section
open PySem.SeqAt
open PySem.AutoSeq1 (wpAny_loadPart')
open PySem.MeetsSeq PySem.MeetsSeq2 PySem.MeetsSeq3
end
section
variable {prog:NT}{w:N7}{A:Om}{E:Value->ND->Prop}{s:ND}
theorem AN {t b:NL}{vs ws:List Value}{Q:Value->ND->Prop} (ht:IsTup s.heap t vs.toArray) (hb:IsTup s.heap b ws.toArray) (hv:vs≠[])
 (h1:ws=[]->Q (.ref t) s) (h2:ws≠[]->Q (.ref s.heap.objs.size) { s with heap:=s.heap.push { cls:=.type "tuple",data:=.seq (vs++ws).toArray } })
 (hsz:vs.length+ws.length<=sizeLine):wpAny (N5 prog w) A (OW .Add (.ref t) (.ref b)) Q E s:=by
 obtain ⟨⟨cls,dd,data,sl⟩,ho,hc,n,hd⟩:=id ht
 obtain ⟨⟨cls2,dd2,data2,sl2⟩,ho2,hc2,n2,hd2⟩:=id hb
 simp only at hc hd hc2 hd2
 subst hc hd hc2 hd2
 have e:vs.toArray++ws.toArray=(vs++ws).toArray:=by simp
 by_cases hw:ws=[]
 ·exact concat_meets ⟨_,ho,rfl⟩ ⟨_,ho2,rfl⟩ SK Ud QD QA (Qt _ _)
   (tuple_addW1 t b vs.toArray ws.toArray n n2 dd dd2 sl sl2 (by simpa using hv) (by simp[hw])) ⟨ho,ho2,h1 hw⟩
 ·refine concat_meets ⟨_,ho,rfl⟩ ⟨_,ho2,rfl⟩ SK Ud QD QA (Qt _ _)
   (tuple_addW2 t b vs.toArray ws.toArray n n2 dd dd2 sl sl2 (by simpa using hv) (by simpa using hw) (by rw[NF,NF];exact hsz)) ⟨ho,ho2,?_⟩
  rw[e]
  exact h2 hw
noncomputable def sIx (n d:Nat):Option Int->Nat
 | none=>d
 | some v=>if v < 0 then (v+(n:Int)).toNat else min v.toNat n
theorem Ek (n d:Nat) (hd:d<=n) (o:Option Int):sIx n d o<=n:=by
 cases o with
 | none=>exact hd
 | some v =>
  show (if v < 0 then (v+(n:Int)).toNat else min v.toNat n)<=n
  by_cases hv:v < 0
  ·rw[if_pos hv];lia
  ·rw[if_neg hv];exact R0 _ _
theorem tK (v:Int) (n d:Nat):(if v < 0 then max (v+(n:Int)) 0 else min v (n:Int))=((sIx n d (some v):Nat):Int):=by
 show (if v < 0 then max (v+(n:Int)) 0 else min v (n:Int))=(((if v < 0 then (v+(n:Int)).toNat else min v.toNat n):Nat):Int)
 by_cases hv:v < 0
 ·simp only[if_pos hv];lia
 ·simp only[if_neg hv];lia
theorem rO (lo hi:Option Int) (n:Nat):Ox lo hi 1 (n:Int)=(((sIx n 0 lo:Nat):Int),((sIx n n hi:Nat):Int)):=by
 have h1:¬ ((1:Int) < 0):=by lia
 unfold Ox
 simp only[h1,if_false]
 refine Prod.ext ?_ ?_
 ·cases lo with
  | none=>rfl
  | some v=>exact tK v n 0
 ·cases hi with
  | none=>rfl
  | some v=>exact tK v n n
theorem rP (i j:Nat):Oe (i:Int) (j:Int) 1=j - i:=by
 unfold Oe
 have h1:(1:Int) > 0:=by lia
 simp only[h1,if_true,Int.ediv_one]
 split<;>lia
theorem lS {v:Value}{o:Option Int}{Q:Option Int->ND->Prop} (p:SI v o) (h:Q o s):wpAny (N5 prog w) A (Builtin.Slice.slicePartIndex v) Q E s:=by
 cases p with
 | none=>exact Rx h
 | int i t=>exact slicePart_int h
theorem gG {sl:NL}{vl vu:Value}{lo hi:Option Int}{n:Nat}{Q:Int×Int×Nat->ND->Prop} (hs:s.heap.IsSliceOf sl vl vu .none) (pl:SI vl lo) (pu:SI vu hi)
 (h:Q (((sIx n 0 lo:Nat):Int),1,sIx n n hi - sIx n 0 lo) s):wpAny (N5 prog w) A (Pc (.ref sl) (pure (n:Int))) Q E s:=by
 obtain ⟨os,hos,hcs,hds⟩:=id hs
 unfold Pc Rm
 refine NB (NB (Os hos hds (x:=vl) rfl (NB (Os hos hds (x:=vu) rfl (NB (Os hos hds (x:=.none) rfl (wpAny_pure ?_)))))))
 refine NB (Rx ?_)
 show wpAny _ _ (if ((1:Int)==0)=true then _ else _) _ _ s
 rw[if_neg (by decide)]
 refine NB (lS pl (NB (lS pu (NB (wpAny_pure ?_)))))
 show wpAny _ _ (match Ox lo hi 1 (n:Int) with | (lo,hi)=>pure (lo,(1:Int),Oe lo hi 1)) _ _ s
 rw[rO lo hi n]
 show wpAny _ _ (pure (((sIx n 0 lo:Nat):Int),(1:Int),Oe ((sIx n 0 lo:Nat):Int) ((sIx n n hi:Nat):Int) 1)) _ _ s
 rw[rP]
 exact wpAny_pure h
theorem xB (xs:Array Value) (i k:Nat):((OR k).filterMap fun (m:Nat)=>xs[((i:Int)+(m:Int)*1).toNat]?).toArray=((xs.toList.drop i).take k).toArray:=by
 have e:(fun (m:Nat)=>xs[((i:Int)+(m:Int)*1).toNat]?)=fun m=>xs[i+m]?:=by
  funext m
  have:((i:Int)+(m:Int)*1).toNat=i+m:=by lia
  rw[this]
 rw[e]
 have:=pick_run xs i k
 rw[List.filterMap_map] at this
 have e2:((fun x=>xs[x]?) ∘ fun x=>i+x)=fun m=>xs[i+m]?:=rfl
 rw[e2] at this
 rw[this]
theorem jO {t sl:NL}{items:Array Value}{vl vu:Value}{lo hi:Option Int}{Q:Value->ND->Prop} (ht:IsTup s.heap t items) (hs:s.heap.IsSliceOf sl vl vu .none) (pl:SI vl lo) (pu:SI vu hi)
 (hw:¬ (sIx items.size 0 lo=0/\sIx items.size items.size hi=items.size))
 (h:Q (.ref s.heap.objs.size) { s with heap:=s.heap.push { cls:=.type "tuple",data:=.seq ((items.toList.drop (sIx items.size 0 lo)).take (sIx items.size items.size hi - sIx items.size 0 lo)).toArray } })
 (hsz:items.size<=sizeLine):wpAny (N5 prog w) A (QZ (.ref t) (.ref sl)) Q E s:=by
 have htake:sizeOk (.seq ((items.toList.drop (sIx items.size 0 lo)).take (sIx items.size items.size hi - sIx items.size 0 lo)).toArray):=by
  show ((items.toList.drop (sIx items.size 0 lo)).take (sIx items.size items.size hi - sIx items.size 0 lo)).toArray.size<=sizeLine
  rw[NF,OP,Ot,Ql]
  lia
 have hj:sIx items.size items.size hi<=items.size:=Ek _ _ (NI _) hi
 obtain ⟨os,hos,hcs,hds⟩:=id hs
 have hTs:s.TypeIs (.ref sl) "slice":=⟨os,hos,hcs⟩
 unfold QZ
 try with_reducible refine P7 ?_
 first | refine NB (wpAny_pure ?_) | skip
 refine NB (Sg ht.typeIs (by decide) ?_)
 refine NB (OD (name:=NY "__getitem__") ht.typeIs Oi
  (Pe Oi ht.typeIs RE ?_ (RV _ _)))
 show wpAny _ _ (Qc (.ref t) >>= _) _ _ s
 refine NB (Uc ht ?_)
 refine NB (Sw hTs ?_)
 rw[if_pos (by decide)]
 refine NB (gG hs pl pu ?_)
 have hno:¬ ((((sIx items.size 0 lo:Nat):Int)==0&&(1:Int)==1&&(sIx items.size items.size hi - sIx items.size 0 lo)==items.size)=true):=by
  intro q
  rw[NG,NG] at q
  have q1:((sIx items.size 0 lo:Nat):Int)=0:=eq_of_beq q.1.1
  have q2:sIx items.size items.size hi - sIx items.size 0 lo=items.size:=eq_of_beq q.2
  exact hw ⟨by lia,by lia⟩
 show wpAny _ _ (if (((sIx items.size 0 lo:Nat):Int)==0&&(1:Int)==1&&(sIx items.size items.size hi - sIx items.size 0 lo)==items.size)=true then _ else _) _ _ s
 rw[if_neg hno,xB]
 first
  | exact NB (m:=Of _) (Oo (wpAny_pure ⟨_,rfl,wpAny_pure h⟩) htake)
  | exact NB (m:=Of _) (Oo (NB (wpAny_pure (wpAny_pure ⟨_,rfl,wpAny_pure h⟩))) htake)
  | exact NB (NB (m:=Of _) (Oo (wpAny_pure (wpAny_pure ⟨_,rfl,wpAny_pure h⟩)) htake))
  | exact NB (NB (m:=Of _) (Oo (wpAny_pure ⟨_,rfl,wpAny_pure h⟩) htake))
end
end HT
namespace L2
open PySem PySem.Spec PyProof.Rows
noncomputable abbrev TO:=St->Hp->(Option Int->Hp->Prop)->Prop
noncomputable def PO (X:Cx) (e:Option Qk) (t:TO):Prop :=
 ∀ (pins:List (NL×Obj)) (s:ND) (σ:St) (H:Hp) (Q:Option Int->Hp->Prop),Inv X pins σ H s->t σ H Q →
  wpAny (N5 X.prog X.w) X.A (evalPart e X.env) (fun u s'=>∃ o H',Inv X pins σ H' s'/\SI u o/\Q o H') X.xe s
noncomputable def AO:TO:=fun _ H Q=>Q none H
noncomputable def HP (t:TE):TO:=fun σ H Q=>t σ H fun x H1=>∃ i,x=.int i/\Q (some i) H1
section
variable {X:Cx}{e:Qk}{te:TE}{lo hi:Option Qk}{tl th:TO}{pos p2:Pos}
theorem AQ:PO X none AO:=by
 intro pins s σ H Q I h
 rw[RQ]
 exact wpAny_pure ⟨none,H,I,.none,h⟩
theorem AR (h:PE X e te):PO X (some e) (HP te):=by
 intro pins s σ H Q I hw
 rw[Ug]
 refine thn (h pins s σ H _ I hw) fun u s1 zq=>?_
 obtain ⟨x,H1,I1,r1,q1⟩:=zq
 obtain ⟨i,rfl,q⟩:=q1
 obtain ⟨t,rfl⟩:=r1
 exact ⟨some i,H1,I1,.int i t,q⟩
noncomputable def SlR (X:Cx) (r:V->Option Int->Option Int->Hp->VK->Prop):Prop :=
 ∀ (pins:List (NL×Obj)) (s:ND) (σ:St) (H:Hp) (x:V) (v vl vu:Value) (lo hi:Option Int) (sl:NL) (Q:VK),Inv X pins σ H s->RelV x v->s.heap.IsSliceOf sl vl vu .none->SI vl lo->SI vu hi->r x lo hi H Q →
  ∃ T id,typeLookup (.type T) "__getitem__"=pure (some (.builtin id))/\s.TypeIs v T/\wpAny (N5 X.prog X.w) X.A (QZ v (.ref sl)) (EP X pins σ Q) X.xe s
noncomputable def tSl (r:V->Option Int->Option Int->Hp->VK->Prop) (te:TE) (tl th:TO):TE:=fun σ H Q=>te σ H fun x H1=>tl σ H1 fun l H2=>th σ H2 fun u H3=>r x l u H3 Q
theorem xC {r:V->Option Int->Option Int->Hp->VK->Prop} (hr:SlR X r) (he:PE X e te) (hl:PO X lo tl) (hu:PO X hi th):PE X (.Subscript e (.Slice lo hi none p2) pos) (tSl r te tl th):=by
 intro pins s σ H Q I h
 refine T4 (thn (he pins s σ H _ I h) fun v s1 zq=>?_)
 obtain ⟨x,H1,I1,r1,q1⟩:=zq
 refine wpAny_Slice (thn (hl pins s1 σ H1 _ I1 q1) fun vl s2 ⟨l,H2,I2,pl,q2⟩=>thn (hu pins s2 σ H2 _ I2 q2) fun vu s3 zq=>?_)
 obtain ⟨u,H3,I3,pu,q3⟩:=zq
 rw[RQ]
 refine wpAny_pure ?_
 have I4:Inv X pins σ H3 { s3 with heap:=s3.heap.push { cls:=.type "slice",data:=.fields #[vl,vu,.none] } }:=I3.kept (t':=s3.toks) fun b ob q=>NC _ q
 obtain ⟨T,id,hT,ht,hg⟩:=hr pins { s3 with heap:=s3.heap.push { cls:=.type "slice",data:=.fields #[vl,vu,.none] } } σ H3 x v vl vu l u s3.heap.objs.size Q I4 r1 (QL ..) pl pu q3
 show wpAny (N5 X.prog X.w) X.A (RP e (.Slice lo hi none p2) v (.ref s3.heap.objs.size)) (EP X pins σ Q) X.xe { s3 with heap:=s3.heap.push { cls:=.type "slice",data:=.fields #[vl,vu,.none] } }
 exact SV (ops:=[.ref s3.heap.objs.size,v]) ht hT hg (by with_unfolding_all rfl)
noncomputable def qf (xs:List V) (lo hi:Option Int):List V:=(xs.drop (HT.sIx xs.length 0 lo)).take (HT.sIx xs.length xs.length hi - HT.sIx xs.length 0 lo)
theorem kT (xs:List V) (lo hi:Option Int):(qf xs lo hi).length<=xs.length:=by
 unfold qf
 rw[OP,Ot]
 lia
noncomputable def Lm (K:Nz):V->Option Int->Option Int->Hp->VK->Prop:=fun x lo hi H Q=>∃ a xs,x=.ref a/\SqT K H a xs ∧
 ¬ (HT.sIx xs.length 0 lo=0/\HT.sIx xs.length xs.length hi=xs.length)/\∀ p,H p=none->Q (.ref p) (upd H p (.tup (qf xs lo hi)))
theorem El:SlR X (Lm X.K):=by
 intro pins s σ H x v vl vu lo hi sl Q I rx hs pl pu h
 obtain ⟨a,xs,rfl,hx,hw,q⟩:=h
 cases rx
 obtain ⟨its,r,ht,hz⟩:=I.tuple hx
 have hlen:its.toArray.size=xs.length:=by rw[NF];exact r.length.symm
 refine ⟨"tuple",_,PyProof.Rows.slot_tuple_getitem.lookup,ht.typeIs,?_⟩
 refine HT.jO ht hs pl pu (by rw[hlen];exact hw) ?_ (by rw[hlen];exact hz)
 rw[hlen]
 refine ⟨.ref s.heap.objs.size,_,I.laid (t':=s.toks) (o:=.tup (qf xs lo hi)) (fun b ob q=>NC _ q) (NI _) ?_,rfl,q _ (I.hok.fresh (NI _))⟩
 exact ⟨Ol (kT xs lo hi) hz,_,(r.drop (HT.sIx xs.length 0 lo)).take (HT.sIx xs.length xs.length hi - HT.sIx xs.length 0 lo),IsTup.new _ _⟩
noncomputable def HQ (K:Nz):R2:=fun x y H Q=>∃ a b xs ys,x=.ref a/\y=.ref b/\SqT K H a xs/\SqT K H b ys/\xs≠[]/\xs.length+ys.length<=sizeLine ∧
 (ys=[]->Q (.ref a) H)/\(ys≠[]->∀ p,H p=none->Q (.ref p) (upd H p (.tup (xs++ys))))
theorem cZ.jP {xs:List V}{us:List Value} (r:cZ xs us):us=[]↔xs=[]:=by
 cases r with
 | nil=>simp
 | cons _ _=>simp
theorem AS:OpR X (OW .Add) (HQ X.K):=by
 intro pins s σ H x y v u Q I rx ry h
 obtain ⟨a,b,xs,ys,rfl,rfl,ha,hb,hx,hz,q1,q2⟩:=h
 cases rx
 cases ry
 obtain ⟨its,r1,p1,_⟩:=I.tuple ha
 obtain ⟨its2,r2,p2,_⟩:=I.tuple hb
 refine HT.AN p1 p2 (fun z=>hx (r1.jP.mp z)) (fun z=>⟨.ref a,H,I,rfl,q1 (r2.jP.mp z)⟩) (fun z=>?_) (by rw[← r1.length,← r2.length];exact hz)
 refine ⟨.ref s.heap.objs.size,_,I.laid (t':=s.toks) (o:=.tup (xs++ys)) (fun b ob q=>NC _ q) (NI _) ?_,rfl,q2 (fun w=>z (r2.jP.mpr w)) _ (I.hok.fresh (NI _))⟩
 exact ⟨by rw[NW];exact hz,_,r1.append r2,IsTup.new _ _⟩
end
end L2
namespace L2
open PySem PySem.Spec PyProof.Rows
noncomputable def ixN (n:Nat) (i:Int):Option Nat:=if 0<=i then (if i < n then some i.toNat else none) else if -(n:Int)<=i then some (i+n).toNat else none
noncomputable def atI {α:Type} (xs:List α) (i:Int):Option α:=(ixN xs.length i).bind fun j=>xs[j]?
theorem tL {n:Nat}{i:Int}{j:Nat} (h:ixN n i=some j):seqIndex? i n=some j/\j < n/\-(n:Int)<=i/\i < n:=by
 unfold ixN at h
 by_cases h0:0<=i
 ·rw[if_pos h0] at h
  by_cases h1:i < n
  ·rw[if_pos h1] at h
   have e:i.toNat=j:=NO h
   exact ⟨by rw[seqIndex_of h0 h1,e],by lia,by lia,h1⟩
  ·rw[if_neg h1] at h;cases h
 ·rw[if_neg h0] at h
  by_cases h1:-(n:Int)<=i
  ·rw[if_pos h1] at h
   have e:(i+n).toNat=j:=NO h
   exact ⟨by rw[seqIndex_neg (by lia) h1,e],by lia,h1,by lia⟩
  ·rw[if_neg h1] at h;cases h
theorem oA {α:Type}{xs:List α}{i:Int}{v:α} (h:atI xs i=some v):∃ j,seqIndex? i xs.length=some j/\xs[j]?=some v/\j < xs.length/\-(xs.length:Int)<=i/\i < xs.length:=by
 unfold atI at h
 cases e:ixN xs.length i with
 | none=>rw[e] at h;cases h
 | some j =>
  rw[e] at h
  obtain ⟨h1,h2,h3,h4⟩:=tL e
  exact ⟨j,h1,h,h2,h3,h4⟩
noncomputable def tM (b:Qk):Prop:=∀ o i,subscripted b false o i=operate [o,i] (QZ o i)
noncomputable def IxR (X:Cx) (r:R2):Prop :=
 ∀ (value slice:Qk) (pins:List (NL×Obj)) (s:ND) (σ:St) (H:Hp) (x y:V) (v u:Value) (Q:VK),Inv X pins σ H s->RelV x v->RelV y u->r x y H Q →
  subscripted slice false v u=operate [v,u] (QZ v u)->wpAny (N5 X.prog X.w) X.A (RP value slice v u) (EP X pins σ Q) X.xe s
noncomputable def MtR (X:Cx) (id:String) (r:V->List V->Hp->VK->Prop):Prop :=
 ∀ (pins:List (NL×Obj)) (s:ND) (σ:St) (H:Hp) (x:V) (xs:List V) (v:Value) (us:List Value) (Q:VK),Inv X pins σ H s->RelV x v->cZ xs us->r x xs H Q →
  wpAny (N5 X.prog X.w) X.A (call (.builtin id) (v :: us)) (EP X pins σ Q) X.xe s
section
variable {X:Cx}{a b:Qk}{ta tb:TE}{pos:Pos}
theorem HR {r:R2} (hr:IxR X r) (ha:PE X a ta) (hb:PE X b tb) (hs:tM b):PE X (.Subscript a b pos) (tOp r ta tb):=by
 intro pins s σ H Q I h
 exact T4 (D7 ha hb I h fun v u s2 x y H2 I2 rx ry q=>hr a b pins s2 σ H2 x y v u Q I2 rx ry q (hs _ _))
noncomputable def Ln (K:Nz):R2:=fun x y H Q=>∃ p xs i v,x=.ref p/\y=.int i/\SqL K H p xs/\atI xs i=some v/\Q v H
noncomputable def Lo (K:Nz):R2:=fun x y H Q=>∃ p xs i v,x=.ref p/\y=.int i/\SqT K H p xs/\atI xs i=some v/\Q v H
noncomputable def Lp:R2:=fun x y H Q=>∃ z i c,x=.str z/\y=.int i/\z.length<=sizeLine/\atI z.cps.toList i=some c/\Q (.str ⟨#[c]⟩) H
theorem AU:IxR X (Ln X.K):=by
 intro value slice pins s σ H x y v u Q I rx ry h hs
 obtain ⟨p,xs,i,z,rfl,rfl,hq,he,q⟩:=h
 cases rx
 obtain ⟨t,rfl⟩:=ry
 obtain ⟨its,r,pl,hz⟩:=I.list hq
 obtain ⟨j,h1,h2,h3,h4,h5⟩:=oA he
 obtain ⟨w,ew,rw'⟩:=r.get h2
 have hl:=r.length
 have hn:=kq
 have fin:EP X pins σ Q w s:=⟨z,H,I,rw',q⟩
 by_cases h0:0<=i
 ·have hj:i.toNat=j:=by
   rw[seqIndex_of h0 h5] at h1
   exact NO h1
  exact item_listR pl.isList h0 (by lia) (by rw[hj];simpa using ew) fin hs
 ·have hj:(i+(its.toArray.size:Int)).toNat=j:=by
   rw[seqIndex_neg (by lia) h4] at h1
   rw[NF,← hl]
   exact NO h1
  exact subscriptTail_builtinR (x:=w) pl.isList.typeIs slot_list_getitem.lookup
   (wpAny_getItem_list_neg (Q:=fun r s'=>r=w/\EP X pins σ Q r s') pl.isList (by lia) (by rw[NF]<;>lia) (by lia) (by rw[hj];simpa using ew) ⟨rfl,fin⟩) hs
theorem Em:IxR X (Lo X.K):=by
 intro value slice pins s σ H x y v u Q I rx ry h hs
 obtain ⟨p,xs,i,z,rfl,rfl,hq,he,q⟩:=h
 cases rx
 obtain ⟨t,rfl⟩:=ry
 obtain ⟨its,r,pl,hz⟩:=I.tuple hq
 obtain ⟨j,h1,h2,h3,h4,h5⟩:=oA he
 obtain ⟨w,ew,rw'⟩:=r.get h2
 have hl:=r.length
 have hn:=kq
 have fin:EP X pins σ Q w s:=⟨z,H,I,rw',q⟩
 exact subscriptTail_builtinR (x:=w) pl.typeIs slot_tuple_getitem.lookup
  (getItem_tuple (j:=j) (Q:=fun r s'=>r=w/\EP X pins σ Q r s') pl (by lia) (by lia) (by rw[NF,← hl];exact h1) (by simpa using ew) ⟨rfl,fin⟩) hs
theorem En:IxR X Lp:=by
 intro value slice pins s σ H x y v u Q I rx ry h hs
 obtain ⟨z,i,c,rfl,rfl,hz,he,q⟩:=h
 obtain ⟨t,rfl⟩:=rx
 obtain ⟨t',rfl⟩:=ry
 obtain ⟨j,h1,h2,h3,h4,h5⟩:=oA he
 have hl:z.cps.toList.length=z.length:=by simp[Str.length]
 rw[hl] at h1 h4 h5
 have hn:=kq
 exact SV (typeIs_str s z t) slot_str_getitem.lookup (getItem_str (c:=c) (by
  have e1:decide (i < -(2 ^ 63:Int))=false:=decide_eq_false (by lia)
  have e2:decide (i ≥ 2 ^ 63)=false:=decide_eq_false (by lia)
  rw[e1,e2,Bool.or_false]) (by rw[h1];simpa using h2) ⟨.str ⟨#[c]⟩,H,I.tok _,⟨_,rfl⟩,q⟩) hs
theorem rQ (its:List Value) (n j:Nat) (u:Value):Q5 (·.setIfInBounds j u) { cls:=.type "list",data:=.seq its.toArray n }={ cls:=.type "list",data:=.seq (its.set j u).toArray n }:=by
 simp[Q5]
theorem Inv.lst {pins:List (NL×Obj)}{σ:St}{H:Hp}{s:ND}{p:NL}{xs:List V} (I:Inv X pins σ H s) (h:H p=some (.lst xs)) :
 ∃ (its:List Value) (n:Nat),cZ xs its/\s.heap.get? p=some { cls:=.type "list",data:=.seq its.toArray n }/\xs.length<=sizeLine:=by
 obtain ⟨z,its,n,r,e⟩:=I.hok p _ h
 exact ⟨its,n,r,e,z⟩
theorem Inv.Eo {pins:List (NL×Obj)}{σ:St}{H:Hp}{s:ND}{p:NL}{xs ys:List V}{its its':List Value}{n n':Nat}{f:Obj->Obj} (I:Inv X pins σ H s) (h:H p=some (.lst xs))
 (ho:s.heap.get? p=some { cls:=.type "list",data:=.seq its.toArray n }) (hf:f { cls:=.type "list",data:=.seq its.toArray n }={ cls:=.type "list",data:=.seq its'.toArray n' }) (r:cZ ys its') (hz:ys.length<=sizeLine) (t:Nat) :
 Inv X pins σ (upd H p (.lst ys)) { s with heap:=s.heap.update p f,toks:=t }:=by
 have e:(s.heap.update p f).get? p=some { cls:=.type "list",data:=.seq its'.toArray n' }:=by
  rw[TH f ho (by rw[hf]<;>rfl),hf]
 refine I.write (x:=p) (e:=p) (by rw[h];trivial) (.inl rfl) (fun b u hb q=>(Tn _ _ (QB hb)).trans q) ⟨_,e⟩ ?_
 exact ⟨hz,its',n',r,e⟩
noncomputable def Dj:V->V->V->Hp->(Hp->Prop)->Prop:=fun o i v H Q=>∃ p xs k j,o=.ref p/\i=.int k/\H p=some (.lst xs)/\ixN xs.length k=some j/\Q (upd H p (.lst (xs.set j v)))
theorem set_list:Hr X Dj:=by
 intro pins s σ H o i v ov iv u Q I ro ri rv h
 obtain ⟨p,xs,k,j,rfl,rfl,hp,hj,q⟩:=h
 cases ro
 obtain ⟨t,rfl⟩:=ri
 obtain ⟨its,n,r,ho,hz⟩:=I.lst hp
 obtain ⟨h1,h2,h3,h4⟩:=tL hj
 have hl:=r.length
 have hn:=kq
 have I':Inv X pins σ (upd H p (.lst (xs.set j v))) { s with heap:=s.heap.update p (Q5 (·.setIfInBounds j u)) } :=
  I.Eo hp ho (rQ its n j u) (r.set rv j) (by rw[List.length_set];exact hz) s.toks
 by_cases h0:0<=k
 ·have hk:k.toNat=j:=by
   rw[seqIndex_of h0 h4] at h1
   exact NO h1
  exact PySem.W.ki_setAt ho h0 (by lia) (by rw[NF,← hl];exact h4) (by rw[hk];exact ⟨_,I',q⟩)
 ·have hk:(k+(its.toArray.size:Int)).toNat=j:=by
   rw[seqIndex_neg (by lia) h3] at h1
   rw[NF,← hl]
   exact NO h1
  exact PySem.W.ki_setBack ho (by lia) (by rw[NF,← hl];exact h3) (by lia) (by rw[hk];exact ⟨_,I',q⟩)
theorem oB (lo hi:Option Int) (n:Nat):(On lo hi none n).1=((HT.sIx n 0 lo:Nat):Int)/\(On lo hi none n).2.1=((HT.sIx n n hi:Nat):Int)/\(On lo hi none n).2.2=1:=by
 refine ⟨?_,?_,rfl⟩
 ·cases lo with
  | none=>simp[On,HT.sIx]
  | some i =>
   simp only[On,HT.sIx,Uo,show (1:Int) > 0 by decide,if_true]
   by_cases h:i < 0
   ·simp only[h,if_true]<;>lia
   ·simp only[h,if_false]<;>lia
 ·cases hi with
  | none=>simp[On,HT.sIx]
  | some i =>
   simp only[On,HT.sIx,Uo,show (1:Int) > 0 by decide,if_true]
   by_cases h:i < 0
   ·simp only[h,if_true]<;>lia
   ·simp only[h,if_false]<;>lia
theorem m6 (its:List Value) (lo hi:Option Int):slicePick its.toArray lo hi none=((its.drop (HT.sIx its.length 0 lo)).take (HT.sIx its.length its.length hi - HT.sIx its.length 0 lo)).toArray:=by
 obtain ⟨h1,h2,h3⟩:=oB lo hi its.toArray.size
 unfold slicePick
 rw[h1,h2,h3]
 simp only[sliceRange_one,pick_run,NF]<;>rfl
noncomputable def Lq (K:Nz):V->Option Int->Option Int->Hp->VK->Prop:=fun x lo hi H Q=>∃ a xs,x=.ref a/\SqL K H a xs/\∀ p,H p=none->Q (.ref p) (upd H p (.lst (qf xs lo hi)))
theorem AV:SlR X (Lq X.K):=by
 intro pins s σ H x v vl vu lo hi sl Q I rx hs pl pu h
 obtain ⟨a,xs,rfl,hx,q⟩:=h
 cases rx
 obtain ⟨its,r,ht,hz⟩:=I.list hx
 have hlen:=r.length
 refine ⟨"list",_,slot_list_getitem.lookup,ht.isList.typeIs,?_⟩
 refine TZ ht.isList hs pl pu .none (by simp) ?_ (by rw[NF]<;>lia)
 rw[m6,← hlen]
 refine ⟨.ref s.heap.objs.size,_,I.laid (t':=s.toks) (o:=.lst (qf xs lo hi)) (fun b ob q=>NC _ q) (NI _) ?_,rfl,q _ (I.hok.fresh (NI _))⟩
 exact ⟨Ol (kT xs lo hi) hz,_,0,(r.drop (HT.sIx xs.length 0 lo)).take (HT.sIx xs.length xs.length hi - HT.sIx xs.length 0 lo),NR _ rfl⟩
theorem jQ:ff X (.builtin "len") (fun xs H Q=>∃ p ys,xs=[.ref p]/\(SqL X.K H p ys\/SqT X.K H p ys)/\Q (.int ys.length) H):=by
 intro pins s σ H xs us Q I r h
 obtain ⟨p,ys,rfl,hq,q⟩:=h
 obtain ⟨u,rfl,rx⟩:=vals1 r
 cases rx
 have hn:=kq
 rcases hq with hq | hq
 ·obtain ⟨its,r',pl,hz⟩:=I.list hq
  have hlen:=r'.length
  exact Calls.call_len_list pl.isList (by simp only[NF]<;>lia) ⟨.int ys.length,H,I.tok _,⟨s.toks+1,by rw[NF,hlen]⟩,q⟩
 ·obtain ⟨its,r',pl,hz⟩:=I.tuple hq
  have hlen:=r'.length
  exact len_tuple pl (by simp only[NF]<;>lia) ⟨.int ys.length,H,I.tok _,⟨s.toks+1,by rw[NF,hlen]⟩,q⟩
theorem oE:ff X (.builtin "len") (fun xs H Q=>∃ z,xs=[.str z]/\z.length<=sizeLine/\Q (.int z.length) H):=by
 intro pins s σ H xs us Q I r h
 obtain ⟨z,rfl,hz,q⟩:=h
 obtain ⟨u,rfl,t,rfl⟩:=vals1 r
 have hn:=kq
 exact len_str (by lia) ⟨.int z.length,H,I.tok _,⟨_,rfl⟩,q⟩
theorem jR:ff X (.type "list") (fun xs H Q=>∃ p ys,xs=[.ref p]/\(SqL X.K H p ys\/SqT X.K H p ys)/\∀ l,H l=none->Q (.ref l) (upd H l (.lst ys))):=by
 intro pins s σ H xs us Q I r h
 obtain ⟨p,ys,rfl,hq,q⟩:=h
 obtain ⟨u,rfl,rx⟩:=vals1 r
 cases rx
 have fin:∀ (its:List Value),cZ ys its->ys.length<=sizeLine->∀ (h':Heap) (c':Nat),(∀ b o',s.heap.get? b=some o'->h'.get? b=some o') →
  h'.get? s.heap.objs.size=some { cls:=.type "list",dict:=none,data:=.seq its.toArray c',slots:=#[] }->EP X pins σ Q (.ref s.heap.objs.size) { s with heap:=h' }:=fun its r' hz h' c' kp e =>
  ⟨.ref s.heap.objs.size,_,I.laid (t':=s.toks) kp (NI _) (show fG X.prog X.w _ h' _ (.lst ys) from ⟨hz,its,c',r',e⟩),rfl,q _ (I.hok.fresh (NI _))⟩
 rcases hq with hq | hq
 ·obtain ⟨its,r',pl,hz⟩:=I.list hq
  have hlen:=r'.length
  obtain ⟨o,ho,hc,n,hd⟩:=pl.isList
  exact call_list_seq p (.inl rfl) ho hc hd (fun h' c' kp e=>fin its r' hz h' c' kp e) (by simp only[NF]<;>lia)
 ·obtain ⟨its,r',pl,hz⟩:=I.tuple hq
  have hlen:=r'.length
  obtain ⟨o,ho,hc,n,hd⟩:=pl
  exact call_list_seq p (.inr rfl) ho hc hd (fun h' c' kp e=>fin its r' hz h' c' kp e) (by simp only[NF]<;>lia)
theorem jz:ff X (.type "tuple") (fun xs H Q=>∃ p ys,xs=[.ref p]/\((SqL X.K H p ys/\∀ l,H l=none->Q (.ref l) (upd H l (.tup ys)))\/(SqT X.K H p ys/\Q (.ref p) H))):=by
 intro pins s σ H xs us Q I r h
 obtain ⟨p,ys,rfl,h⟩:=h
 obtain ⟨u,rfl,rx⟩:=vals1 r
 cases rx
 rcases h with ⟨hq,q⟩ | ⟨hq,q⟩
 ·obtain ⟨its,r',pl,hz⟩:=I.list hq
  have hlen:=r'.length
  refine call_tuple_list pl.isList (fun h' kp=>?_) (by simp only[NF]<;>lia)
  have I1:Inv X pins σ H { s with heap:=h' }:=I.kept (t':=s.toks) kp
  have I2:Inv X pins σ (upd H h'.objs.size (.tup ys)) { s with heap:=h'.push { cls:=.type "tuple",data:=.seq its.toArray } } :=
   I1.laid (t':=s.toks) (fun b o e=>NC _ e) (NI _) (show fG X.prog X.w _ _ _ (.tup ys) from ⟨hz,its,r',IsTup.new _ _⟩)
  exact ⟨.ref h'.objs.size,_,I2,rfl,q _ (I1.hok.fresh (NI _))⟩
 ·obtain ⟨its,r',pl,hz⟩:=I.tuple hq
  exact call_tuple_same pl ⟨.ref p,H,I,rfl,q⟩
noncomputable def tyV (K:Nz) (T:String) (x:V) (H:Hp):Prop:=match x with
 | .str _=>T="str"
 | .int _=>T="int"
 | .ref p=>(T="list"/\∃ xs,SqL K H p xs)\/(T="tuple"/\∃ o,K.lookup p=some o/\o.cls=.type "tuple"/\o.dict=none) ∨
  (T="dict"/\((∃ kvs,H p=some (.dK kvs))\/∃ kvs,H p=some (.dT kvs)))\/(T="set"/\∃ S n,H p=some (.set S n))
 | _=>False
theorem xD {pins:List (NL×Obj)}{σ:St}{H:Hp}{s:ND}{T:String}{x:V}{v:Value} (I:Inv X pins σ H s) (r:RelV x v) (ty:tyV X.K T x H) :
 s.TypeIs v T/\∀ a,v=.ref a->∃ ob,s.heap.get? a=some ob/\ob.dict=none:=by
 cases x with
 | str z =>
  obtain ⟨t,rfl⟩:=r
  cases (show T="str" from ty)
  exact ⟨typeIs_str s z t,fun _ e=>nomatch e⟩
 | int i =>
  obtain ⟨t,rfl⟩:=r
  cases (show T="int" from ty)
  exact ⟨typeIs_int s i t,fun _ e=>nomatch e⟩
 | ref p =>
  cases r
  rcases ty with ⟨rfl,xs,hq⟩ | ⟨rfl,o,hk,hc,hd⟩ | ⟨rfl,hk⟩ | ⟨rfl,S,n,hk⟩
  ·obtain ⟨its,_,pl,_⟩:=I.list hq
   refine ⟨pl.isList.typeIs,fun a e=>?_⟩
   cases e
   obtain ⟨o,n,e,c,hd,_⟩:=pl
   exact ⟨o,e,hd⟩
  ·refine ⟨⟨o,I.kIn p o hk,hc⟩,fun a e=>?_⟩
   cases e
   exact ⟨o,I.kIn _ o hk,hd⟩
  ·have z:∃ o,s.heap.get? p=some o/\o.ExactDict:=by
    rcases hk with ⟨kvs,hk⟩ | ⟨kvs,hk⟩
    ·obtain ⟨_,_,_,_,o,_,_,e,ex,_⟩:=I.hok p _ hk
     exact ⟨o,e,ex⟩
    ·obtain ⟨_,_,_,_,o,_,_,e,ex,_⟩:=I.hok p _ hk
     exact ⟨o,e,ex⟩
   obtain ⟨o,e,ex⟩:=z
   refine ⟨⟨o,e,ex.1⟩,fun a e2=>?_⟩
   cases e2
   exact ⟨o,e,ex.2.1⟩
  ·obtain ⟨o,_,_,_,e,ex,_⟩:=I.hok p _ hk
   refine ⟨⟨o,e,ex.1⟩,fun a e2=>?_⟩
   cases e2
   exact ⟨o,e,ex.2.1⟩
 | _=>exact OQ ty
noncomputable def Lr (K:Nz) (T:String) (r:V->List V->Hp->VK->Prop) (to:TE):TE:=fun σ H Q=>to σ H fun x H1=>tyV K T x H1/\r x [] H1 Q
noncomputable def tBM (K:Nz) (T:String) (r:V->List V->Hp->VK->Prop) (to:TE) (t:TA):TE:=fun σ H Q=>to σ H fun x H1=>tyV K T x H1/\t σ H1 fun xs H2=>r x xs H2 Q
variable {o e:Qk}{es:List Qk}{to:TE}{t:TA}{name:Str}{apos cpos:Pos}{T id:String}{r:V->List V->Hp->VK->Prop}
theorem Ep (pa:Ua T) (slot:Slot T name id) (hty:typeOf (.builtin id)=pure (.type "method_descriptor")) (hm:MtR X id r) (ho:PE X o to)
 (hbase:Q0 o name X.env (eval o X.env)=eval o X.env:=by rfl) (hline:(apos.endLine==cpos.line)=true:=by rfl):PE X (.Call (.Attribute o name apos) [] [] cpos) (Lr X.K T r to):=by
 intro pins s σ H Q I h
 refine wpAny_Call_method0_late hbase hline (thn (ho pins s σ H _ I h) fun v s1 zq=>?_)
 obtain ⟨x,H1,I1,r1,ty,q1⟩:=zq
 obtain ⟨h1,h2⟩:=xD I1 r1 ty
 exact ⟨T,id,pa,slot,hty,h1,h2,QN rfl (PySem.evalArgs_none (hm pins s1 σ H1 x [] v [] Q I1 r1 .nil q1))⟩
theorem Dl (pa:Ua T) (slot:Slot T name id) (hty:typeOf (.builtin id)=pure (.type "method_descriptor")) (hm:MtR X id r) (ho:PE X o to) (ha:PA X (e :: es) t)
 (hbase:Q0 o name X.env (eval o X.env)=eval o X.env:=by rfl)
 (hfew:((Qf cpos (Oc (e :: es) X.env)).all (fun x=>!x.1)&&(RU cpos (Qx [] X.env)).all (fun x=>x.1.isSome)
 &&decide ((e :: es).length+([]:List Qq).length+(if ([]:List Qq).isEmpty then 0 else 1) < 30))=true:=by rfl)
 (hline:(apos.endLine==cpos.line)=true:=by rfl) (hs:Oc (e :: es) X.env=(false,eval e X.env) :: Oc es X.env:=by rfl) (hplain:(Qf cpos (Oc es X.env)).any (·.1)=false:=by rfl) :
 PE X (.Call (.Attribute o name apos) (e :: es) [] cpos) (tBM X.K T r to t):=by
 intro pins s σ H Q I h
 refine wpAny_Call_method_late hbase hfew hline rfl (thn (ho pins s σ H _ I h) fun v s1 zq=>?_)
 obtain ⟨x,H1,I1,r1,ty,q1⟩:=zq
 obtain ⟨h1,h2⟩:=xD I1 r1 ty
 refine ⟨T,id,pa,slot,hty,h1,h2,?_⟩
 have hA:=ha cpos pins s1 σ H1 _ I1 q1
 rw[hs] at hA ⊢
 refine QN (by show (false||(Qf cpos (Oc es X.env)).any (·.1))=false;rw[hplain]<;>rfl) (TL ?_)
 exact thn hA fun us s2 ⟨vs,H2,I2,r2,q2⟩=>hm pins s2 σ H2 x vs v us Q I2 r1 r2 q2
/- xs.append(e),list.index on a module's tuple .. are MtR facts of 06m -/
end
end L2
namespace L2
open PySem PySem.Spec PyProof.Rows
noncomputable def MtM (X:Cx) (id:String) (r:V->List V->Hp->VK->Prop):Prop :=
 ∀ (pins:List (NL×Obj)) (s:ND) (σ:St) (H:Hp) (x:V) (xs:List V) (v:Value) (us:List Value) (Q:VK),Inv X pins σ H s->RelV x v->cZ xs us->r x xs H Q →
  wpAny (N5 X.prog X.w) X.A (call (.builtin id) (v :: us)) (EP X pins σ Q) X.xe s
theorem cZ.one {x:V}{us:List Value} (h:cZ [x] us):∃ u,us=[u]/\RelV x u:=by
 cases h with | cons r t=>cases t;exact ⟨_,rfl,r⟩
theorem cZ.two {x y:V}{us:List Value} (h:cZ [x,y] us):∃ u v,us=[u,v]/\RelV x u/\RelV y v:=by
 cases h with | cons r t=>obtain ⟨v,rfl,q⟩:=cZ.one t;exact ⟨_,v,rfl,r,q⟩
theorem cZ.zero:∀ {us:List Value},cZ [] us->us=[]
 | _,.nil=>rfl
theorem cZ.dropLast {xs:List V}{us:List Value} (h:cZ xs us):cZ xs.dropLast us.dropLast:=by
 induction h with
 | nil=>exact .nil
 | cons r t ih =>
  cases t with
  | nil=>exact .nil
  | cons q t'=>exact .cons r ih
theorem cZ.rep {xs:List V}{us:List Value} (h:cZ xs us):∀ k:Nat,cZ (NX k xs).flatten (NX k us).flatten
 | 0=>.nil
 | k+1=>by
  rw[OV,OV,Pq,Pq]
  exact cZ.append h (cZ.rep h k)
theorem rR {α:Type} (l:List α):l.eraseIdx (l.length - 1)=l.dropLast:=by
 induction l with
 | nil=>rfl
 | cons a r ih =>
  cases r with
  | nil=>rfl
  | cons b r =>
   have e:(a :: b :: r).length - 1=((b :: r).length - 1)+1:=by
    have h1:(a :: b :: r).length=r.length+2:=rfl
    have h2:(b :: r).length=r.length+1:=rfl
    lia
   rw[e,List.eraseIdx_cons_succ,ih]
   all_goals rfl
theorem foldl_rep (its:List Value):∀ (k:Nat) (acc:List Value),
 SR (fun x1 x2=>x1++x2) acc.toArray (NX k its.toArray)=(acc++(NX k its).flatten).toArray
 | 0,acc=>by simp
 | k+1,acc=>by
  have e:acc.toArray++its.toArray=(acc++its).toArray:=by simp
  have e2:(acc++its)++(NX k its).flatten=acc++(NX (k+1) its).flatten:=by
   rw[OV,Pq,Pr]
  rw[← e2,← foldl_rep its k (acc++its),← e,OV,List.foldl_cons]
section
variable {X:Cx}{pins:List (NL×Obj)}{σ:St}{H:Hp}{s:ND}{l b:NL}{xs ys zs:List V}
theorem Inv.AW {its its':List Value}{n:Nat}{f:Array Value->Array Value}{t':Nat} (I:Inv X pins σ H s) (hH:H l=some (.lst xs))
 (e:s.heap.get? l=some { cls:=.type "list",data:=.seq its.toArray n }) (hf:f its.toArray=its'.toArray) (hv:cZ ys its') (hz:ys.length<=sizeLine) :
 Inv X pins σ (upd H l (.lst ys)) { s with heap:=s.heap.update l (Q5 f),toks:=t' }:=by
 have q:=PySem.IsL.update e f
 rw[hf] at q
 refine I.write (x:=l) (e:=l) (by rw[hH];exact trivial) (.inl rfl) (fun b' u hb hu=>(Tn s.heap (Q5 f) (QB hb)).trans hu) ⟨_,q⟩ ?_
 exact ⟨hz,its',_,hv,q⟩
theorem Inv.HS {its:List Value}{t':Nat} (I:Inv X pins σ H s) (hv:cZ ys its) (hz:ys.length<=sizeLine) :
 Inv X pins σ (upd H s.heap.objs.size (.lst ys)) { s with heap:=s.heap.push { cls:=.type "list",data:=.seq its.toArray },toks:=t' } :=
 I.laid (fun _ _ q=>NC _ q) (NI _) ⟨hz,its,0,hv,NR _ rfl⟩
theorem Inv.fresh (I:Inv X pins σ H s):H s.heap.objs.size=none:=I.hok.fresh (NI _)
theorem Inv.AX (I:Inv X pins σ H s) (hH:H l=some (.lst xs)):xs.length<=sizeLine/\∃ (its:List Value) (n:Nat),cZ xs its/\xs.length=its.length/\s.heap.get? l=some { cls:=.type "list",data:=.seq its.toArray n }:=by
 obtain ⟨z,its,n,r,e⟩:=I.hok l _ hH
 exact ⟨z,its,n,r,r.length,e⟩
theorem lT {n:Nat} (h:n<=sizeLine):OH n=false:=by
 unfold OH
 exact decide_eq_false (by lia)
end
section
variable {X:Cx}
noncomputable def AY:V->List V->Hp->VK->Prop:=fun x vs H Q=>∃ l xs y,x=.ref l/\vs=[y]/\H l=some (.lst xs)/\xs.length < sizeLine/\Q .non (upd H l (.lst (xs++[y])))
theorem vz:MtM X "list.append" AY:=by
 intro pins s σ H x vs v us Q I rx rv h
 obtain ⟨l,xs,y,rfl,rfl,hH,hz,q⟩:=h
 cases rx
 obtain ⟨u,rfl,ru⟩:=rv.one
 obtain ⟨z,its,n,r,hl,e⟩:=I.AX hH
 refine O3 F.slot_list_append ⟨_,e,rfl⟩ F.entry_list_append (F.args_list_append_2 _ _) (PySem.list_append l its.toArray n u (by rw[NF];lia)) ⟨e,?_⟩
 refine ⟨.non,_,I.AW (its':=its++[u]) hH e (by simp) (r.append (.cons ru .nil)) ?_,rfl,q⟩
 rw[NW,Oj]
 lia
noncomputable def Ls:V->List V->Hp->VK->Prop:=fun x vs H Q=>∃ l xs y,x=.ref l/\vs=[]/\H l=some (.lst xs)/\xs[xs.length - 1]?=some y/\Q y (upd H l (.lst xs.dropLast))
theorem Er:MtM X "list.pop" Ls:=by
 intro pins s σ H x vs v us Q I rx rv h
 obtain ⟨l,xs,y,rfl,rfl,hH,hy,q⟩:=h
 cases rx
 have hus:=rv.zero
 subst hus
 obtain ⟨z,its,n,r,hl,e⟩:=I.AX hH
 obtain ⟨u,hu,ru⟩:=r.get hy
 have hy':its.toArray[its.toArray.size - 1]?=some u:=by
  show its.toArray[its.length - 1]?=some u
  rw[← Tt,← hl]
  exact hu
 refine O3 F.slot_list_pop ⟨_,e,rfl⟩ F.entry_list_pop (F.args_list_pop_1 _) (MeetsSeq.list_pop_last l its.toArray n u hy' (by rw[NF];lia)) ⟨e,?_⟩
 refine ⟨y,_,I.AW (its':=its.dropLast) hH e ?_ r.dropLast ?_,ru,q⟩
 ·show its.toArray.eraseIdxIfInBounds (its.toArray.size - 1)=its.dropLast.toArray
  rw[NF,List.eraseIdxIfInBounds_toArray,rR]
 ·rw[List.length_dropLast]
  lia
theorem len_rep {α:Type} (xs:List α) (k:Nat):(NX k xs).flatten.length=k*xs.length:=by
 induction k with
 | zero=>simp
 | succ k ih=>rw[OV,Pq,NW,ih,Nat.succ_mul,Nat.add_comm]
end
section
variable {prog:NT}{w:N7}{A:Om}{E:Value->ND->Prop}{s:ND}
set_option maxRecDepth 100000 in
end
section
variable {X:Cx}
end
end L2
namespace Att
open PySem PySem.W PySem.Calls PyProof.Rows
theorem kY {P:Params}{h:Heap}:∀ (ns:List Int) (vs:List Value),WellAll P h vs (ns.map WData.int)->IntsAre vs ns:=by
 intro ns
 induction ns with
 | nil =>
  intro vs w
  rw[List.map_nil] at w
  cases w
  exact .nil
 | cons n ns ih =>
  intro vs w
  rw[OJ] at w
  cases w with
  | cons a b =>
   cases a
   exact .cons _ _ (ih _ b)
theorem vA {l:OpenLaw}{n:Nat} (hn:l.most=some n) {P:Params}{h:Heap}{args:List WData}{vals:List Value}
 (hpre:l.row.toRowW.claim.pre args=true) (hwl:WellAll P h vals args) :
 ∃ a vs ns,vals=[OS a]/\args=[WData.list (ns.map WData.int)]/\h.get? a=some { cls:=.type "list",data:=.seq vs.toArray }/\IntsAre vs ns/\ns.length<=n:=by
 have hsh:WShape.hasAll [] args [.list .int]=true:=(pre_splitW hpre).1
 have hc:l.pre.holds [] { args:=args }=true:=(pre_splitW hpre).2
 obtain ⟨d,r,rfl,h1,h2⟩:=hasAllW_cons hsh
 obtain rfl:=hasAllW_nil h2
 obtain ⟨xs,rfl,h3⟩:=hasW_list h1
 obtain ⟨ns,rfl⟩:=items_int h3
 have hlen:ns.length<=n:=by
  unfold OpenLaw.pre at hc
  have h4:(WTm.not (.lt (.lit (.int (n:Int))) (.len (.arg 0)))).holds [] { args:=[.list (ns.map .int)] }=true:=by
   have h4:=(holds_andW hc).1
   rw[hn] at h4
   exact h4
  have h5:=condW_of h4 (w_not (w_lt w_lit (w_len_list (w_arg rfl))))
  rw[NS] at h5
  refine Nat.le_of_not_lt fun q=>?_
  have q':(n:Int) < ((ns.length:Nat):Int):=by lia
  first
   | (rw[decide_eq_true q'] at h5;exact absurd h5 (by decide))
   | (simp at h5;lia)
 cases hwl with
 | cons w1 w2 =>
  cases w2
  cases w1 with
  | list ho hall=>exact ⟨_,_,ns,rfl,rfl,ho,kY ns _ hall,hlen⟩
theorem vB (l:OpenLaw) (args:List WData):l.row.toRowW.claim.post args (.bool true) args=true :=
 postW_of (r:=l.row.toRowW) (X:=(true==true))
  (show WShape.has [] (.bool true) .bool=true by first | rfl | decide | simp[WShape.has,WShape.arms,WShape.armsAll])
  (show (WTm.eq .res (.lit (.bool true))).value [] { args:=args,res:=some (.bool true),after:=args }=some (.bool (true==true)) from w_eq_bool (w_res rfl) w_lit) rfl
theorem qh {l:OpenLaw}{n:Nat}{q:NT}{loose:List Str}{XP:(Str->Option Value)->Heap->Prop}{YP:N7->Heap->Prop}{d:DefRec}
 (hn:l.most=some n) (hdf:d.params.defaults=[])
 (call:∀ (w:N7) (s₀ s₁:ND) (mg mb:Str->Option Value) (fa:NL) (o:Obj) (pm cd doc:Value) (a:NL) (vs:List Value) (ns:List Int),
  Ground q loose [] XP w s₀ mg mb s₁.heap->YP w s₁.heap →
  s₁.heap.get? fa=some o->o.data=.func (docDef d.name d.params d.body d.scope pm cd doc)->s₁.heap.CodeRec cd d.name->mg d.name=some (.ref fa) →
  s₁.heap.get? a=some { cls:=.type "list",data:=.seq vs.toArray }->IntsAre vs ns->ns.length<=n->s₁.gens=#[] →
  codeAny (N5 l.prog w) Ui (.call (.ref fa) ⟨[.ref a],[]⟩) (fun r s'=>r=.ok (.ret (.bool true))/\OldK s₁.heap s'.heap/\s'.os=s₁.os/\Tv s'.gens) s₁) :
 WalkO q loose XP YP l.row.toRowW d [] (fun f vs=>Uk f vs):=by
 intro w s₀ s₁ mg mb G Y fa o pm cd doc dV kV ho hd hcd hD hmg hg args vals as hpre hlay hrd hwl hlo
 obtain rfl:dV=.none:=Dflts.none hD hdf
 obtain rfl:kV=.none:=Dflts.noKw hD
 obtain ⟨a,vs,ns,rfl,rfl,hobj,hints,hlen⟩:=vA hn hpre hwl
 refine enter_call (Sx (call w s₀ s₁ mg mb fa o pm cd doc a vs ns G Y ho (fd_plain hd) hcd hmg hobj hints hlen hg) fun r s' hq=>?_)
 obtain ⟨rfl,h2,h3,h4⟩:=hq
 exact ⟨.inl ⟨.bool true,.bool true,[],rfl,fun _=>rfl,.bool true,vB l _,fun _=>⟨List.Pairwise.nil,fun _ hm=>(nomatch hm)⟩⟩,h2,h3,h4⟩
section
variable {prog:NT}{w:N7}{A:Om}{E:Value->ND->Prop}{s:ND}{K:Frag}
noncomputable def ledger (h:Heap) (L d:NL):List (NL×Obj):=(OR h.objs.size).filterMap fun a=>if a=L\/a=d then none else (h.get? a).map fun o=>(a,o)
end
end Att
namespace L2
open PySem PySem.Spec PyProof.Rows
theorem nM:∀ {vs:List Value}{ns:List Int},IntsAre vs ns->cZ (ns.map V.int) vs
 | _,_,.nil=>.nil
 | _,_,.cons n t h=>.cons ⟨t,rfl⟩ (nM h)
end L2
namespace L2
open PySem PySem.Spec PyProof.Rows
noncomputable abbrev KOf {K:Nz}{h:Heap} (_:K.In h):Nz:=K
end L2
/- THE LAST THEOREM (shape;LID,My.* are yours):
 My.Adr: a structure of the addresses that your layer names (classes,functions);My.Txt K t: a structure (Prop) of the equations over K;
 My.txt_mk:{K}{implicit addresses ..} (e1:nsIn K NU "law"=some (some (.ref f))) (e2:K.lookup f=some ⟨oc,od,.func (fnOf "law" "law" params body scope dV kV doc pm an cdv ct),sl⟩) (e3:codeIn K cdv "law"=true) ..:∃ t,My.Txt K t
set_option maxRecDepth 100000 in
set_option maxHeartbeats 0 in
theorem PySem.Challenge.AZ:PySem.Challenge.rw_LID.Holds:=by
 w_on;o_law;k_head;(case hw=>w_witness2)
 k_fill
 refine L2.walk_of (l:=PySem.Challenge.rw_LID) (n:=63) (k:=40) (x:="script") (CX:=fun w=>..) (sp:=fun _=>My.Ah) rfl (by decide) rfl ⟨rfl,by decide,by decide⟩ (fun w h Y=>PySem.W.kIn_of Y) ?F ?S ?C
 case F =>
  intro w mg fa h KX G hmg
  have T:∃ t,My.Txt (L2.KOf KX) t:=by
   dsimp only[L2.KOf]                          -- K must stand as «<heap const> w.params» for k_is
   refine' My.txt_mk ?e1 ?e2 ?e3 ..
   (case e1=>PySem.W.k_is)                    -- in the order: a name->its address->its object->its parts
   (case e2=>PySem.W.k_is)
   ..
  obtain ⟨t,T⟩:=T
  have e0:=hmg.symm.trans (PJ KX G T.law)
  cases e0                                       -- fa is the law's own address
  exact ⟨_,fun s u=>.of_eq rfl,fun base kb nb=>My.law_fn T kb nb⟩     -- if «.of_eq rfl» comes too early: refine' ⟨_,?b,fun base kb nb=>My.law_fn T kb nb⟩;exact fun s u=>.of_eq rfl
 case S=>exact fun w H a ns hl hO hS=>..
 case C=>exact ..
(the tactic k_is has no namespace: write k_is) -/
namespace L2
open PySem PySem.Spec PyProof.Rows
noncomputable abbrev CX0:CXT:=fun _ _ _ _ _ _=>False
noncomputable abbrev E0:XK:=fun _ _ _=>False
theorem nN {X:Cx}:ig CX0 X E0:=fun _ _ _ _ _ _ _ h=>h.elim
inductive HU (K:Nz) (x qual:Str) (st:RX) (f:NL) (fd:O8):Prop where
 | mk (oc:Value) (od:Option NL) (kV doc pm:Value) (an:Option NL) (cdv ct:Value) (osl:Array (Option Value)) (h1:fd=O5 x qual (fN st) (dS st) (c7 st) .none kV doc pm an cdv ct) (h2:K.lookup f=some ⟨oc,od,.func fd,osl⟩) (h3:QV K cdv qual=true):HU K x qual st f fd
structure Fun (K:Nz) (x qual:Str) (st:RX) (f:NL) (fd:O8):Prop where
 ex:HU K x qual st f fd
 kp:OG K (.ref f)=true
section
variable {P:NT}{w:N7}{K:Nz}{mg:Str->Option Value}{base:Heap}
theorem Fun.binds {x qual:Str}{st:RX}{f:NL}{fd:O8}{ps:List Str} (F:Fun K x qual st f fd)
 (h:∀ (kV doc pm:Value) (an:Option NL) (cdv ct:Value) (us:List Value),us.length=ps.length->Uj (O5 x qual (fN st) (dS st) (c7 st) .none kV doc pm an cdv ct) ⟨us,[]⟩=pure (ps.zip us)):Binds K fd ps []:=by
 obtain ⟨oc,od,kV,doc,pm,an,cdv,ct,osl,rfl,lk,hcd⟩:=F.ex
 exact .all (h kV doc pm an cdv ct)
theorem Et {x qual:Str}{st:RX}{f:NL}{oc:Value}{od an:Option NL}{osl:Array (Option Value)}{kV doc pm cdv ct:Value} (l:K.lookup f=some ⟨oc,od,.func (O5 x qual (fN st) (dS st) (c7 st) .none kV doc pm an cdv ct),osl⟩)
 (c:QV K cdv qual=true) (k:OG K (.ref f)=true):Fun K x qual st f (O5 x qual (fN st) (dS st) (c7 st) .none kV doc pm an cdv ct):=⟨⟨oc,od,kV,doc,pm,an,cdv,ct,osl,rfl,l,c⟩,k⟩
end
theorem nO {n:Nat} (h:n<=1000):n < sizeLine:=Nat.lt_of_le_of_lt h (by decide)
section
variable {X:Cx}
end
end L2
end
section
namespace L2
open PySem PySem.Spec PyProof.Rows
section
variable {κ:Type} [DecidableEq κ]
noncomputable def qi (kvs:List (κ×V)) (k:κ):Option V:=(kvs.find? fun kv=>decide (kv.1=k)).map (·.2)
noncomputable def putK (kvs:List (κ×V)) (k:κ) (v:V):List (κ×V) :=
 if (kvs.any fun kv=>decide (kv.1=k))=true then kvs.map (fun kv=>if kv.1=k then (kv.1,v) else kv) else kvs++[(k,v)]
theorem qj {p:κ×V}{r:List (κ×V)}{k:κ} (e:p.1=k):qi (p :: r) k=some p.2:=by simp[qi,P0,e]
theorem qk {p:κ×V}{r:List (κ×V)}{k:κ} (e:¬ p.1=k):qi (p :: r) k=qi r k:=by simp[qi,P0,e]
theorem qm (kvs:List (κ×V)) (k:κ) (v:V):(putK kvs k v).length<=kvs.length+1:=by
 unfold putK
 split
 ·rw[NS];lia
 ·rw[NW,NJ,Pi];lia
theorem KV.val {kvs:List (κ×V)}{vs:List (κ×Value)} (r:KV kvs vs) (k:κ):lM (qi kvs k) (valueAt vs k):=by
 unfold KV at r
 induction r with
 | nil=>exact True.intro
 | @cons p q ps qs h t ih =>
  obtain ⟨h1,h2⟩:=h
  by_cases e:p.1=k
  ·have e':q.1=k:=h1.symm.trans e
   have b:valueAt (q :: qs) k=some q.2:=by simp[valueAt,P0,e']
   rw[qj e,b];exact h2
  ·have e':¬ q.1=k:=fun z=>e (h1.trans z)
   have b:valueAt (q :: qs) k=valueAt qs k:=by simp[valueAt,P0,e']
   rw[qk e,b];exact ih
theorem KV.any {kvs:List (κ×V)}{vs:List (κ×Value)} (r:KV kvs vs) (k:κ):(kvs.any fun kv=>decide (kv.1=k))=vs.any fun kv=>decide (kv.1=k):=by
 unfold KV at r
 induction r with
 | nil=>rfl
 | cons h t ih=>rw[Qj,Qj,ih,h.1]
theorem KV.repl {kvs:List (κ×V)}{vs:List (κ×Value)} (r:KV kvs vs) (k:κ) {y:V}{u:Value} (ry:RelV y u) :
 KV (kvs.map fun kv=>if kv.1=k then (kv.1,y) else kv) (vs.map fun kv=>if kv.1=k then (kv.1,u) else kv):=by
 unfold KV at r ⊢
 induction r with
 | nil=>exact .nil
 | @cons p q ps qs h t ih =>
  rw[OJ,OJ]
  refine .cons ?_ ih
  obtain ⟨h1,h2⟩:=h
  by_cases e:p.1=k
  ·rw[if_pos e,if_pos (h1.symm.trans e)];exact ⟨h1,ry⟩
  ·rw[if_neg e,if_neg (fun z=>e (h1.trans z))];exact ⟨h1,h2⟩
theorem KV.put {kvs:List (κ×V)}{vs:List (κ×Value)} (r:KV kvs vs) (k:κ) {y:V}{u:Value} (ry:RelV y u):KV (putK kvs k y) (stored vs k u):=by
 unfold putK stored
 rw[r.any k]
 by_cases e:(vs.any fun kv=>decide (kv.1=k))=true
 ·rw[if_pos e,if_pos e];exact r.repl k ry
 ·rw[if_neg e,if_neg e];exact Paired.snoc r ⟨rfl,ry⟩
end
theorem xE {P:NT}{w:N7}{k:Key}{u:Value} (r:RelV (kV k) u):(c8 P w).is k u=true:=by
 cases k with
 | inl i=>obtain ⟨t,e⟩:=(show ∃ t,u=Ri i t from r);subst e;exact pW P w i t
 | inr x=>obtain ⟨t,e⟩:=(show ∃ t,u=Te x t from r);subst e;exact d9 P w x t
section
variable {P:NT}{w:N7}{H:Hp}{h:Heap}{a:NL}
theorem HV {u:HO} (ok:HOk P w H h) (e:Rd H a u):fG P w H h a u:=e.ok ok
theorem HW {kvs:List (Key×V)} (ok:HOk P w H h) (e:Rd H a (.dK kvs)):kvs.length<=sizeLine/\(a==O9)=false/\∃ vs,KV kvs vs/\h.DictOf (c8 P w) a vs :=
 show fG P w H h a (.dK kvs) from HV ok e
end
section
variable {X:Cx}{pins:List (NL×Obj)}{σ:St}{H:Hp}{s:ND}{a:NL}{y v:V}{u r:Value}{o:Option V}{A:Om}{E:Value->ND->Prop}
theorem Inv.big (I:Inv X pins σ H s):O9 < s.heap.objs.size:=by
 have h:NU < s.heap.objs.size:=(I.mod.glob.keeps I.bk).lt
 exact Q4 (by decide) h
theorem Eu {P:NT}{w:N7}{H':Hp}{h':Heap}{kvs:List (Key×V)}{vs:List (Key×Value)} (z:kvs.length<=sizeLine) (hd:(a==O9)=false) (rel:KV kvs vs) (dd:h'.DictOf (c8 P w) a vs) :
 fG P w H' h' a (.dK kvs):=⟨z,hd,vs,rel,dd⟩
end
end L2
end
section
namespace BT
open PySem PySem.W PyProof.Rows
noncomputable def Ends {α:Type} (n:Nat) (P:α->Prop):KasT α->Prop
 | .ret a=>P a
 | .ask i j k=>i < n/\j < n/\∀ b,Ends n P (k b)
end BT
end
section
namespace BS
open PySem PySem.W PySem.Spec PyProof.Rows
section
variable {E:Value->ND->Prop}
end
end BS
end
section
namespace BX
open PySem PyProof.Rows
section
variable {prog:NT}{w:N7}{A:Om}{E:Value->ND->Prop}{s:ND}
end
section
variable {prog:NT}{w:N7}{A:Om}{E:Value->ND->Prop}{R:Result->ND->Prop}
end
section
variable {prog:NT}{w:N7}{A:Om}{E:Value->ND->Prop}{s:ND}
end
section
variable {prog:NT}{w:N7}{A:Om}{E:Value->ND->Prop}{s:ND}
end
end BX
end
section
namespace BX
open PySem PySem.Spec PyProof.Rows
section
variable {prog:NT}{w:N7}{A:Om}{E:Value->ND->Prop}{h:Heap}{g:Array GenState}{d:Drawn}{t:Nat}{os:OsState}{a:NL}{o:Obj}
end
section
variable {prog:NT}{w:N7}{K:Type} [DecidableEq K] {knd:KeyKind prog w K}{A:Om}{E:Value->ND->Prop}{s:ND}
end
end BX
end
section
namespace BT
open PySem
theorem dG {P:Prop} (h:false=true):P:=nomatch h
theorem Lu {P:Prop} (h:true=false):P:=nomatch h
theorem iT {β:Type}{a:β}{P:Prop} (h:(none:Option β)=some a):P:=nomatch h
inductive D where
 | non | bl (b:Bool) | int (i:Int) | str (x:Str) | tup (xs:List D) | lst (xs:List D)
inductive FK where
 | f (x:Str) | m (c x:Str) | l (i:Nat)
 deriving DecidableEq
instance:Coe String FK:=⟨fun s=>.f (NY s)⟩
inductive Cp where
 | p (d:D) | o (n:Nat)
noncomputable abbrev Ky:=Int ⊕ Str
inductive Kd where
 | t (kvs:List (Str×D)) | l (kvs:List (Ky×D))
inductive W where
 | p (d:D) | r (n:Nat) | k (kvs:Kd) | o (n:Nat) | c (f:FK) (cs:List Cp) | x (c:Str)
noncomputable def Cp.w:Cp->W
 | .p d=>.p d
 | .o n=>.o n
@[simp] theorem Cp.w_p (d:D):Cp.w (.p d)=.p d:=rfl
@[simp] theorem Cp.w_o (n:Nat):Cp.w (.o n)=.o n:=rfl
noncomputable def tN:W->Option Cp
 | .p d=>some (.p d)
 | .o n=>some (.o n)
 | .r _=>none
 | .k _=>none
 | .c _ _=>none
 | .x _=>none
@[simp] theorem JT (d:D):tN (.p d)=some (.p d):=rfl
@[simp] theorem JU (n:Nat):tN (.o n)=some (.o n):=rfl
inductive Cl where
 | l (xs:List D) | o (c:Str) (fs:List (Str×W)) | d (kvs:List (Ky×D)) | z
noncomputable abbrev HH:=List Cl
noncomputable abbrev Sl:=List (Option W)
set_option genInjectivity false in
inductive Bin where
 | add | sub | mul | mod | fdiv | pow
set_option genInjectivity false in
inductive Cm where
 | eq | ne | lt | le | gt | ge | isN | notN | mem | nmem
set_option genInjectivity false in
inductive Sr where
 | seq | rng1 | rng2 | rev | enu | zip2 | rng3 | itm | chs | zipG
inductive Bi where
 | len | abs | int | str | bool | list | tuple | all | any | isInt | isBool | isStr | isTuple | isList | min2 | max2
 | sum | sorted | max1 | lzip | nset | sset | maxd | lrng3
set_option genInjectivity false in
inductive Me where
 | append | pop | extend | tindex | sindex | dget | count | lindex
inductive Tx where
 | join | split | str | intS | all | inS | ninS | dget | pre
inductive Dk where
 | of | ks | so | it
set_option genInjectivity false in
mutual
inductive E where
 | var (i:Nat)
 | cst (d:D)
 | glo (x:Str)
 | bin (o:Bin) (a b:E)
 | neg (a:E)
 | not (a:E)
 | and (a b:E)
 | or (a b:E)
 | cmp (o:Cm) (a b:E)
 | chain (o o':Cm) (a b c:E)
 | ite (c a b:E)
 | tup (as:Es)
 | lst (mu:Bool) (as:Es)
 | idx (a i:E)
 | slc (a:E) (lo hi:Es)
 | rvs (a:E)
 | stp (mu:Bool) (k:Int) (a:E)
 | call (f:Str) (as:Es)
 | fld (a:E) (f:Str)
 | meth (o:E) (m:Str) (as:Es)
 | make (c:Str) (as:Es)
 | bi (b:Bi) (mu:Bool) (as:Es)
 | lsr (mu:Bool) (sr:Sr) (as:Es)
 | me (m:Me) (o:E) (as:Es)
 | comp (mu:Bool) (sr:Sr) (sa:Es) (tg:List Str) (fv:List (Nat×Str)) (cond:Es) (elt:E)
 | callv (i:Nat) (as:Es)
 | methL (o:E) (m:Str) (as:Es) (L:Nat) (fv:List (Nat×Str))
 | tx (k:Tx) (as:Es)
 | dlit (kvs:List (Str×D))
inductive Es where
 | nil
 | cons (a:E) (as:Es)
end
set_option genInjectivity false in
inductive S where
 | nil
 | seq (a b:S)
 | set (i:Nat) (e:E)
 | unp (xs:List (Nat×Str)) (e:E)
 | aug (i:Nat) (o:Bin) (e:E)
 | put (i:Nat) (k e:E)
 | setf (o:E) (f:Str) (e:E)
 | augf (o:E) (f:Str) (op:Bin) (e:E)
 | ex (e:E)
 | ret (e:E)
 | ife (c:E) (a b:S)
 | whl (c:E) (b:S)
 | for (tg:List (Nat×Str)) (sr:Sr) (sa:Es) (b:S)
 | brk | cnt
 | bad
 | rai (c:Str) (e:E)
set_option genInjectivity false in
structure Fn where
 ps:List Str
 ns:List Str
 body:S
noncomputable def bnd {α β:Type} (x:Option (α×HH)) (k:α->HH->Option β):Option β :=
 match x with | some (a,h)=>k a h | none=>none
@[simp] theorem dH (a:α) (h:HH) (k:α->HH->Option β):bnd (some (a,h)) k=k a h:=rfl
@[simp] theorem HX (k:α->HH->Option β):bnd none k=none:=rfl
@[simp] noncomputable def lim:Nat:=100000
mutual
@[simp] noncomputable def eqv:D->D->Bool
 | .non,.non=>true
 | .bl a,.bl b=>a==b
 | .bl a,.int j=>(if a then (1:Int) else 0)==j
 | .int i,.bl b=>i==(if b then (1:Int) else 0)
 | .int i,.int j=>i==j
 | .str x,.str y=>x==y
 | .tup xs,.tup ys=>m7 xs ys
 | .lst xs,.lst ys=>m7 xs ys
 | _,_=>false
@[simp] noncomputable def m7:List D->List D->Bool
 | [],[]=>true
 | x :: xs,y :: ys=>eqv x y&&m7 xs ys
 | _,_=>false
end
noncomputable def qo:Cl->Option (List D)
 | .l xs=>some xs
 | .o _ _=>none
 | .d _=>none
 | .z=>none
noncomputable def qp:Cl->Option (Str×List (Str×W))
 | .l _=>none
 | .o c fs=>some (c,fs)
 | .d _=>none
 | .z=>none
noncomputable def xF:Cl->Option (List (Ky×D))
 | .l _=>none
 | .o _ _=>none
 | .d kvs=>some kvs
 | .z=>none
@[simp] theorem Lv (kvs:List (Ky×D)):qo (.d kvs)=none:=rfl
@[simp] theorem Lx (kvs:List (Ky×D)):qp (.d kvs)=none:=rfl
@[simp] theorem Ly (kvs:List (Ky×D)):xF (.d kvs)=some kvs:=rfl
@[simp] theorem Lz:qo .z=none:=rfl
@[simp] theorem LC:qp .z=none:=rfl
@[simp] theorem LD:xF .z=none:=rfl
@[simp] theorem LG (xs:List D):xF (.l xs)=none:=rfl
@[simp] theorem LH (c:Str) (fs:List (Str×W)):xF (.o c fs)=none:=rfl
@[simp] theorem LJ (xs:List D):qo (.l xs)=some xs:=rfl
@[simp] theorem LK (c:Str) (fs:List (Str×W)):qo (.o c fs)=none:=rfl
@[simp] theorem LM (xs:List D):qp (.l xs)=none:=rfl
@[simp] theorem LP (c:Str) (fs:List (Str×W)):qp (.o c fs)=some (c,fs):=rfl
noncomputable def lat (h:HH) (n:Nat):Option (List D):=(h[n]?).bind qo
noncomputable def oat (h:HH) (n:Nat):Option (Str×List (Str×W)):=(h[n]?).bind qp
noncomputable def dat (h:HH) (n:Nat):Option (List (Ky×D)):=(h[n]?).bind xF
noncomputable def m8:D->Option Ky
 | .non=>none
 | .bl _=>none
 | .int i=>some (.inl i)
 | .str x=>some (.inr x)
 | .tup _=>none
 | .lst _=>none
@[simp] theorem HY (i:Int):m8 (.int i)=some (.inl i):=rfl
@[simp] theorem HZ (x:Str):m8 (.str x)=some (.inr x):=rfl
noncomputable def xG:Ky->D
 | .inl i=>.int i
 | .inr x=>.str x
@[simp] theorem LQ (i:Int):xG (.inl i)=.int i:=rfl
@[simp] theorem LR (x:Str):xG (.inr x)=.str x:=rfl
noncomputable def fq (kvs:List (Ky×D)) (k:Ky):Option D:=(kvs.find? fun kv=>decide (kv.1=k)).map (·.2)
noncomputable def jS (kvs:List (Ky×D)) (k:Ky) (v:D):List (Ky×D) :=
 if (kvs.any fun kv=>decide (kv.1=k))=true then kvs.map (fun kv=>if kv.1=k then (kv.1,v) else kv) else kvs++[(k,v)]
noncomputable def rd (w:W) (h:HH):Option D:=match w with
 | .p d=>some d
 | .r n=>(lat h n).map D.lst
 | .k _=>none
 | .o _=>none
 | .c _ _=>none
 | .x _=>none
@[simp] theorem Np (d:D) (h:HH):rd (.p d) h=some d:=rfl
noncomputable def big (i:Int):Bool:=decide (i.natAbs < 2 ^ 64)
noncomputable def rep (k:Nat) (xs:List D):List D:=(NX k xs).flatten
noncomputable def fJ:Bin->D->D->Option D
 | .add,.int i,.int j=>some (.int (i+j))
 | .add,.str x,.str y=>if x.length+y.length<=lim then some (.str (x++y)) else none
 | .add,.tup xs,.tup ys=>if xs.length+ys.length<=lim then some (.tup (xs++ys)) else none
 | .add,.lst xs,.lst ys=>if xs.length+ys.length<=lim then some (.lst (xs++ys)) else none
 | .sub,.int i,.int j=>some (.int (i - j))
 | .mul,.int i,.int j=>if big i||big j then some (.int (i*j)) else none
 | .mul,.tup xs,.int k=>if 2<=k&&k<=1000&&!xs.isEmpty&&xs.length*k.toNat<=lim then some (.tup (rep k.toNat xs)) else none
 | .mul,.lst xs,.int k=>if -1000<=k&&k<=1000&&xs.length*k.toNat<=lim then some (.lst (rep k.toNat xs)) else none
 | .mod,.int i,.int j=>if 0 < j then some (.int (i % j)) else none
 | .fdiv,.int i,.int j=>if 0 < j&&j < 1073741824 then some (.int (i / j)) else none
 | .pow,.int i,.int j=>if 0<=j&&j<=100&&big i then some (.int (i ^ j.toNat)) else none
 | _,_,_=>none
noncomputable def lU:Bin->D->D->Option D
 | .add,.int i,.int j=>some (.int (i+j))
 | .sub,.int i,.int j=>some (.int (i - j))
 | .mul,.int i,.int j=>if big i||big j then some (.int (i*j)) else none
 | _,_,_=>none
@[simp] theorem Ia (i j:Int):lU .add (.int i) (.int j)=some (.int (i+j)):=rfl
@[simp] theorem Ib (i j:Int):lU .sub (.int i) (.int j)=some (.int (i - j)):=rfl
@[simp] theorem qt (i j:Int):lU .mul (.int i) (.int j)=if big i||big j then some (.int (i*j)) else none:=rfl
@[simp] noncomputable def place (n:Nat) (i:Int):Option Nat :=
 if 0<=i then (if i < n then some i.toNat else none) else if -(n:Int)<=i then some (i+n).toNat else none
@[simp] noncomputable def atP {α:Type} (xs:List α) (i:Int):Option α:=(place xs.length i).bind fun j=>xs[j]?
@[simp] noncomputable def ef (k:Str):List (Str×D)->Option D
 | []=>none
 | (x,d) :: r=>if k=x then some d else ef k r
noncomputable def fU:D->D->Option D
 | .tup xs,.int i=>atP xs i
 | .lst xs,.int i=>atP xs i
 | .str x,.int i=>if x.length<=lim then (atP x.cps.toList i).map fun c=>.str ⟨#[c]⟩ else none
 | _,_=>none
@[simp] noncomputable def clip (n d:Nat):Option Int->Nat
 | none=>d
 | some v=>if v < 0 then (v+(n:Int)).toNat else if v<=(n:Int) then v.toNat else n
@[simp] noncomputable def cut (xs:List D) (lo hi:Option Int):List D:=(xs.drop (clip xs.length 0 lo)).take (clip xs.length xs.length hi - clip xs.length 0 lo)
@[simp] noncomputable def oF:List D->Option (Option Int)
 | []=>some none
 | [.int i]=>some (some i)
 | _=>none
noncomputable def ng (x:D) (lo hi:Option Int):Option D:=match x with
 | .tup xs=>some (.tup (cut xs lo hi))
 | .lst xs=>some (.lst (cut xs lo hi))
 | _=>none
noncomputable def dok:Nat->D->Bool
 | _,.non=>true
 | _,.bl _=>true
 | _,.int _=>true
 | _,.str _=>true
 | 0,.tup _=>false
 | 0,.lst _=>false
 | n+1,.tup xs=>xs.all (dok n)
 | n+1,.lst xs=>xs.all (dok n)
@[simp] theorem JV (n:Nat):dok n .non=true:=by cases n<;>rfl
@[simp] theorem LS (n:Nat) (b:Bool):dok n (.bl b)=true:=by cases n<;>rfl
@[simp] theorem JW (n:Nat) (i:Int):dok n (.int i)=true:=by cases n<;>rfl
@[simp] theorem JX (n:Nat) (x:Str):dok n (.str x)=true:=by cases n<;>rfl
@[simp] theorem A0 (n:Nat) (xs:List D):dok (n+1) (.tup xs)=xs.all (dok n):=rfl
@[simp] theorem A6 (n:Nat) (xs:List D):dok (n+1) (.lst xs)=xs.all (dok n):=rfl
noncomputable def d8 (x y:D):Bool:=dok 100 x||dok 100 y
@[simp] theorem Ic (x:D) (y:Str):d8 x (.str y)=true:=by simp[d8]
@[simp] theorem lV (x:D) (y:Int):d8 x (.int y)=true:=by simp[d8]
@[simp] theorem vC (x:D) (y:Str):d8 (.str y) x=true:=by simp[d8]
@[simp] theorem GN (x:D) (y:Int):d8 (.int y) x=true:=by simp[d8]
@[simp] theorem vD (x:D):d8 x (.tup [])=true:=by simp[d8,dok]
@[simp] theorem vE (x:D):d8 x (.lst [])=true:=by simp[d8,dok]
@[simp] theorem oG (x:D) (b:Bool):d8 x (.bl b)=true:=by simp[d8]
theorem xH (h:dok 100 y=true):d8 x y=true:=by simp[d8,h]
noncomputable def iU:D->Bool
 | .non=>true
 | .bl _=>false
 | .int _=>false
 | .str _=>false
 | .tup _=>false
 | .lst _=>false
@[simp] theorem GO:iU .non=true:=rfl
@[simp] theorem Ie (z:Bool):iU (.bl z)=false:=rfl
@[simp] theorem GP (z:Int):iU (.int z)=false:=rfl
@[simp] theorem GQ (z:Str):iU (.str z)=false:=rfl
@[simp] theorem GR (z:List D):iU (.tup z)=false:=rfl
@[simp] theorem GS (z:List D):iU (.lst z)=false:=rfl
noncomputable def oH (b:Bool):D->Bool
 | .non=>false
 | .bl c=>c==b
 | .int _=>false
 | .str _=>false
 | .tup _=>false
 | .lst _=>false
@[simp] theorem Ig (b:Bool):oH b .non=false:=rfl
@[simp] theorem JY (b z:Bool):oH b (.bl z)=(z==b):=rfl
@[simp] theorem Ih (b:Bool) (z:Int):oH b (.int z)=false:=rfl
@[simp] theorem Ii (b:Bool) (z:Str):oH b (.str z)=false:=rfl
@[simp] theorem Ij (b:Bool) (z:List D):oH b (.tup z)=false:=rfl
@[simp] theorem Ik (b:Bool) (z:List D):oH b (.lst z)=false:=rfl
noncomputable def eZ:Cm->D->D->Option Bool
 | .eq,x,y=>if d8 x y then some (eqv x y) else none
 | .ne,x,y=>if d8 x y then some (!eqv x y) else none
 | .lt,.int i,.int j=>some (decide (i < j))
 | .le,.int i,.int j=>some (decide (i<=j))
 | .gt,.int i,.int j=>some (decide (j < i))
 | .ge,.int i,.int j=>some (decide (j<=i))
 | .isN,x,.non=>some (iU x)
 | .notN,x,.non=>some (!iU x)
 | .notN,x,.bl b=>some (!oH b x)
 | .mem,x,.tup ys=>if ys.all fun y=>d8 y x then some (ys.any fun y=>eqv y x) else none
 | .mem,x,.lst ys=>if ys.all fun y=>d8 y x then some (ys.any fun y=>eqv y x) else none
 | .nmem,x,.tup ys=>if ys.all fun y=>d8 y x then some (!ys.any fun y=>eqv y x) else none
 | .nmem,x,.lst ys=>if ys.all fun y=>d8 y x then some (!ys.any fun y=>eqv y x) else none
 | _,_,_=>none
@[simp] noncomputable def intsOf:List D->Option (List Int)
 | []=>some []
 | .int i :: r=>(intsOf r).map (i :: ·)
 | _=>none
@[simp] noncomputable def allB:List D->Option Bool
 | []=>some true
 | .bl b :: r=>if b then allB r else some false
 | _=>none
@[simp] noncomputable def anyB:List D->Option Bool
 | []=>some false
 | .bl b :: r=>if b then some true else anyB r
 | _=>none
noncomputable def isI:D->Bool
 | .non=>false
 | .bl _=>true
 | .int _=>true
 | .str _=>false
 | .tup _=>false
 | .lst _=>false
@[simp] theorem JZ:isI .non=false:=rfl
@[simp] theorem LU (z:Bool):isI (.bl z)=true:=rfl
@[simp] theorem J0 (z:Int):isI (.int z)=true:=rfl
@[simp] theorem J3 (z:Str):isI (.str z)=false:=rfl
@[simp] theorem J4 (z:List D):isI (.tup z)=false:=rfl
@[simp] theorem J5 (z:List D):isI (.lst z)=false:=rfl
noncomputable def isB:D->Bool
 | .non=>false
 | .bl _=>true
 | .int _=>false
 | .str _=>false
 | .tup _=>false
 | .lst _=>false
@[simp] theorem J6:isB .non=false:=rfl
@[simp] theorem LV (z:Bool):isB (.bl z)=true:=rfl
@[simp] theorem J7 (z:Int):isB (.int z)=false:=rfl
@[simp] theorem J8 (z:Str):isB (.str z)=false:=rfl
@[simp] theorem J9 (z:List D):isB (.tup z)=false:=rfl
@[simp] theorem Ka (z:List D):isB (.lst z)=false:=rfl
noncomputable def isS:D->Bool
 | .non=>false
 | .bl _=>false
 | .int _=>false
 | .str _=>true
 | .tup _=>false
 | .lst _=>false
@[simp] theorem Kc:isS .non=false:=rfl
@[simp] theorem LW (z:Bool):isS (.bl z)=false:=rfl
@[simp] theorem Ke (z:Int):isS (.int z)=false:=rfl
@[simp] theorem Kf (z:Str):isS (.str z)=true:=rfl
@[simp] theorem Kg (z:List D):isS (.tup z)=false:=rfl
@[simp] theorem Kl (z:List D):isS (.lst z)=false:=rfl
noncomputable def isT:D->Bool
 | .non=>false
 | .bl _=>false
 | .int _=>false
 | .str _=>false
 | .tup _=>true
 | .lst _=>false
@[simp] theorem Km:isT .non=false:=rfl
@[simp] theorem LY (z:Bool):isT (.bl z)=false:=rfl
@[simp] theorem Kn (z:Int):isT (.int z)=false:=rfl
@[simp] theorem Ko (z:Str):isT (.str z)=false:=rfl
@[simp] theorem Kp (z:List D):isT (.tup z)=true:=rfl
@[simp] theorem Kq (z:List D):isT (.lst z)=false:=rfl
noncomputable def isL:D->Bool
 | .non=>false
 | .bl _=>false
 | .int _=>false
 | .str _=>false
 | .tup _=>false
 | .lst _=>true
@[simp] theorem Kr:isL .non=false:=rfl
@[simp] theorem LZ (z:Bool):isL (.bl z)=false:=rfl
@[simp] theorem Ks (z:Int):isL (.int z)=false:=rfl
@[simp] theorem Ku (z:Str):isL (.str z)=false:=rfl
@[simp] theorem Kv (z:List D):isL (.tup z)=false:=rfl
@[simp] theorem Kw (z:List D):isL (.lst z)=true:=rfl
noncomputable def sortI (ns:List Int):List Int:=ns.mergeSort fun a b=>decide (a<=b)
noncomputable def Il:List Int->Option Int
 | []=>none
 | n :: ns=>some (ns.foldl max n)
@[simp] noncomputable def gH:List D->List D->List D
 | x :: xs,y :: ys=>.tup [x,y] :: gH xs ys
 | _,_=>[]
noncomputable def ded (ns:List Int):List Int:=ns.foldl (fun σ v=>if σ.any (·==v) then σ else σ++[v]) []
noncomputable def Im (a b c:Int):Nat:=if a < b then ((b - a - 1) / c+1).toNat else 0
noncomputable def stepI (a c:Int) (n:Nat):List Int:=(OR n).map fun (k:Nat)=>a+(k:Int)*c
noncomputable def biD:Bi->List D->Option D
 | .len,[.tup xs]=>some (.int xs.length)
 | .len,[.lst xs]=>some (.int xs.length)
 | .len,[.str x]=>if x.length<=lim then some (.int x.length) else none
 | .abs,[.int i]=>some (.int (if i < 0 then -i else i))
 | .int,[.int i]=>some (.int i)
 | .int,[.bl b]=>some (.int (if b then 1 else 0))
 | .str,[.int i]=>if big i then some (.str (toString i)) else none
 | .tuple,[.lst xs]=>some (.tup xs)
 | .tuple,[.tup xs]=>some (.tup xs)
 | .list,[.lst xs]=>some (.lst xs)
 | .list,[.tup xs]=>some (.lst xs)
 | .all,[.lst xs]=>(allB xs).map .bl
 | .any,[.lst xs]=>(anyB xs).map .bl
 | .isInt,[x]=>some (.bl (isI x))
 | .isBool,[x]=>some (.bl (isB x))
 | .isStr,[x]=>some (.bl (isS x))
 | .isTuple,[x]=>some (.bl (isT x))
 | .isList,[x]=>some (.bl (isL x))
 | .min2,[.int i,.int j]=>some (.int (if j < i then j else i))
 | .max2,[.int i,.int j]=>some (.int (if j > i then j else i))
 | .sorted,[.lst xs]=>(intsOf xs).bind fun ns=>if ns.length < 64 then some (.lst ((sortI ns).map .int)) else none
 | .max1,[.lst xs]=>(intsOf xs).bind fun ns=>(Il ns).map .int
 | .sum,[.lst xs]=>(intsOf xs).map fun ns=>.int ns.sum
 | .nset,[.lst xs]=>(intsOf xs).bind fun ns=>if ns.length < 1000 then some (.int ((ded ns).length:Nat)) else none
 | .sset,[.lst xs]=>(intsOf xs).bind fun ns=>if ns.length < 64 then some (.lst ((sortI (ded ns)).map .int)) else none
 | .lzip,[.tup xs,.tup ys]=>if 0 < xs.length/\xs.length=ys.length then some (.lst (gH xs ys)) else none
 | .maxd,[.lst xs,.int d]=>(intsOf xs).map fun ns=>.int ((Il ns).getD d)
 | .lrng3,[.int a,.int b,.int c]=>if 0 < c&&c<=100000&&-100000<=a&&a<=100000&&-100000<=b&&b<=100000 then some (.lst ((stepI a c (Im a b c)).map .int)) else none
 | _,_=>none
@[simp] noncomputable def ku:Nat->List D->List D
 | _,[]=>[]
 | k,x :: r=>.tup [.int k,x] :: ku (k+1) r
noncomputable def oJ:D->Option (List D)
 | .tup xs=>some xs
 | .lst xs=>some xs
 | _=>none
noncomputable def upto (lo:Int) (n:Nat):List D:=(OR n).map fun (k:Nat)=>D.int (lo+(k:Int))
noncomputable def down (a:Int) (n:Nat):List D:=(OR n).map fun i=>.int (a - (i:Nat))
noncomputable def jT (x:Str):List D:=x.cps.toList.map fun c=>.str ⟨#[c]⟩
noncomputable def xJ:D->Option (List D)
 | .tup xs=>some xs
 | .lst xs=>some xs
 | .str x=>some (jT x)
 | _=>none
noncomputable def fP:Sr->List D->Option (List D)
 | .seq,[x]=>oJ x
 | .rng1,[.int n]=>if -100000<=n&&n<=100000 then some (upto 0 n.toNat) else none
 | .rng2,[.int a,.int b]=>if -100000<=a&&a<=100000&&-100000<=b&&b<=100000 then some (upto a (b - a).toNat) else none
 | .rev,[.lst xs]=>some xs.reverse
 | .enu,[.lst xs]=>some (ku 0 xs)
 | .zip2,[.lst xs,.lst ys]=>some (gH xs ys)
 | .itm,[.lst xs]=>some xs
 | .chs,[.str x]=>some (jT x)
 | .zipG,[x,y]=>(xJ x).bind fun xs=>(xJ y).map (gH xs)
 | .rng3,[.int a,.int b,.int c]=>if c=-1/\-100000<=a/\a<=100000/\-100000<=b/\b<=100000 then some (down a (a - b).toNat) else none
 | _,_=>none
@[simp] noncomputable def iV (x:D):List D->Nat->Option Nat
 | [],_=>none
 | y :: r,k=>if eqv y x then some k else iV x r (k+1)
@[simp] noncomputable def Io (c:Nat):List Nat->Nat->Option Nat
 | [],_=>none
 | y :: r,k=>if y=c then some k else Io c r (k+1)
@[simp] noncomputable def dD:List W->Option (List D)
 | []=>some []
 | .p d :: r=>(dD r).map (d :: ·)
 | .r _ :: _=>none
 | .k _ :: _=>none
 | .o _ :: _=>none
 | .c _ _ :: _=>none
 | .x _ :: _=>none
noncomputable def meD:Me->D->List D->Option D
 | .tindex,.tup xs,[x]=>if xs.all fun y=>d8 y x then (iV x xs 0).map fun (q:Nat)=>D.int (q:Int) else none
 | .sindex,.str x,[.str y]=>match O2 x y 0 x.length 1 with
  | i :: _=>some (.int (i:Int))
  | []=>none
 | .count,.lst xs,[x]=>if xs.all fun y=>d8 y x then some (.int ((xs.countP fun y=>eqv y x:Nat):Int)) else none
 | .lindex,.lst xs,[x]=>if xs.all fun y=>d8 y x then (iV x xs 0).map fun (q:Nat)=>D.int (q:Int) else none
 | _,_,_=>none
theorem Ew:meD .count (.lst xs) [x]=if xs.all fun y=>d8 y x then some (.int ((xs.countP fun y=>eqv y x:Nat):Int)) else none:=rfl
theorem Ex:meD .lindex (.lst xs) [x]=if xs.all fun y=>d8 y x then (iV x xs 0).map fun (q:Nat)=>D.int (q:Int) else none:=rfl
theorem Ey:meD .tindex (.tup xs) [x]=if xs.all fun y=>d8 y x then (iV x xs 0).map fun (q:Nat)=>D.int (q:Int) else none:=rfl
theorem Ez:meD .sindex (.str x) [.str y]=match O2 x y 0 x.length 1 with
 | i :: _=>some (.int (i:Int))
 | []=>none:=rfl
noncomputable def meW (m:Me) (o:W) (as:List W) (h:HH):Option (W×HH):=match m,o,as with
 | .append,.r n,[.p d]=>match lat h n with
  | some xs=>if xs.length < lim then some (.p .non,h.set n (.l (xs++[d]))) else none
  | none=>none
 | .pop,.r n,[]=>match lat h n with
  | some xs=>match xs.getLast? with
   | some d=>some (.p d,h.set n (.l xs.dropLast))
   | none=>none
  | none=>none
 | .extend,.r n,[w]=>match lat h n,(rd w h).bind oJ with
  | some xs,some ys=>if xs.length+ys.length<=lim then some (.p .non,h.set n (.l (xs++ys))) else none
  | _,_=>none
 | .dget,.k (.t kvs),[.p (.str x)]=>some (.p ((ef x kvs).getD .non),h)
 | .dget,.k (.t _),[.p .non]=>some (.p .non,h)
 | .dget,.k (.t kvs),[.p (.str x),.p d]=>some (.p ((ef x kvs).getD d),h)
 | m,.p d,as=>match dD as with
  | some ds=>(meD m d ds).map fun x=>(.p x,h)
  | none=>none
 | _,_,_=>none
section
variable (n:Nat) (d:D) (h:HH) (kvs:List (Str×D)) (x:Str) (as:List W)
@[simp] theorem rS:meW .append (.r n) [.p d] h=match lat h n with
 | some xs=>if xs.length < lim then some (.p .non,h.set n (.l (xs++[d]))) else none
 | none=>none:=rfl
@[simp] theorem A7:meW .pop (.r n) [] h=match lat h n with
 | some xs=>match xs.getLast? with
  | some d=>some (.p d,h.set n (.l xs.dropLast))
  | none=>none
 | none=>none:=rfl
@[simp] theorem rT (w:W):meW .extend (.r n) [w] h=match lat h n,(rd w h).bind oJ with
 | some xs,some ys=>if xs.length+ys.length<=lim then some (.p .non,h.set n (.l (xs++ys))) else none
 | _,_=>none:=rfl
@[simp] theorem Ip:meW .dget (.k (.t kvs)) [.p (.str x)] h=some (.p ((ef x kvs).getD .non),h):=rfl
@[simp] theorem EA:meW .dget (.k (.t kvs)) [.p .non] h=some (.p .non,h):=rfl
@[simp] theorem GT:meW .dget (.k (.t kvs)) [.p (.str x),.p d] h=some (.p ((ef x kvs).getD d),h):=rfl
@[simp] theorem lW:meW .tindex (.p d) as h=match dD as with
 | some ds=>(meD .tindex d ds).map fun x=>(.p x,h)
 | none=>none:=rfl
@[simp] theorem vF:meW .count (.p d) as h=match dD as with
 | some ds=>(meD .count d ds).map fun x=>(.p x,h)
 | none=>none:=rfl
@[simp] theorem rV:meW .lindex (.p d) as h=match dD as with
 | some ds=>(meD .lindex d ds).map fun x=>(.p x,h)
 | none=>none:=rfl
@[simp] theorem lX:meW .sindex (.p d) as h=match dD as with
 | some ds=>(meD .sindex d ds).map fun x=>(.p x,h)
 | none=>none:=rfl
end
noncomputable def new (mu:Bool) (xs:List D) (h:HH):W×HH:=if mu then (.r h.length,h++[.l xs]) else (.p (.lst xs),h)
@[simp] theorem M7 (xs:List D) (h:HH):new false xs h=(.p (.lst xs),h):=rfl
@[simp] theorem M8 (xs:List D) (h:HH):new true xs h=(.r h.length,h++[.l xs]):=rfl
@[simp] noncomputable def rds (ws:List W) (h:HH):Option (List D):=match ws with
 | []=>some []
 | w :: r=>(rd w h).bind fun d=>(rds r h).map (d :: ·)
noncomputable def unpack (n:Nat):D->Option (List D)
 | .tup xs=>if xs.length=n then some xs else none
 | .lst xs=>if xs.length=n then some xs else none
 | _=>none
noncomputable def target (n:Nat) (d:D):Option (List D):=if n=1 then some [d] else unpack n d
section
variable (i j k a b:Int) (c:Bool) (x y:Str) (xs ys:List D) (kvs:List (Str×D)) (d e:D) (lo hi:Option Int)
@[simp] theorem qu:fJ .add (.int i) (.int j)=some (.int (i+j)):=rfl
@[simp] theorem lY:fJ .add (.str x) (.str y)=if x.length+y.length<=lim then some (.str (x++y)) else none:=rfl
@[simp] theorem dz:fJ .add (.tup xs) (.tup ys)=if xs.length+ys.length<=lim then some (.tup (xs++ys)) else none:=rfl
@[simp] theorem fK:fJ .add (.lst xs) (.lst ys)=if xs.length+ys.length<=lim then some (.lst (xs++ys)) else none:=rfl
@[simp] theorem lZ:fJ .sub (.int i) (.int j)=some (.int (i - j)):=rfl
@[simp] theorem qv:fJ .mul (.int i) (.int j)=if big i||big j then some (.int (i*j)) else none:=rfl
@[simp] theorem fL:fJ .mul (.tup xs) (.int k)=if 2<=k&&k<=1000&&!xs.isEmpty&&xs.length*k.toNat<=lim then some (.tup (rep k.toNat xs)) else none:=rfl
@[simp] theorem mh:fJ .mul (.lst xs) (.int k)=if -1000<=k&&k<=1000&&xs.length*k.toNat<=lim then some (.lst (rep k.toNat xs)) else none:=rfl
@[simp] theorem iW:fJ .mod (.int i) (.int j)=if 0 < j then some (.int (i % j)) else none:=rfl
@[simp] theorem kB:fJ .fdiv (.int i) (.int j)=if 0 < j&&j < 1073741824 then some (.int (i / j)) else none:=rfl
@[simp] theorem gI:fJ .pow (.int i) (.int j)=if 0<=j&&j<=100&&big i then some (.int (i ^ j.toNat)) else none:=rfl
@[simp] theorem dI:fU (.tup xs) (.int i)=atP xs i:=rfl
@[simp] theorem fy:fU (.lst xs) (.int i)=atP xs i:=rfl
@[simp] theorem iX:fU (.str x) (.int i)=if x.length<=lim then (atP x.cps.toList i).map fun c=>.str ⟨#[c]⟩ else none:=rfl
@[simp] theorem fD:ng (.tup xs) lo hi=some (.tup (cut xs lo hi)):=rfl
@[simp] theorem L0:ng (.lst xs) lo hi=some (.lst (cut xs lo hi)):=rfl
@[simp] theorem fX:eZ .eq d e=if d8 d e then some (eqv d e) else none:=rfl
@[simp] theorem eS:eZ .ne d e=if d8 d e then some (!eqv d e) else none:=rfl
@[simp] theorem lu:eZ .lt (.int i) (.int j)=some (decide (i < j)):=rfl
@[simp] theorem ly:eZ .le (.int i) (.int j)=some (decide (i<=j)):=rfl
@[simp] theorem lA:eZ .gt (.int i) (.int j)=some (decide (j < i)):=rfl
@[simp] theorem lB:eZ .ge (.int i) (.int j)=some (decide (j<=i)):=rfl
@[simp] theorem jU:eZ .isN d .non=some (iU d):=rfl
@[simp] theorem jh:eZ .notN d .non=some (!iU d):=rfl
@[simp] theorem vG {b:Bool}:eZ .notN d (.bl b)=some (!oH b d):=rfl
@[simp] theorem cV:eZ .mem d (.tup ys)=if ys.all fun y=>d8 y d then some (ys.any fun y=>eqv y d) else none:=rfl
@[simp] theorem iw:eZ .mem d (.lst ys)=if ys.all fun y=>d8 y d then some (ys.any fun y=>eqv y d) else none:=rfl
@[simp] theorem dM:eZ .nmem d (.tup ys)=if ys.all fun y=>d8 y d then some (!ys.any fun y=>eqv y d) else none:=rfl
@[simp] theorem gr:eZ .nmem d (.lst ys)=if ys.all fun y=>d8 y d then some (!ys.any fun y=>eqv y d) else none:=rfl
@[simp] theorem dj:biD .len [.tup xs]=some (.int xs.length):=rfl
@[simp] theorem GU:biD .len [.lst xs]=some (.int xs.length):=rfl
@[simp] theorem gf:biD .len [.str x]=if x.length<=lim then some (.int x.length) else none:=rfl
@[simp] theorem Kx:biD .abs [.int i]=some (.int (if i < 0 then -i else i)):=rfl
@[simp] theorem Kz:biD .int [.int i]=some (.int i):=rfl
@[simp] theorem GV:biD .int [.bl c]=some (.int (if c then 1 else 0)):=rfl
@[simp] theorem KG:biD .str [.int i]=if big i then some (.str (toString i)) else none:=rfl
@[simp] theorem Dm:biD .tuple [.lst xs]=some (.tup xs):=rfl
@[simp] theorem Dn:biD .tuple [.tup xs]=some (.tup xs):=rfl
@[simp] theorem EB:biD .list [.lst xs]=some (.lst xs):=rfl
@[simp] theorem EC:biD .list [.tup xs]=some (.lst xs):=rfl
@[simp] theorem KH:biD .all [.lst xs]=(allB xs).map .bl:=rfl
@[simp] theorem KI:biD .any [.lst xs]=(anyB xs).map .bl:=rfl
@[simp] theorem GW:biD .isInt [d]=some (.bl (isI d)):=rfl
@[simp] theorem EF:biD .isBool [d]=some (.bl (isB d)):=rfl
@[simp] theorem GX:biD .isStr [d]=some (.bl (isS d)):=rfl
@[simp] theorem Do:biD .isTuple [d]=some (.bl (isT d)):=rfl
@[simp] theorem EG:biD .isList [d]=some (.bl (isL d)):=rfl
@[simp] theorem KJ:biD .min2 [.int i,.int j]=some (.int (if j < i then j else i)):=rfl
@[simp] theorem KM:biD .max2 [.int i,.int j]=some (.int (if j > i then j else i)):=rfl
@[simp] theorem L1:oJ (.tup xs)=some xs:=rfl
@[simp] theorem L3:oJ (.lst xs)=some xs:=rfl
@[simp] theorem xK:fP .seq [d]=oJ d:=rfl
@[simp] theorem gJ:fP .rng1 [.int a]=if -100000<=a&&a<=100000 then some (upto 0 a.toNat) else none:=rfl
@[simp] theorem GY:fP .rng2 [.int a,.int b]=if -100000<=a&&a<=100000&&-100000<=b&&b<=100000 then some (upto a (b - a).toNat) else none:=rfl
theorem vH {c:Int}:fP .rng3 [.int a,.int b,.int c]=if c=-1/\-100000<=a/\a<=100000/\-100000<=b/\b<=100000 then some (down a (a - b).toNat) else none:=rfl
@[simp] theorem Iq:fP .rev [.lst xs]=some xs.reverse:=rfl
@[simp] theorem Ir {x:Str}:fP .chs [.str x]=some (jT x):=rfl
@[simp] theorem ji {x y:D}:fP .zipG [x,y]=(xJ x).bind fun xs=>(xJ y).map (gH xs):=rfl
@[simp] theorem Iu:fP .itm [.lst xs]=some xs:=rfl
@[simp] theorem Iv:fP .enu [.lst xs]=some (ku 0 xs):=rfl
@[simp] theorem Iw:fP .zip2 [.lst xs,.lst ys]=some (gH xs ys):=rfl
@[simp] theorem EI:meD .tindex (.tup xs) [d]=if xs.all fun y=>d8 y d then (iV d xs 0).map fun (q:Nat)=>D.int (q:Int) else none:=rfl
@[simp] theorem qw (n:Nat):unpack n (.lst xs)=if xs.length=n then some xs else none:=rfl
@[simp] theorem qx (n:Nat):unpack n (.tup xs)=if xs.length=n then some xs else none:=rfl
end
@[simp] theorem qy (d:D):target 1 d=some [d]:=rfl
@[simp] theorem Iz (d:D):target 2 d=unpack 2 d:=rfl
noncomputable def tO (o:Option D) (out:List D) (h:HH):Option (List D×HH):=some (match o with | some x=>x :: out | none=>out,h)
noncomputable def qz (r:HH->Option (List D×HH)) (o:Option D) (h:HH):Option (List D×HH):=bnd (r h) (tO o)
@[simp] theorem IA (o:Option D) (out:List D) (h:HH):tO o out h=some (match o with | some x=>x :: out | none=>out,h):=rfl
@[simp] theorem jj (r:HH->Option (List D×HH)) (o:Option D) (h:HH):qz r o h=bnd (r h) (tO o):=rfl
noncomputable def dm (f:List D->HH->Option (Option D×HH)) (n:Nat):List D->HH->Option (List D×HH)
 | [],h=>some ([],h)
 | d :: r,h=>match target n d with
  | some ds=>bnd (f ds h) (qz (dm f n r))
  | none=>none
noncomputable def gD (d:D):Option W:=some (.p d)
noncomputable abbrev EH:=HH->Option (W×HH)
noncomputable abbrev OpW:=W->W->HH->Option (W×HH)
@[simp] noncomputable def k2 (eb:EH) (op:OpW) (x:W) (h:HH):Option (W×HH):=bnd (eb h) (op x)
@[simp] noncomputable def nh (o:Bin) (x y:W) (h:HH):Option (W×HH):=match rd x h,rd y h with
 | some d,some e=>(fJ o d e).map fun z=>(.p z,h)
 | _,_=>none
noncomputable def inT (o:Cm) (x:W) (kvs:List (Str×D)):Option Bool:=match o,x with
 | .mem,.p (.str s)=>some (ef s kvs).isSome
 | .mem,.p .non=>some false
 | .nmem,.p (.str s)=>some (!(ef s kvs).isSome)
 | _,_=>none
noncomputable def inL (o:Cm) (x:W) (kvs:List (Ky×D)):Option Bool:=match o,x with
 | .mem,.p d=>(m8 d).map fun k=>(fq kvs k).isSome
 | _,_=>none
noncomputable def inK (o:Cm) (x:W) (q:Kd):Option Bool:=match q with
 | .t kvs=>inT o x kvs
 | .l kvs=>inL o x kvs
noncomputable def memC:Cm->Bool
 | .mem=>true
 | .nmem=>true
 | _=>false
theorem mj {o:Cm}{x:W}{q:Kd}{b:Bool} (h:memC o=false):¬ inK o x q=some b:=by
 intro e
 cases o<;>first | exact Lu h | exact iT e | (cases q<;>first | exact iT e | (cases x<;>exact iT e))
@[simp] noncomputable def jC (o:Cm) (x y:W) (h:HH):Option (W×HH):=match y with
 | .k kvs=>(inK o x kvs).map fun z=>(.p (.bl z),h)
 | y=>match rd x h,rd y h with
  | some d,some e=>(eZ o d e).map fun z=>(.p (.bl z),h)
  | _,_=>none
noncomputable def atT (kvs:List (Str×D)) (y:W):Option D:=match y with
 | .p (.str s)=>ef s kvs
 | _=>none
noncomputable def atL (kvs:List (Ky×D)) (y:W):Option D:=match y with
 | .p d=>(m8 d).bind (fq kvs)
 | _=>none
noncomputable def atK (q:Kd) (y:W):Option D:=match q with
 | .t kvs=>atT kvs y
 | .l kvs=>atL kvs y
@[simp] theorem M9 (kvs:List (Str×D)) (x:Str):atK (.t kvs) (.p (.str x))=ef x kvs:=rfl
@[simp] theorem Na (kvs:List (Ky×D)) (i:Int):atK (.l kvs) (.p (.int i))=fq kvs (.inl i):=rfl
@[simp] theorem Nb (kvs:List (Str×D)) (x:Str):inK .mem (.p (.str x)) (.t kvs)=some (ef x kvs).isSome:=rfl
@[simp] theorem Nc (kvs:List (Str×D)) (x:Str):inK .nmem (.p (.str x)) (.t kvs)=some (!(ef x kvs).isSome):=rfl
@[simp] theorem Nd (kvs:List (Str×D)):inK .mem (.p .non) (.t kvs)=some false:=rfl
@[simp] theorem Nf (kvs:List (Ky×D)) (i:Int):inK .mem (.p (.int i)) (.l kvs)=some (fq kvs (.inl i)).isSome:=rfl
@[simp] noncomputable def A8 (x y:W) (h:HH):Option (W×HH):=match x with
 | .k kvs=>(atK kvs y).map fun z=>(.p z,h)
 | x=>match rd x h,rd y h with
  | some d,some e=>(fU d e).map fun z=>(.p z,h)
  | _,_=>none
@[simp] noncomputable def A9 (x:W) (h:HH):Option (W×HH):=match x with | .p (.int i)=>some (.p (.int (-i)),h) | _=>none
@[simp] noncomputable def Ba (x:W) (h:HH):Option (W×HH):=match x with | .p (.bl b)=>some (.p (.bl (!b)),h) | _=>none
@[simp] noncomputable def Bb (eb:EH) (x:W) (h:HH):Option (W×HH):=match x with | .p (.bl c)=>if c then eb h else some (.p (.bl false),h) | _=>none
@[simp] noncomputable def kOr (eb:EH) (x:W) (h:HH):Option (W×HH):=match x with | .p (.bl c)=>if c then some (.p (.bl true),h) else eb h | _=>none
@[simp] noncomputable def Bc (ea eb:EH) (x:W) (h:HH):Option (W×HH):=match x with | .p (.bl c)=>if c then ea h else eb h | _=>none
@[simp] noncomputable def IB (o':Cm) (e:D) (z:W) (h:HH):Option (W×HH):=match rd z h with
 | some f=>(eZ o' e f).map fun r=>(.p (.bl r),h)
 | none=>none
@[simp] noncomputable def oCh (o o':Cm) (ec:EH) (x y:W) (h:HH):Option (W×HH):=match rd x h,y with
 | some d,.p e=>match eZ o d e with
  | some true=>bnd (ec h) (IB o' e)
  | some false=>some (.p (.bl false),h)
  | none=>none
 | _,_=>none
@[simp] noncomputable def EJ (ws:List W) (h:HH):Option (W×HH):=match dD ws with | some ds=>if ds.length<=lim then some (.p (.tup ds),h) else none | none=>none
@[simp] noncomputable def EK (mu:Bool) (ws:List W) (h:HH):Option (W×HH):=match dD ws with | some ds=>if ds.length<=lim then some (new mu ds h) else none | none=>none
@[simp] noncomputable def IC (x:W) (l u:List W) (h:HH):Option (W×HH):=match rd x h,(dD l).bind oF,(dD u).bind oF with
 | some d,some l',some u'=>(ng d l' u').map fun z=>(.p z,h)
 | _,_,_=>none
@[simp] noncomputable def ID (eu:HH->Option (List W×HH)) (x:W) (l:List W) (h:HH):Option (W×HH):=bnd (eu h) (IC x l)
@[simp] noncomputable def IE (el eu:HH->Option (List W×HH)) (x:W) (h:HH):Option (W×HH):=bnd (el h) (ID eu x)
@[simp] noncomputable def EL (x:W) (h:HH):Option (W×HH):=match x with
 | .p (.tup xs)=>some (.p (.tup xs.reverse),h)
 | _=>none
noncomputable def xM (k:Int) (xs:List D):List D:=(T3 (On none none (some k) xs.length).1 (On none none (some k) xs.length).2.1 (On none none (some k) xs.length).2.2).filterMap fun i=>xs[i]?
@[simp] noncomputable def EM (mu:Bool) (k:Int) (x:W) (h:HH):Option (W×HH):=match rd x h with
 | some (.lst xs)=>some (new mu (xM k xs) h)
 | _=>none
@[simp] noncomputable def kBi (b:Bi) (mu:Bool) (ws:List W) (h:HH):Option (W×HH):=match rds ws h with
 | some ds=>match biD b ds with
  | some d=>if mu then (match d with | .lst xs=>some (new true xs h) | _=>none) else some (.p d,h)
  | none=>none
 | none=>none
noncomputable def ni (x:W) (h:HH):Bool:=match x with
 | .r n=>(lat h n).isSome
 | .k (.l _)=>false
 | _=>true
@[simp] theorem L4 (n:Nat) (h:HH):ni (.r n) h=(lat h n).isSome:=rfl
@[simp] theorem L5 (d:D) (h:HH):ni (.p d) h=true:=rfl
@[simp] theorem L6 (d:List (Str×D)) (h:HH):ni (.k (.t d)) h=true:=rfl
@[simp] noncomputable def kMe (m:Me) (ea:HH->Option (List W×HH)) (x:W) (h:HH):Option (W×HH):=if ni x h then bnd (ea h) (meW m x) else none
@[simp] noncomputable def kLs (mu:Bool) (sr:Sr) (ws:List W) (h:HH):Option (W×HH):=match (rds ws h).bind (fP sr) with
 | some ds=>if ds.length<=lim then some (new mu ds h) else none
 | none=>none
@[simp] noncomputable def kC (w:W) (h:HH):Option (Option D×HH):=match w with | .p d=>some (some d,h) | _=>none
noncomputable def nP (ee:EH) (cs:List W) (h:HH):Option (Option D×HH):=match cs with
 | []=>bnd (ee h) kC
 | [.p (.bl true)]=>bnd (ee h) kC
 | [.p (.bl false)]=>some (none,h)
 | _=>none
@[simp] theorem KN (ee:EH) (h:HH):nP ee [] h=bnd (ee h) kC:=rfl
@[simp] theorem KO (ee:EH) (h:HH):nP ee [.p (.bl true)] h=bnd (ee h) kC:=rfl
@[simp] theorem KP (ee:EH) (h:HH):nP ee [.p (.bl false)] h=some (none,h):=rfl
@[simp] noncomputable def dX (ec:Sl->HH->Option (List W×HH)) (ee:Sl->EH) (fs:Sl) (xs:List D) (h:HH):Option (Option D×HH) :=
 bnd (ec (xs.map gD++fs) h) (nP (ee (xs.map gD++fs)))
@[simp] noncomputable def gK (mu:Bool) (out:List D) (h:HH):Option (W×HH):=if out.length<=lim then some (new mu out h) else none
noncomputable def iP (f:Str):List (Str×W)->Option W
 | []=>none
 | (x,w) :: r=>if f=x then some w else iP f r
noncomputable def eY (f:Str) (w:W):List (Str×W)->List (Str×W)
 | []=>[(f,w)]
 | (x,u) :: r=>if f=x then (f,w) :: r else (x,u) :: eY f w r
@[simp] theorem IF (f:Str):iP f []=none:=rfl
@[simp] theorem nQ (f x:Str) (w:W) (r:List (Str×W)):iP f ((x,w) :: r)=if f=x then some w else iP f r:=rfl
@[simp] theorem IG (f:Str) (w:W):eY f w []=[(f,w)]:=rfl
@[simp] theorem vI (f x:Str) (w u:W) (r:List (Str×W)):eY f w ((x,u) :: r)=if f=x then (f,w) :: r else (x,u) :: eY f w r:=rfl
noncomputable def attrOk:W->Bool
 | .p _=>true
 | .r _=>true
 | .k _=>false
 | .o _=>true
 | .c _ _=>false
 | .x _=>false
@[simp] theorem IJ (d:D):attrOk (.p d)=true:=rfl
@[simp] theorem IK (n:Nat):attrOk (.r n)=true:=rfl
@[simp] theorem IM (n:Nat):attrOk (.o n)=true:=rfl
noncomputable def Be (f:Str) (x:W) (h:HH):Option (W×HH):=match x with
 | .o n=>match oat h n with
  | some (_,fs)=>(iP f fs).map fun w=>(w,h)
  | none=>none
 | _=>none
@[simp] theorem EO (f:Str) (n:Nat) (h:HH):Be f (.o n) h=match oat h n with
 | some (_,fs)=>(iP f fs).map fun w=>(w,h)
 | none=>none:=rfl
noncomputable def rW (F:FK->List W->HH->Option (W×HH)) (q:FK) (n:Nat) (ws:List W) (h:HH):Option (W×HH):=F q (.o n :: ws) h
@[simp] theorem GZ (F:FK->List W->HH->Option (W×HH)) (q:FK) (n:Nat) (ws:List W) (h:HH):rW F q n ws h=F q (.o n :: ws) h:=rfl
noncomputable def xN (F:FK->List W->HH->Option (W×HH)) (m:Str) (ea:HH->Option (List W×HH)) (x:W) (h:HH):Option (W×HH):=match x with
 | .o n=>match oat h n with
  | some (c,fs)=>if (iP m fs).isNone then bnd (ea h) (rW F (.m c m) n) else none
  | none=>none
 | _=>none
@[simp] theorem Bf (F:FK->List W->HH->Option (W×HH)) (m:Str) (ea:HH->Option (List W×HH)) (n:Nat) (h:HH):xN F m ea (.o n) h=match oat h n with
 | some (c,fs)=>if (iP m fs).isNone then bnd (ea h) (rW F (.m c m) n) else none
 | none=>none:=rfl
noncomputable def tP (n:Nat) (x:W) (h:HH):Option (W×HH):=match x with
 | .p .non=>some (.o n,h)
 | _=>none
@[simp] theorem KQ (n:Nat) (h:HH):tP n (.p .non) h=some (.o n,h):=rfl
noncomputable def Dp (F:FK->List W->HH->Option (W×HH)) (c:Str) (ws:List W) (h:HH):Option (W×HH):=bnd (F (.m c "__init__") (.o h.length :: ws) (h++[.o c []])) (tP h.length)
@[simp] theorem xO (F:FK->List W->HH->Option (W×HH)) (c:Str) (ws:List W) (h:HH):Dp F c ws h=bnd (F (.m c "__init__") (.o h.length :: ws) (h++[.o c []])) (tP h.length):=rfl
noncomputable def iQ:List W->Bool
 | []=>true
 | .p _ :: r=>iQ r
 | _=>false
open Classical in
noncomputable def chk (q:Nat) (ds:List D) (f:List D->HH->Option (Option D×HH)) (xs:List D) (h:HH):Option (Option D×HH):=match f xs h with
 | some (o,h')=>if lat h' q=some ds then some (o,h') else none
 | none=>none
noncomputable def rX (mu:Bool) (sr:Sr) (n:Nat) (f:List D->HH->Option (Option D×HH)) (ws:List W) (ds:List D) (h:HH):Option (W×HH):=match ws,sr with
 | [.r q],.seq=>bnd (dm (chk q ds f) n ds h) (gK mu)
 | _,_=>none
theorem xP (mu:Bool) (n:Nat) (f:List D->HH->Option (Option D×HH)) (q:Nat) (ds:List D) (h:HH):rX mu .seq n f [.r q] ds h=bnd (dm (chk q ds f) n ds h) (gK mu):=rfl
@[simp] noncomputable def nR (mu:Bool) (sr:Sr) (n:Nat) (fs:Option Sl) (ec:Sl->HH->Option (List W×HH)) (ee:Sl->EH) (ws:List W) (h:HH):Option (W×HH) :=
 match (rds ws h).bind (fP sr),fs with
 | some ds,some fs=>if iQ ws then bnd (dm (dX ec ee fs) n ds h) (gK mu) else rX mu sr n (dX ec ee fs) ws ds h
 | _,_=>none
@[simp] noncomputable def iy (w:W) (ws:List W) (h:HH):Option (List W×HH):=some (w :: ws,h)
@[simp] noncomputable def mq (er:HH->Option (List W×HH)) (w:W) (h:HH):Option (List W×HH):=bnd (er h) (iy w)
@[simp] noncomputable def frees (s:Sl):List (Nat×Str)->Option Sl
 | []=>some []
 | q :: r=>match s[q.1]? with
  | some w=>(frees s r).map (w :: ·)
  | none=>none
noncomputable def caps (s:Sl):List (Nat×Str)->Option (List Cp)
 | []=>some []
 | q :: r=>match s[q.1]? with
  | some (some w)=>(tN w).bind fun x=>(caps s r).map (x :: ·)
  | _=>none
@[simp] theorem IP (s:Sl):caps s []=some []:=rfl
@[simp] theorem G0 (s:Sl) (q:Nat×Str) (r:List (Nat×Str)):caps s (q :: r)=match s[q.1]? with
 | some (some w)=>(tN w).bind fun x=>(caps s r).map (x :: ·)
 | _=>none:=rfl
noncomputable def noC:List W->Bool
 | []=>true
 | .p _ :: r=>noC r
 | .r _ :: r=>noC r
 | .k _ :: _=>false
 | .o _ :: r=>noC r
 | .c _ _ :: _=>false
 | .x _ :: _=>false
@[simp] theorem KS:noC []=true:=rfl
@[simp] theorem Ng (d:D) (r:List W):noC (.p d :: r)=noC r:=rfl
@[simp] theorem Nh (d:Nat) (r:List W):noC (.r d :: r)=noC r:=rfl
@[simp] theorem Ni (d:Nat) (r:List W):noC (.o d :: r)=noC r:=rfl
noncomputable def xQ (F:FK->List W->HH->Option (W×HH)) (o:Option (Option W)) (ws:List W) (h:HH):Option (W×HH):=match o with
 | some (some (.c k cs))=>if noC ws then F k (ws++cs.map Cp.w) h else none
 | _=>none
@[simp] theorem IQ (F:FK->List W->HH->Option (W×HH)) (k:FK) (cs:List Cp) (ws:List W) (h:HH):xQ F (some (some (.c k cs))) ws h=if noC ws then F k (ws++cs.map Cp.w) h else none:=rfl
noncomputable def xR (w:W) (h:HH):Option (W×HH):=match w with
 | .c _ _=>none
 | .x _=>none
 | .k _=>none
 | w=>some (w,h)
@[simp] theorem L7 (d:D) (h:HH):xR (.p d) h=some (.p d,h):=rfl
@[simp] theorem L8 (n:Nat) (h:HH):xR (.r n) h=some (.r n,h):=rfl
@[simp] theorem Ma (n:Nat) (h:HH):xR (.o n) h=some (.o n,h):=rfl
noncomputable def oK (F:FK->List W->HH->Option (W×HH)) (q:FK) (n:Nat) (L:Nat) (cs:Option (List Cp)) (ws:List W) (h:HH):Option (W×HH):=match cs with
 | some cs=>bnd (F q (.o n :: (ws++[.c (.l L) cs])) h) xR
 | none=>none
@[simp] theorem G1 (F:FK->List W->HH->Option (W×HH)) (q:FK) (n:Nat) (L:Nat) (cs:List Cp) (ws:List W) (h:HH):oK F q n L (some cs) ws h=bnd (F q (.o n :: (ws++[.c (.l L) cs])) h) xR:=rfl
noncomputable def xS (F:FK->List W->HH->Option (W×HH)) (m:Str) (ea:HH->Option (List W×HH)) (L:Nat) (cs:Option (List Cp)) (x:W) (h:HH):Option (W×HH):=match x with
 | .o n=>match oat h n with
  | some (c,fs)=>if (iP m fs).isNone then bnd (ea h) (oK F (.m c m) n L cs) else none
  | none=>none
 | _=>none
@[simp] theorem IR (F:FK->List W->HH->Option (W×HH)) (m:Str) (ea:HH->Option (List W×HH)) (L:Nat) (cs:Option (List Cp)) (n:Nat) (h:HH):xS F m ea L cs (.o n) h=match oat h n with
 | some (c,fs)=>if (iP m fs).isNone then bnd (ea h) (oK F (.m c m) n L cs) else none
 | none=>none:=rfl
noncomputable def ER (c cn:Str):Bool:=cn==c||cn=="TapeError"||cn=="ValueError"
noncomputable def Mb (cn:Str) (x:W) (h:HH):Option (W×HH):=match x with
 | .x c=>some (.p (.bl (ER c cn)),h)
 | _=>none
@[simp] theorem Mc (cn c:Str) (h:HH):Mb cn (.x c) h=some (.p (.bl (ER c cn)),h):=rfl
noncomputable def strsOf:List D->Option (List Str)
 | []=>some []
 | .str x :: r=>(strsOf r).map (x :: ·)
 | _=>none
noncomputable def boolsOf:List D->Option (List Bool)
 | []=>some []
 | .bl b :: r=>(boolsOf r).map (b :: ·)
 | _=>none
noncomputable def txD:Tx->List D->Option D
 | .join,[.str x,.lst ys]=>(strsOf ys).bind fun ts=>if ts.length<=1000/\x.length<=10/\∀ t∈ts,t.length<=1000 then some (.str (P1 x ts)) else none
 | .split,[.str x,.str y]=>if y.length=1/\x.length<=lim then some (.lst ((Txt.split x y).map .str)) else none
 | .str,[.int i]=>if big i then some (.str (toString i)) else none
 | .str,[.str x]=>some (.str x)
 | .intS,[.str x]=>if x.length<=640 then (PySem.intText? x).map .int else none
 | .all,[.lst xs]=>(boolsOf xs).map fun bs=>.bl (bs.all id)
 | .inS,[.str x,.str y]=>some (.bl (Txt.contains y x))
 | .ninS,[.str x,.str y]=>some (.bl (!Txt.contains y x))
 | .pre,[.str x,.int i]=>if 0<=i/\x.length<=lim then some (.str ⟨x.cps.extract 0 i.toNat⟩) else none
 | _,_=>none
noncomputable def xT (kvs:List (Str×D)) (as:List W) (h:HH):Option (W×HH):=match as with
 | [.p .non]=>some (.p .non,h)
 | [.p (.str x)]=>some (.p ((ef x kvs).getD .non),h)
 | [.p (.str x),.p d]=>some (.p ((ef x kvs).getD d),h)
 | _=>none
noncomputable def rY (kvs:List (Ky×D)) (as:List W) (h:HH):Option (W×HH):=match as with
 | [.p (.str x)]=>some (.p ((fq kvs (.inr x)).getD .non),h)
 | [.p (.str x),.p d]=>some (.p ((fq kvs (.inr x)).getD d),h)
 | _=>none
noncomputable def kTx (k:Tx) (ws:List W) (h:HH):Option (W×HH):=match k,ws with
 | .dget,.k (.t kvs) :: as=>xT kvs as h
 | .dget,.k (.l kvs) :: as=>rY kvs as h
 | k,ws=>(rds ws h).bind fun ds=>(txD k ds).map fun d=>(.p d,h)
section
variable (F:FK->List W->HH->Option (W×HH)) (G:Str->Option W)
mutual
@[simp] noncomputable def ev:E->Sl->HH->Option (W×HH)
 | .var i,s,h=>match s[i]? with | some (some w)=>some (w,h) | _=>none
 | .cst d,_,h=>some (.p d,h)
 | .glo x,_,h=>(G x).map fun w=>(w,h)
 | .bin o a b,s,h=>bnd (ev a s h) (k2 (ev b s) (nh o))
 | .neg a,s,h=>bnd (ev a s h) A9
 | .not a,s,h=>bnd (ev a s h) Ba
 | .and a b,s,h=>bnd (ev a s h) (Bb (ev b s))
 | .or a b,s,h=>bnd (ev a s h) (kOr (ev b s))
 | .cmp o a b,s,h=>bnd (ev a s h) (k2 (ev b s) (jC o))
 | .chain o o' a b c,s,h=>bnd (ev a s h) (k2 (ev b s) (oCh o o' (ev c s)))
 | .ite c a b,s,h=>bnd (ev c s h) (Bc (ev a s) (ev b s))
 | .tup as,s,h=>bnd (evs as s h) EJ
 | .lst mu as,s,h=>bnd (evs as s h) (EK mu)
 | .idx a i,s,h=>bnd (ev a s h) (k2 (ev i s) A8)
 | .slc a lo hi,s,h=>bnd (ev a s h) (IE (evs lo s) (evs hi s))
 | .rvs a,s,h=>bnd (ev a s h) EL
 | .stp mu k a,s,h=>bnd (ev a s h) (EM mu k)
 | .call f as,s,h=>bnd (evs as s h) (F (.f f))
 | .fld a f,s,h=>bnd (ev a s h) (Be f)
 | .meth o m as,s,h=>bnd (ev o s h) (xN F m (evs as s))
 | .make c as,s,h=>bnd (evs as s h) (Dp F c)
 | .bi b mu as,s,h=>bnd (evs as s h) (kBi b mu)
 | .lsr mu sr as,s,h=>bnd (evs as s h) (kLs mu sr)
 | .me m o as,s,h=>bnd (ev o s h) (kMe m (evs as s))
 | .comp mu sr sa tg fv cond elt,s,h=>bnd (evs sa s h) (nR mu sr tg.length (frees s fv) (evs cond) (ev elt))
 | .callv i as,s,h=>bnd (evs as s h) (xQ F s[i]?)
 | .methL o m as L fv,s,h=>bnd (ev o s h) (xS F m (evs as s) L (caps s fv))
 | .tx k as,s,h=>bnd (evs as s h) (kTx k)
 | .dlit kvs,_,h=>some (.k (.l ((kvs.map fun p=>((.inr p.1:Ky),p.2)).foldl (fun c p=>jS c p.1 p.2) [])),h)
@[simp] noncomputable def evs:Es->Sl->HH->Option (List W×HH)
 | .nil,_,h=>some ([],h)
 | .cons a as,s,h=>bnd (ev a s h) (mq (evs as s))
end
inductive Fl where
 | nx (s:Sl) (h:HH) | rt (w:W) (h:HH) | bk (s:Sl) (h:HH) | ct (s:Sl) (h:HH)
noncomputable def IS (k:Bool->HH->Option Fl) (w:W) (h:HH):Option Fl:=match w with | .p (.bl b)=>k b h | _=>none
noncomputable def tst (x:Option (W×HH)) (k:Bool->HH->Option Fl):Option Fl:=bnd x (IS k)
@[simp] theorem rZ (b:Bool) (h:HH) (k:Bool->HH->Option Fl):tst (some (.p (.bl b),h)) k=k b h:=rfl
noncomputable def nS (x:Option Fl) (k:Sl->HH->Option Fl):Option Fl:=match x with
 | some (.nx s h)=>k s h
 | y=>y
@[simp] theorem qA (s:Sl) (h:HH) (k:Sl->HH->Option Fl):nS (some (.nx s h)) k=k s h:=rfl
@[simp] theorem mw (w:W) (h:HH) (k:Sl->HH->Option Fl):nS (some (.rt w h)) k=some (.rt w h):=rfl
@[simp] theorem IT (s:Sl) (h:HH) (k:Sl->HH->Option Fl):nS (some (.bk s h)) k=some (.bk s h):=rfl
@[simp] theorem IU (s:Sl) (h:HH) (k:Sl->HH->Option Fl):nS (some (.ct s h)) k=some (.ct s h):=rfl
@[simp] theorem ET (k:Sl->HH->Option Fl):nS none k=none:=rfl
noncomputable def gM (x:Option Fl) (k:Sl->HH->Option Fl):Option Fl:=match x with
 | some (.nx s h)=>k s h
 | some (.ct s h)=>k s h
 | some (.bk s h)=>some (.nx s h)
 | y=>y
@[simp] theorem gO (s:Sl) (h:HH) (k:Sl->HH->Option Fl):gM (some (.nx s h)) k=k s h:=rfl
@[simp] theorem IV (s:Sl) (h:HH) (k:Sl->HH->Option Fl):gM (some (.ct s h)) k=k s h:=rfl
@[simp] theorem IW (s:Sl) (h:HH) (k:Sl->HH->Option Fl):gM (some (.bk s h)) k=some (.nx s h):=rfl
@[simp] theorem IX (w:W) (h:HH) (k:Sl->HH->Option Fl):gM (some (.rt w h)) k=some (.rt w h):=rfl
@[simp] theorem EU (k:Sl->HH->Option Fl):gM none k=none:=rfl
@[simp] noncomputable def sets:List (Nat×Str)->List D->Sl->Sl
 | (i,_) :: r,d :: ds,s=>sets r ds (s.set i (some (.p d)))
 | _,_,s=>s
noncomputable def EV (b:Sl->HH->Option Fl) (again:Sl->HH->Option Fl) (s:Sl) (t:Bool) (h:HH):Option Fl:=if t then gM (b s h) again else some (.nx s h)
@[simp] theorem oM (b again:Sl->HH->Option Fl) (s:Sl) (h:HH):EV b again s true h=gM (b s h) again:=rfl
@[simp] theorem EW (b again:Sl->HH->Option Fl) (s:Sl) (h:HH):EV b again s false h=some (.nx s h):=rfl
noncomputable def gu (c:Sl->HH->Option (W×HH)) (b:Sl->HH->Option Fl):Nat->Sl->HH->Option Fl
 | 0,_,_=>none
 | n+1,s,h=>tst (c s h) (EV b (gu c b n) s)
@[simp] noncomputable def dZ (b:Sl->HH->Option Fl) (tg:List (Nat×Str)):List D->Sl->HH->Option Fl
 | [],s,h=>some (.nx s h)
 | d :: r,s,h=>match target tg.length d with
  | some ds=>gM (b (sets tg ds s) h) (dZ b tg r)
  | none=>none
noncomputable def turns:Nat:=100000
@[simp] noncomputable def xU (s:Sl) (i:Nat) (w:W) (h:HH):Option Fl:=some (.nx (s.set i (some w)) h)
@[simp] noncomputable def EX (s:Sl) (xs:List (Nat×Str)) (w:W) (h:HH):Option Fl:=match w with
 | .p d=>match unpack xs.length d with | some ds=>some (.nx (sets xs ds s) h) | none=>none
 | _=>none
@[simp] noncomputable def IY (s:Sl) (i:Nat) (o:Bin) (w:W) (h:HH):Option Fl:=match s[i]?,w with
 | some (some (.p d)),.p d'=>(lU o d d').map fun z=>.nx (s.set i (some (.p z))) h
 | _,_=>none
@[simp] noncomputable def Dq (s:Sl) (n:Nat) (d:D) (q:W) (h:HH):Option Fl:=match q,lat h n with
 | .p (.int j),some xs=>match place xs.length j with
  | some m=>some (.nx s (h.set n (.l (xs.set m d))))
  | none=>none
 | _,_=>none
@[simp] noncomputable def EY (ek:EH) (s:Sl) (i:Nat) (w:W) (h:HH):Option Fl:=match w,s[i]? with
 | .p d,some (some (.r n))=>bnd (ek h) (Dq s n d)
 | _,_=>none
noncomputable def xV (s:Sl) (n:Nat) (d:D) (q:W) (h:HH):Option Fl:=match q with
 | .p k=>(dat h n).bind fun kvs=>(m8 k).bind fun y=>if kvs.length < lim then some (.nx s (h.set n (.d (jS kvs y d)))) else none
 | _=>none
@[simp] theorem IZ (s:Sl) (n:Nat) (d k:D) (h:HH):xV s n d (.p k) h=(dat h n).bind fun kvs=>(m8 k).bind fun y=>if kvs.length < lim then some (.nx s (h.set n (.d (jS kvs y d)))) else none:=rfl
noncomputable def Nj (ek:EH) (s:Sl) (i:Nat) (w:W) (h:HH):Option Fl:=match w,s[i]? with
 | .p d,some (some (.r n))=>bnd (ek h) (xV s n d)
 | _,_=>none
noncomputable def oN (s:Sl) (f:Str) (v:W) (x:W) (h:HH):Option Fl:=match x with
 | .o n=>match oat h n with
  | some (c,fs)=>if attrOk v&&fs.length < 1000 then some (.nx s (h.set n (.o c (eY f v fs)))) else none
  | none=>none
 | _=>none
@[simp] theorem xW (s:Sl) (f:Str) (v:W) (n:Nat) (h:HH):oN s f v (.o n) h=match oat h n with
 | some (c,fs)=>if attrOk v&&fs.length < 1000 then some (.nx s (h.set n (.o c (eY f v fs)))) else none
 | none=>none:=rfl
noncomputable def xX (eo:EH) (s:Sl) (f:Str) (v:W) (h:HH):Option Fl:=bnd (eo h) (oN s f v)
@[simp] theorem xY (eo:EH) (s:Sl) (f:Str) (v:W) (h:HH):xX eo s f v h=bnd (eo h) (oN s f v):=rfl
noncomputable def oO (s:Sl) (f:Str) (op:Bin) (n:Nat) (c:Str) (d:D) (v:W) (h:HH):Option Fl:=match v,oat h n with
 | .p e,some (c',fs)=>match lU op d e with
  | some z=>if c'=c/\fs.length < 1000 then some (.nx s (h.set n (.o c' (eY f (.p z) fs)))) else none
  | none=>none
 | _,_=>none
@[simp] theorem xZ (s:Sl) (f:Str) (op:Bin) (n:Nat) (c:Str) (d e:D) (h:HH):oO s f op n c d (.p e) h=match oat h n with
 | some (c',fs)=>match lU op d e with
  | some z=>if c'=c/\fs.length < 1000 then some (.nx s (h.set n (.o c' (eY f (.p z) fs)))) else none
  | none=>none
 | none=>none:=by unfold oO;cases oat h n<;>rfl
noncomputable def tQ (ee:EH) (s:Sl) (f:Str) (op:Bin) (x:W) (h:HH):Option Fl:=match x with
 | .o n=>match oat h n with
  | some (c,fs)=>match iP f fs with
   | some (.p d)=>bnd (ee h) (oO s f op n c d)
   | _=>none
  | none=>none
 | _=>none
@[simp] theorem Bg (ee:EH) (s:Sl) (f:Str) (op:Bin) (n:Nat) (h:HH):tQ ee s f op (.o n) h=match oat h n with
 | some (c,fs)=>match iP f fs with
  | some (.p d)=>bnd (ee h) (oO s f op n c d)
  | _=>none
 | none=>none:=rfl
@[simp] noncomputable def kEx (s:Sl) (_:W) (h:HH):Option Fl:=some (.nx s h)
@[simp] noncomputable def EZ (w:W) (h:HH):Option Fl:=some (.rt w h)
@[simp] noncomputable def kIf (fa fb:HH->Option Fl) (t:Bool) (h:HH):Option Fl:=if t then fa h else fb h
@[simp] noncomputable def kFor (b:Sl->HH->Option Fl) (tg:List (Nat×Str)) (sr:Sr) (s:Sl) (ws:List W) (h:HH):Option Fl:=match (rds ws h).bind (fP sr) with
 | some ds=>if iQ ws then dZ b tg ds s h else none
 | none=>none
@[simp] noncomputable def evS:S->Sl->HH->Option Fl
 | .nil,s,h=>some (.nx s h)
 | .seq a b,s,h=>nS (evS a s h) (evS b)
 | .set i e,s,h=>bnd (ev F G e s h) (xU s i)
 | .unp xs e,s,h=>bnd (ev F G e s h) (EX s xs)
 | .aug i o e,s,h=>bnd (ev F G e s h) (IY s i o)
 | .put i k e,s,h=>bnd (ev F G e s h) (EY (ev F G k s) s i)
 | .setf o f e,s,h=>bnd (ev F G e s h) (xX (ev F G o s) s f)
 | .augf o f op e,s,h=>bnd (ev F G o s h) (tQ (ev F G e s) s f op)
 | .ex e,s,h=>bnd (ev F G e s h) (kEx s)
 | .ret e,s,h=>bnd (ev F G e s h) EZ
 | .ife c a b,s,h=>tst (ev F G c s h) (kIf (evS a s) (evS b s))
 | .whl c b,s,h=>gu (ev F G c) (evS b) turns s h
 | .for tg sr sa b,s,h=>bnd (evs F G sa s h) (kFor (evS b) tg sr s)
 | .brk,s,h=>some (.bk s h)
 | .cnt,s,h=>some (.ct s h)
 | .bad,_,_=>none
 | .rai _ _,_,_=>none
open Classical in
noncomputable def fin (h:HH) (w:W) (h':HH):Option (W×HH) :=
 if h'.length=h.length then some (w,h')
 else if h'.take h.length=h then (match w with
  | .p d=>some (.p d,h)
  | .r n=>if n < h.length then some (.r n,h) else (lat h' n).map fun xs=>(.p (.lst xs),h)
  | .o n=>if n < h.length then some (.o n,h) else some (.o n,h')
  | .k _=>none
  | .c _ _=>none
  | .x _=>none)
 else some (w,h')
@[simp] noncomputable def iz (n:Nat) (ws:List W):Sl:=ws.map some++NX (n - ws.length) none
noncomputable def qB (x:Option Fl) (k:W->HH->Option (W×HH)):Option (W×HH):=match x with
 | some (.rt w h)=>k w h
 | some (.nx _ h)=>k (.p .non) h
 | _=>none
@[simp] theorem KU (w:W) (h:HH) (k:W->HH->Option (W×HH)):qB (some (.rt w h)) k=k w h:=rfl
@[simp] theorem KW (s:Sl) (h:HH) (k:W->HH->Option (W×HH)):qB (some (.nx s h)) k=k (.p .non) h:=rfl
@[simp] theorem G2 (k:W->HH->Option (W×HH)):qB none k=none:=rfl
end
section
variable (T:FK->Option Fn) (G:Str->Option W)
noncomputable def runN:Nat->FK->List W->HH->Option (W×HH)
 | 0,_,_,_=>none
 | k+1,f,ws,h=>match T f with
  | some fn=>if ws.length=fn.ps.length then qB (evS (runN k) G fn.body (iz fn.ns.length ws) h) (fin h) else none
  | none=>none
theorem run_eq {T:FK->Option Fn}{G:Str->Option W}{f:FK}{fn:Fn}{ws:List W}{h:HH}{k:Nat} (hT:T f=some fn) (hl:ws.length=fn.ps.length) :
 runN T G (k+1) f ws h=qB (evS (runN T G k) G fn.body (iz fn.ns.length ws) h) (fin h):=by
 rw[runN,hT];exact if_pos hl
end
noncomputable def Mf:Fn:=⟨["state","thing"],["state","thing"],.ret (.call "worth_in" (.cons (.var 0) (.cons (.var 1) .nil)))⟩
noncomputable def Mg:Fn:=⟨["state","thing","worth"],["state","thing","worth"],.ret (.cmp .ne (.call "worth_in" (.cons (.var 0) (.cons (.var 1) .nil))) (.var 2))⟩
noncomputable def Mh:Fn:=⟨["state","thing","worth"],["state","thing","worth"],.ret (.cmp .ne (.call "worth_in" (.cons (.var 0) (.cons (.var 1) .nil))) (.var 2))⟩
noncomputable def Mi:Fn:=⟨["state","term"],["state","term"],.ret (.call "reckoned" (.cons (.var 1) (.cons (.var 0) .nil)))⟩
noncomputable def Mj:Fn:=⟨["state","term"],["state","term"],.ret (.cmp .ne (.call "reckoned" (.cons (.var 1) (.cons (.var 0) .nil))) (.cst (.int 0)))⟩
noncomputable def Ml:Fn:=⟨["state","term"],["state","term"],.ret (.cmp .ne (.call "reckoned" (.cons (.var 1) (.cons (.var 0) .nil))) (.cst (.int 0)))⟩
noncomputable def Mm:Fn:=⟨["state"],["state"],.ret (.idx (.var 0) (.glo "ROW"))⟩
noncomputable def Mn:Fn:=⟨["state","row"],["state","row"],.ret (.cmp .eq (.idx (.var 0) (.glo "ROW")) (.var 1))⟩
noncomputable def Mp:Fn:=⟨["state","number"],["state","number"],.ret (.cmp .gt (.bi .len false (.cons (.idx (.var 0) (.glo "SAID")) .nil)) (.var 1))⟩
noncomputable def Mq:Fn:=⟨["state","bound"],["state","bound"],.ret (.cmp .le (.call "open_in" (.cons (.var 0) .nil)) (.var 1))⟩
noncomputable def I0:Fn:=⟨["state","bound"],["state","bound"],.ret (.cmp .le (.call "open_in" (.cons (.var 0) .nil)) (.var 1))⟩
noncomputable def Ja:Fn:=⟨["state","wanted"],["state","wanted"],.ret (.and (.cmp .eq (.idx (.var 0) (.glo "NAMES")) (.idx (.var 1) (.glo "NAMES"))) (.cmp .eq (.idx (.var 0) (.glo "CELLS")) (.idx (.var 1) (.glo "CELLS"))))⟩
noncomputable def Jb:Fn:=⟨["state","tape","thing"],["state","tape","thing"],.ret (.cmp .eq (.call "written_next" (.cons (.var 1) (.cons (.var 0) .nil))) (.var 2))⟩
noncomputable def Jc:Fn:=⟨[],[],.ret (.cst .non)⟩
noncomputable def Jd:Fn:=⟨[],[],.ret (.cst .non)⟩
noncomputable def r6 (i:Nat):Option Fn:=([Mf,Mg,Mh,Mi,Mj,Ml,Mm,Mn,Mp,Mq,I0,Ja,Jb,Jc,Jd]:List Fn)[i]?
noncomputable def gv:List Str:=["worths_of","last_change","next_change","moments_so","last_so","next_so","visits","last_visit","when_said","next_within","last_within","first_other","writer_of","judged","remade"]
noncomputable def Dr (i:Nat):Str:=gv.getD i ""
noncomputable def gj (x:Str):Str:="<"++x++">"
end BT
end
section
namespace BS
open PySem PySem.Spec PyProof.Rows L2
theorem dh {β:Type}{c:Prop} [Decidable c] {a b:β} (h:(if c then some a else none)=some b):c/\a=b:=by
 by_cases z:c
 ·rw[if_pos z] at h;exact ⟨z,NO h⟩
 ·rw[if_neg z] at h;exact nomatch h
theorem cR {β:Type}{a:β}{P:Prop} (h:(none:Option β)=some a):P:=nomatch h
noncomputable def attrName (f:Str):Bool:=(["program","asked","gap","most","kept","farthest","front","now","origins","branches","tape","named"]:List Str).contains f
noncomputable def qC:BT.Bi->Option (String×(BT.D->Bool))
 | .isInt=>some ("int",BT.isI)
 | .isBool=>some ("bool",BT.isB)
 | .isStr=>some ("str",BT.isS)
 | .isTuple=>some ("tuple",BT.isT)
 | .isList=>some ("list",BT.isL)
 | _=>none
noncomputable def qD (sc:Ow) (x:Str):Bool:=match sc.names.lookup x with
 | some .local=>true
 | some .cell=>true
 | some .free=>true
 | _=>false
noncomputable def dY (sc:Ow) (x:Str):Bool:=sc.names.lookup x==some .globalImplicit
noncomputable def fM (x:Str):Bool:=!(x=="__debug__")&&!(x=="__classdict__")&&!(x=="__name__")
noncomputable def noStar:NH->Bool
 | .Starred _ _=>false
 | _=>true
noncomputable def lC:NH->Bool
 | .Slice _ _ _ _=>false
 | _=>true
noncomputable def dB:NH->Bool
 | .Name _ _=>true
 | .Constant _ _ _=>true
 | .Subscript _ _ _=>true
 | .Attribute _ _ _=>true
 | .Call (.Attribute _ _ _) _ _ _=>true
 | _=>false
noncomputable def Je:BT.Bin->QK
 | .add=>.Add
 | .sub=>.Sub
 | .mul=>.Mult
 | .mod=>.Mod
 | .fdiv=>.FloorDiv
 | .pow=>.Pow
noncomputable def Ds (o:BT.Bin) (op:QK):Bool:=decide (op=Je o)
noncomputable def Mr:BT.Cm->CmpOp
 | .eq=>.Eq
 | .ne=>.NotEq
 | .lt=>.Lt
 | .le=>.LtE
 | .gt=>.Gt
 | .ge=>.GtE
 | .isN=>.Is
 | .notN=>.IsNot
 | .mem=>.In
 | .nmem=>.NotIn
noncomputable def Bh (o:BT.Cm) (op:CmpOp):Bool:=decide (op=Mr o)
noncomputable def Dt:BT.D->Const->Bool
 | .non,.none=>true
 | .bl a,.bool b=>a==b
 | .int i,.int j=>i==j
 | .str x,.str y=>x==y&&PyData.strOk x
 | _,_=>false
noncomputable def ya:BT.Bi->Bool->Option Str
 | .len,false=>some "len"
 | .abs,false=>some "abs"
 | .int,false=>some "int"
 | .list,_=>some "list"
 | .tuple,false=>some "tuple"
 | _,_=>none
noncomputable def Du (b:BT.Bi) (mu:Bool) (x:Str):Bool:=ya b mu==some x
noncomputable def yb:BT.Bi->Str->Bool
 | .min2,x=>x=="min"
 | .max2,x=>x=="max"
 | _,_=>false
noncomputable def Bj:NH->Option Const
 | .Constant c _ _=>some c
 | _=>none
noncomputable def cInt:Const->Option Int
 | .int j=>some j
 | _=>none
noncomputable def unE:NH->Option NH
 | .UnaryOp o e _=>if o=.USub then some e else none
 | _=>none
noncomputable def oQ (k:Int) (e:NH):Bool:=((Bj e).bind cInt==some k&&decide (0 < k))||(((unE e).bind Bj).bind cInt==some (-k)&&decide (k < 0))
noncomputable def yc:BT.Me->Str
 | .append=>"append"
 | .pop=>"pop"
 | .extend=>"extend"
 | .tindex=>"index"
 | .sindex=>"index"
 | .dget=>"get"
 | .count=>"count"
 | .lindex=>"index"
noncomputable def r8:BT.E->Bool
 | .glo _=>true
 | _=>false
noncomputable def E1 (m:BT.Me) (o:BT.E):Bool:=match m with
 | .append=>true
 | .pop=>true
 | .extend=>true
 | .sindex=>true
 | .tindex=>r8 o
 | .dget=>false
 | .count=>true
 | .lindex=>true
noncomputable def Dv (c:Str):Bool:=(["NoMoment","NoThing","NoRun","NoText"]:List Str).contains c
noncomputable def Nk (cn:Str):Bool:=Dv cn||cn=="ValueError"
noncomputable def gw (N:List Str):Bool:=!N.contains "_law_flags"
noncomputable def tOK:BT.E->Bool
 | .ite _ _ _=>false
 | .not a=>tOK a
 | .and a b=>tOK a&&tOK b
 | .or a b=>tOK a&&tOK b
 | .tup _=>false
 | .lst _ _=>false
 | .comp _ _ _ _ _ _ _=>false
 | _=>true
noncomputable def jD:NH->Bool
 | .Set _ _ _=>false
 | _=>true
noncomputable def nT:BT.Sr->NH->Bool
 | .zip2,.Tuple _ _ _=>true
 | .enu,.Tuple _ _ _=>true
 | .itm,.Tuple _ _ _=>true
 | .zipG,.Tuple _ _ _=>true
 | .zip2,_=>false
 | .enu,_=>false
 | .itm,_=>false
 | .zipG,_=>false
 | _,_=>true
noncomputable def dW (scope sc:Ow):Ow :=
 { scope with names:=scope.names.map fun (n,k)=>if (k==.free&&sc.kind==.function&&sc.names.lookup n==some .cell) then (n,.cell) else (n,k) }
noncomputable def nmE:NH->Option Str
 | .Name y _=>some y
 | _=>none
noncomputable def E2:NH->List NH
 | .Tuple xs _ _=>xs
 | _=>[]
noncomputable def qE (sc:Ow) (tg:List Str) (te:NH):Bool:=((tg.map some==[nmE te])||(Nat.ble 2 tg.length&&tg.map some==(E2 te).map nmE))&&tg.all fun x=>sc.names.lookup x==some .local
noncomputable def jE:List Str->Bool
 | []=>true
 | x :: r=>!r.contains x&&jE r
noncomputable def jF (sc:Ow) (N:List Str) (tg:List Str) (fv:List (Nat×Str)) (scope:Ow):Bool :=
 scope.kind==.function&&sc.kind==.function&&scope.names.all (fun y=>!(y.2==.cell))&&scope.names.all (fun y=>!(y.2==.local)||scope.names.lookup y.1==some .local) &&
 scope.names.all (fun y=>!(y.2==.free)||sc.names.lookup y.1==some .cell) &&
 fv.all (fun q=>N[q.1]?==some q.2&&scope.names.contains (q.2,.free)&&sc.names.lookup q.2==some .cell&&(dW scope sc).names.lookup q.2==some .cell)&&jE (tg++fv.map (·.2))
noncomputable def dlQ:BT.D->PyData
 | .str x=>.str x
 | .int i=>.int i
 | _=>.none
noncomputable def yd:BT.D->Bool
 | .str x=>PyData.strOk x
 | .int _=>true
 | _=>false
noncomputable def dlD (kvs:List (Str×BT.D)):List (PyData×PyData):=kvs.map fun p=>(.str p.1,dlQ p.2)
noncomputable def dlV:List (Str×BT.D)->Bool
 | []=>true
 | p :: r=>PyData.strOk p.1&&yd p.2&&dlV r
noncomputable def dlB (kvs:List (Str×BT.D)) (keys:List (Option NH)) (values:List NH):Bool:=dlV kvs&&(keys.all fun x=>x.isSome)&&decide (keys.length=values.length)&&!keys.isEmpty&&decide (keys.length<=15)&&decide (kvs.length<=15)
inductive Tq where
 | e (a:BT.E) (x:NH) | es (as:BT.Es) (xs:List NH) | o (as:BT.Es) (x:Option NH) | c (as:BT.Es) (xs:List NH) | i (sr:BT.Sr) (sa:BT.Es) (x:NH)
set_option autoImplicit true in
class inductive CQ:Ow->List Str->Tq->Prop where
 | var (h1:N[i]?=some x) (h2:qD sc x=true) (h3:fM x=true):CQ sc N (.e (.var i) (.Name x p))
 | cst (h:Dt d c=true):CQ sc N (.e (.cst d) (.Constant c k p))
 | glo (h2:dY sc x=true) (h3:fM x=true):CQ sc N (.e (.glo x) (.Name x p))
 | bin (h:Ds o op=true) (ha:CQ sc N (.e a l)) (hb:CQ sc N (.e b r)):CQ sc N (.e (.bin o a b) (.BinOp l op r p))
 | neg (ha:CQ sc N (.e a x)):CQ sc N (.e (.neg a) (.UnaryOp .USub x p))
 | not (ha:CQ sc N (.e a x)):CQ sc N (.e (.not a) (.UnaryOp .Not x p))
 | and2 (ha:CQ sc N (.e a x)) (hb:CQ sc N (.e b y)):CQ sc N (.e (.and a b) (.BoolOp .And [x,y] p))
 | and3 (ha:CQ sc N (.e a x)) (hb:CQ sc N (.e b (.BoolOp .And (y :: z :: r) p))):CQ sc N (.e (.and a b) (.BoolOp .And (x :: y :: z :: r) p))
 | or2 (ha:CQ sc N (.e a x)) (hb:CQ sc N (.e b y)):CQ sc N (.e (.or a b) (.BoolOp .Or [x,y] p))
 | or3 (ha:CQ sc N (.e a x)) (hb:CQ sc N (.e b (.BoolOp .Or (y :: z :: r) p))):CQ sc N (.e (.or a b) (.BoolOp .Or (x :: y :: z :: r) p))
 | cmp (h:Bh o op=true) (ha:CQ sc N (.e a l)) (hb:CQ sc N (.e b r)) (hm:RT op r=false):CQ sc N (.e (.cmp o a b) (.Compare l [op] [r] p))
 | chain (h:Bh o op=true) (h':Bh o' op'=true) (ha:CQ sc N (.e a l)) (hb:CQ sc N (.e b r)) (hc:CQ sc N (.e c r')) (hm:lastMarks [op,op'] [r,r']=false):CQ sc N (.e (.chain o o' a b c) (.Compare l [op,op'] [r,r'] p))
 | ite (h:tOK c=true) (hc:CQ sc N (.e c t)) (ha:CQ sc N (.e a x)) (hb:CQ sc N (.e b y)):CQ sc N (.e (.ite c a b) (.IfExp t x y p))
 | tup (h:CQ sc N (.es as es)):CQ sc N (.e (.tup as) (.Tuple es k p))
 | lst (h:CQ sc N (.es as es)):CQ sc N (.e (.lst mu as) (.List es p))
 | idx (ha:CQ sc N (.e a x)) (hi:CQ sc N (.e i sl)) (hs:lC sl=true):CQ sc N (.e (.idx a i) (.Subscript x sl p))
 | slc {lo:BT.Es} (ha:CQ sc N (.e a x)) (hl:CQ sc N (.o lo l)) (hu:CQ sc N (.o hi u)):CQ sc N (.e (.slc a lo hi) (.Subscript x (.Slice l u none p2) p))
 | call (hg:dY sc f=true) (hn:fM f=true) (ha:CQ sc N (.es as es)):CQ sc N (.e (.call f as) (.Call (.Name f np) es [] p))
 | bi (hu:gw N=true) (hb:Du b mu x=true) (hg:dY sc x=true) (hs:noStar e=true) (ha:CQ sc N (.e a e)):CQ sc N (.e (.bi b mu (.cons a .nil)) (.Call (.Name x np) [e] [] p))
 | inst (hb:qC b=some (c,f)) (hg:dY sc "isinstance"=true) (hg2:dY sc (NY c)=true) (hs:noStar e=true) (ha:CQ sc N (.e a e)) :
  CQ sc N (.e (.bi b false (.cons a .nil)) (.Call (.Name "isinstance" np) [e,.Name (NY c) p2] [] p))
 | me (h1:E1 m o=true) (h2:name=yc m) (h3:dB oe=true) (h6:(apos.endLine==cpos.line)=true) (h7:es.length < 20) (ho:CQ sc N (.e o oe)) (ha:CQ sc N (.es as es)) :
  CQ sc N (.e (.me m o as) (.Call (.Attribute oe name apos) es [] cpos))
 | comp {cond:BT.Es}
  (hu:gw N=true) (hk:jF sc N tg fv scope=true) (ht:qE (dW scope sc) tg te=true) (hz:nT sr te=true) (hs:jD iter=true) (hi:CQ sc N (.i sr sa iter))
  (hc:CQ (dW scope sc) (tg++fv.map (·.2)) (.c cond ifs)) (he:CQ (dW scope sc) (tg++fv.map (·.2)) (.e elt elt')):CQ sc N (.e (.comp mu sr sa tg fv cond elt) (.ListComp elt' [⟨te,iter,ifs,0⟩] scope pos))
 | fld (hb:dB x=true) (hf:attrName f=true) (ha:CQ sc N (.e a x)):CQ sc N (.e (.fld a f) (.Attribute x f p))
 | meth (h3:dB oe=true) (h6:(apos.endLine==cpos.line)=true) (h7:es.length < 20) (ho:CQ sc N (.e o oe)) (ha:CQ sc N (.es as es)) :
  CQ sc N (.e (.meth o m as) (.Call (.Attribute oe m apos) es [] cpos))
 | stp (hk:oQ k se=true) (ha:CQ sc N (.e a x)):CQ sc N (.e (.stp mu k a) (.Subscript x (.Slice none none (some se) p2) p))
 | bi2 (hu:gw N=true) (hb:yb b x=true) (hg:dY sc x=true) (hs1:noStar e1=true) (hs2:noStar e2=true) (h1:CQ sc N (.e a1 e1)) (h2:CQ sc N (.e a2 e2)) :
  CQ sc N (.e (.bi b false (.cons a1 (.cons a2 .nil))) (.Call (.Name x np) [e1,e2] [] p))
 | make (hg:dY sc c=true) (hn:fM c=true) (ha:CQ sc N (.es as es)):CQ sc N (.e (.make c as) (.Call (.Name c np) es [] p))
 | rvs (ha:CQ sc N (.e a x)):CQ sc N (.e (.rvs a) (.Subscript x (.Slice none none (some (.UnaryOp .USub (.Constant (.int 1) c p1) p3)) p2) p))
 | xjoin (h3:dB oe=true) (h6:(apos.endLine==cpos.line)=true) (hs:noStar e=true) (ho:CQ sc N (.e o oe)) (ha:CQ sc N (.e a e)):CQ sc N (.e (.tx .join (.cons o (.cons a .nil))) (.Call (.Attribute oe "join" apos) [e] [] cpos))
 | xsplit (h3:dB oe=true) (h6:(apos.endLine==cpos.line)=true) (hs:noStar e=true) (ho:CQ sc N (.e o oe)) (ha:CQ sc N (.e a e)):CQ sc N (.e (.tx .split (.cons o (.cons a .nil))) (.Call (.Attribute oe "split" apos) [e] [] cpos))
 | xget1 (h3:dB oe=true) (h6:(apos.endLine==cpos.line)=true) (hs:noStar e=true) (ho:CQ sc N (.e o oe)) (ha:CQ sc N (.e a e)):CQ sc N (.e (.tx .dget (.cons o (.cons a .nil))) (.Call (.Attribute oe "get" apos) [e] [] cpos))
 | xget2 (h3:dB oe=true) (h6:(apos.endLine==cpos.line)=true) (hs:noStar e=true) (hs2:noStar e2=true) (ho:CQ sc N (.e o oe)) (ha:CQ sc N (.e a e)) (hb:CQ sc N (.e b e2)):CQ sc N (.e (.tx .dget (.cons o (.cons a (.cons b .nil)))) (.Call (.Attribute oe "get" apos) [e,e2] [] cpos))
 | xstr (hg:dY sc "str"=true) (hs:noStar e=true) (ha:CQ sc N (.e a e)):CQ sc N (.e (.tx .str (.cons a .nil)) (.Call (.Name "str" np) [e] [] p))
 | xint (hg:dY sc "int"=true) (hs:noStar e=true) (ha:CQ sc N (.e a e)):CQ sc N (.e (.tx .intS (.cons a .nil)) (.Call (.Name "int" np) [e] [] p))
 | xall (hu:gw N=true) (hg:dY sc "all"=true) (hs:noStar e=true) (ha:CQ sc N (.e a e)):CQ sc N (.e (.tx .all (.cons a .nil)) (.Call (.Name "all" np) [e] [] p))
 | xin (ha:CQ sc N (.e a l)) (hb:CQ sc N (.e b r)) (hm:RT .In r=false):CQ sc N (.e (.tx .inS (.cons a (.cons b .nil))) (.Compare l [.In] [r] p))
 | dlit (h1:PyProof.Rows.litPairs keys values=some (dlD kvs)) (h2:dlB kvs keys values=true):CQ sc N (.e (.dlit kvs) (.Dict keys values p))
 | es_nil:CQ sc N (.es .nil [])
 | es_cons (hs:noStar e=true) (ha:CQ sc N (.e a e)) (hr:CQ sc N (.es as es)):CQ sc N (.es (.cons a as) (e :: es))
 | o_nil:CQ sc N (.o .nil none)
 | o_one (ha:CQ sc N (.e a e)):CQ sc N (.o (.cons a .nil) (some e))
 | c_nil:CQ sc N (.c .nil [])
 | c_one (ht:tOK a=true) (ha:CQ sc N (.e a e)):CQ sc N (.c (.cons a .nil) [e])
 | rng1 (hg:dY sc "range"=true) (hs:noStar e=true) (h:CQ sc N (.e a e)):CQ sc N (.i .rng1 (.cons a .nil) (.Call (.Name "range" p) [e] [] pos))
 | rng3 (hg:dY sc "range"=true) (hs:noStar x=true) (hs2:noStar y=true) (hs3:noStar z=true) (ha:CQ sc N (.e a x)) (hb:CQ sc N (.e b y)) (hc:CQ sc N (.e c z)):CQ sc N (.i .rng3 (.cons a (.cons b (.cons c .nil))) (.Call (.Name "range" p) [x,y,z] [] pos))
 | rev (hg:dY sc "reversed"=true) (hs:noStar e=true) (h:CQ sc N (.e a e)):CQ sc N (.i .rev (.cons a .nil) (.Call (.Name "reversed" p) [e] [] pos))
 | chs (h:CQ sc N (.e a x)):CQ sc N (.i .chs (.cons a .nil) x)
 | zipG (hg:dY sc "zip"=true) (hs:noStar x=true) (hs2:noStar y=true) (ha:CQ sc N (.e a x)) (hb:CQ sc N (.e b y)):CQ sc N (.i .zipG (.cons a (.cons b .nil)) (.Call (.Name "zip" p) [x,y] [] pos))
 | seq (h:CQ sc N (.e a x)):CQ sc N (.i .seq (.cons a .nil) x)
noncomputable abbrev CE' (sc:Ow) (N:List Str) (a:BT.E) (x:NH):Prop:=CQ sc N (.e a x)
noncomputable abbrev CEs (sc:Ow) (N:List Str) (as:BT.Es) (xs:List NH):Prop:=CQ sc N (.es as xs)
noncomputable abbrev CC (sc:Ow) (N:List Str) (as:BT.Es) (xs:List NH):Prop:=CQ sc N (.c as xs)
noncomputable abbrev CI (sc:Ow) (N:List Str) (sr:BT.Sr) (sa:BT.Es) (x:NH):Prop:=CQ sc N (.i sr sa x)
inductive LPa:R8->List Str->Prop where
 | one {p:Pos}:LPa ⟨[],[⟨"state",none,p⟩],none,[],[],none,[]⟩ ["state"]
 | two {p q:Pos}:LPa ⟨[],[⟨"row",none,p⟩,⟨"state",none,q⟩],none,[],[],none,[]⟩ ["row","state"]
noncomputable def qF (ps fs:List Str) (sc:Ow):Bool :=
 sc.kind==.function&&!sc.isCoroutine&&!sc.isGenerator&&sc.names.all (fun y=>!(y.2==.cell))&&ps.all (fun x=>sc.names.lookup x==some .local) &&
 fs.all (fun x=>sc.names.lookup x==some .free&&sc.names.contains (x,.free))&&sc.names.all (fun y=>!(y.2==.free)||fs.contains y.1)&&jE (ps++fs)
noncomputable def Jf (sc:Ow) (N:List Str) (fv:List (Nat×Str)):Bool:=fv.all fun q=>N[q.1]?==some q.2&&sc.names.lookup q.2==some .cell
inductive CL (sc:Ow) (N:List Str):BT.E->Str->BT.Es->Nat->List (Nat×Str)->NH->Prop where
 | zero {o bt:BT.E}{m:Str}{L:Nat}{fv:List (Nat×Str)}{oe be:NH}{apos cpos lp:Pos}{pa:R8}{scope:Ow}{ns ps:List Str} (hl:BT.r6 L=some ⟨ns,ns,.ret bt⟩) (hp:LPa pa ps) (hn:ns=ps++fv.map (·.2)) (hk:qF ps (fv.map (·.2)) scope=true) (hv:Jf sc N fv=true)
  (ht:N.contains (BT.gj (BT.Dr L))=true) (hc:CE' scope ns bt be) (h3:dB oe=true) (h6:(apos.endLine==cpos.line)=true) (ho:CE' sc N o oe):CL sc N o m .nil L fv (.Call (.Attribute oe m apos) [.Lambda pa be scope lp] [] cpos)
 | one {o bt a:BT.E}{m:Str}{L:Nat}{fv:List (Nat×Str)}{oe be e:NH}{apos cpos lp:Pos}{pa:R8}{scope:Ow}{ns ps:List Str} (hl:BT.r6 L=some ⟨ns,ns,.ret bt⟩) (hp:LPa pa ps) (hn:ns=ps++fv.map (·.2)) (hk:qF ps (fv.map (·.2)) scope=true) (hv:Jf sc N fv=true)
  (ht:N.contains (BT.gj (BT.Dr L))=true) (hc:CE' scope ns bt be) (h3:dB oe=true) (h6:(apos.endLine==cpos.line)=true) (ho:CE' sc N o oe) (hs:noStar e=true) (ha:CE' sc N a e):CL sc N o m (.cons a .nil) L fv (.Call (.Attribute oe m apos) [e,.Lambda pa be scope lp] [] cpos)
noncomputable def KT (K:Nz) (a:NL) (xs:List V):Prop :=
 ∃ (o:Obj) (its:Array Value) (n:Nat),(K.lookup a=some o/\o.cls=.type "tuple"/\o.data=.seq its n/\its.size<=sizeLine/\cZ xs its.toList)/\o.dict=none
noncomputable def KL (K:Nz) (a:NL) (xs:List V):Prop:=∃ (its:List Value) (n:Nat),K.lookup a=some { cls:=.type "list",data:=.seq its.toArray n }/\its.length<=sizeLine/\cZ xs its
noncomputable def LL (K:Nz) (H:Hp) (a:NL) (xs:List V):Prop:=Rd H a (.lst xs)\/KL K a xs
theorem LL.sq {K:Nz} (h:LL K H a xs):SqL K H a xs:=by
 rcases h with h | ⟨its,n,h1,h2,h3⟩
 ·exact .inl h
 ·exact .inr ⟨_,its.toArray,n,h1,rfl,rfl,rfl,by simpa using h2,by simpa using h3⟩
noncomputable def KD (P:NT) (w:N7) (K:Nz) (a:NL) (es:List (Str×V)):Prop :=
 (a==O9)=false/\∃ vs:List (Key×Value),KV (es.map fun q=>(Sum.inr q.1,q.2)) vs/\∀ h:Heap,K.In h->h.DictOf (c8 P w) a vs
mutual
inductive RD (K:Nz) (m:List NL) (H:Hp):V->BT.D->Prop where
 | non:RD K m H .non .non
 | bl (b:Bool):RD K m H (.bl b) (.bl b)
 | int (i:Int):RD K m H (.int i) (.int i)
 | str (x:Str) (h:PyData.strOk x=true):RD K m H (.str x) (.str x)
 | tup {a:NL}{vs:List V}{ds:List BT.D} (h:(Rd H a (.tup vs)/\a∉m)\/KT K a vs) (r:RDs K m H vs ds):RD K m H (.ref a) (.tup ds)
 | lst {a:NL}{vs:List V}{ds:List BT.D} (h:(Rd H a (.lst vs)/\a∉m)\/KL K a vs) (r:RDs K m H vs ds):RD K m H (.ref a) (.lst ds)
inductive RDs (K:Nz) (m:List NL) (H:Hp):List V->List BT.D->Prop where
 | nil:RDs K m H [] []
 | cons {v:V}{d:BT.D}{vs:List V}{ds:List BT.D} (r:RD K m H v d) (t:RDs K m H vs ds):RDs K m H (v :: vs) (d :: ds)
end
inductive RDk (K:Nz):List (Str×V)->List (Str×BT.D)->Prop where
 | nil:RDk K [] []
 | cons {x:Str}{v:V}{d:BT.D}{es:List (Str×V)}{kvs:List (Str×BT.D)} (r:∀ m H,RD K m H v d) (t:RDk K es kvs):RDk K ((x,v) :: es) ((x,d) :: kvs)
inductive RA (K:Nz) (m:List NL) (H:Hp):V->BT.W->Prop where
 | p {v:V}{d:BT.D} (r:RD K m H v d):RA K m H v (.p d)
 | r {a:NL}{n:Nat} (h:m[n]?=some a):RA K m H (.ref a) (.r n)
 | o {a:NL}{n:Nat} (h:m[n]?=some a):RA K m H (.ref a) (.o n)
noncomputable def Tr (m:List NL) (H:Hp) (a:NL) (o:Obj):Prop:=H a=some (.frz o (.own 0))/\a∉m
noncomputable def Ms (x:Str):Str:=x++".<locals>."++"<lambda>"
inductive iY (m:List NL) (H:Hp) (cl:List (Str×NL)):List Str->List V->Prop where
 | nil:iY m H cl [] []
 | cons {x:Str}{c:NL}{o:Obj}{u:Value}{v:V}{xs:List Str}{vs:List V} (h1:cl.lookup x=some c) (h2:Tr m H c o) (h3:o.data=.cell (some u)) (r:RelV v u) (t:iY m H cl xs vs):iY m H cl (x :: xs) (v :: vs)
inductive jV (m:List NL) (H:Hp) (f:NL) (L:Nat) (vs:List V):Prop where
 | mk (bt:_) (ps:_) (fs:_) (pa:_) (be:_) (sc:_) (cl:_) (pm:_) (ctv:_) (c':_) (oc:_) (os:_) (t:_) (q:_) (h1:BT.r6 L=some ⟨ps++fs,ps++fs,.ret bt⟩) (h2:LPa pa ps) (h3:qF ps fs sc=true) (h4:CE' sc (ps++fs) bt be) (h5:(∀ x y c,cl.lookup x=some c->cl.lookup y=some c->x=y)) (h6:(∀ x c,cl.lookup x=some c->x∈fs)) (h7:Tr m H f (PySem.W.kla_obj "<lambda>" q pa be sc cl pm c' ctv)) (h8:Tr m H c' oc) (h9:oc.data=.fields os) (h10:os[1]?=some (.str q t)) (h11:iY m H cl fs vs):jV m H f L vs
inductive RCs (K:Nz) (m:List NL) (H:Hp):List V->List BT.Cp->Prop where
 | nil:RCs K m H [] []
 | cons {v:V}{x:BT.Cp}{vs:List V}{xs:List BT.Cp} (r:RA K m H v x.w) (t:RCs K m H vs xs):RCs K m H (v :: vs) (x :: xs)
noncomputable def TB (K:Nz) (H:Hp):Prop:=∀ x∈BT.gv,∀ c P,OY K x=some (c,P)->∃ ps,H P=some (.tbl ps)/\TriplesOk ps.toList ∧
 ∀ pos v,codeAmong pos ps.toList=some v->∃ c' oc os t,v=.ref c'/\H c'=some (.frz oc (.own 0))/\oc.data=.fields os/\os[1]?=some (.str (Ms x) t)
theorem TB.mono {K:Nz} (h:TB K H) (h1:∀ P ps,H P=some (.tbl ps)->H' P=some (.tbl ps)) (h2:∀ a o vs,o.data=.fields vs->H a=some (.frz o (.own 0))->H' a=some (.frz o (.own 0))):TB K H':=fun x hx c P e=>by
 obtain ⟨ps,e1,e2,e3⟩:=h x hx c P e
 refine ⟨ps,h1 _ _ e1,e2,fun pos v q=>?_⟩
 obtain ⟨c',oc,os,t,q1,q2,q3⟩:=e3 pos v q
 exact ⟨c',oc,os,t,q1,h2 _ _ _ q3.1 q2,q3⟩
noncomputable def CN (K:Nz) (c:Str) (C:NL):Prop:=Od K NU c=some (some (.ref C))
structure XT (K:Nz) (c:Str) (C:NL):Prop where
 ga:N9 K (.ref C) "__getattribute__"=some (some (.builtin "BaseException.__getattribute__"))
 nga:N9 K (.ref C) "__getattr__"=some none
 mrb:Q9 K C (.type "BaseException")=some true
 dct:Pf K C=true
 fnd:N9 K (.ref C) "__class__"=some (some (.builtin "object.__class__"))
 spc:TR K (.builtin "object.__class__") "__get__"=some (some (.builtin "getset_descriptor.__get__"))
 tak:Ul K (.builtin "object.__class__")=some true
 mro:Q9 K C (.type "object")=some true
 own:∀ cn,Dv cn=true->∃ D,CN K cn D/\OZ K (.ref C) (.ref D)=some (BT.ER c cn)
 val:OZ K (.ref C) (.type "ValueError")=some true
noncomputable def excAt (K:Nz) (c:Str) (a:NL):Heap->Prop:=fun h=>∃ o C,CN K c C/\XT K c C/\h.get? a=some o/\o.cls=.ref C
inductive RKs (K:Nz) (m:List NL) (H:Hp):List (Key×V)->List (BT.Ky×BT.D)->Prop where
 | nil:RKs K m H [] []
 | cons {k:Key}{v:V}{d:BT.D}{vs:List (Key×V)}{kvs:List (BT.Ky×BT.D)} (hk:RD K m H (kV k) (BT.xG k)) (r:RD K m H v d) (t:RKs K m H vs kvs):RKs K m H ((k,v) :: vs) ((k,d) :: kvs)
inductive RW (P:NT) (w:N7) (K:Nz) (m:List NL) (H:Hp):V->BT.W->Prop where
 | p {v:V}{d:BT.D} (r:RD K m H v d):RW P w K m H v (.p d)
 | r {a:NL}{n:Nat} (h:m[n]?=some a):RW P w K m H (.ref a) (.r n)
 | k {a:NL}{es:List (Str×V)}{kvs:List (Str×BT.D)} (h:KD P w K a es) (r:RDk K es kvs):RW P w K m H (.ref a) (.k (.t kvs))
 | kl {a:NL}{o:Obj}{vs:List (Key×V)}{kvs:List (BT.Ky×BT.D)} (h:H a=some (.frz o (.dK vs))/\a∉m) (r:RKs K m H vs kvs):RW P w K m H (.ref a) (.k (.l kvs))
 | o {a:NL}{n:Nat} (h:m[n]?=some a):RW P w K m H (.ref a) (.o n)
 | c {f:NL}{L:Nat}{vs:List V}{cs:List BT.Cp} (h:jV m H f L vs) (r:RCs K m H vs cs):RW P w K m H (.ref f) (.c (.l L) cs)
 | x {a:NL}{c:Str} (h:H a=some (.ext (excAt K c a))) (n:a∉m) (xt:∃ C,XT K c C):RW P w K m H (.ref a) (.x c)
 | g {f:NL}{x:Str} (h:Od K NU x=some (some (.ref f))) (r:OG K (.ref f)=true):RW P w K m H (.ref f) (.c (.f x) [])
inductive RFs (K:Nz) (m:List NL) (H:Hp):List (Str×V)->List (Str×BT.W)->Prop where
 | nil:RFs K m H [] []
 | cons {f:Str}{v:V}{x:BT.W}{vs:List (Str×V)}{fs:List (Str×BT.W)} (r:RA K m H v x) (t:RFs K m H vs fs):RFs K m H ((f,v) :: vs) ((f,x) :: fs)
theorem CN.inj {K:Nz} (h:CN K c C) (h':CN K c C'):C=C':=by
 have e:=h.symm.trans h'
 simpa using e
structure nU (K:Nz) (c:Str) (C:NL):Prop where
 cn:CN K c C
 cls:Cls K C
 no:∀ f,attrName f=true->iS K C f
noncomputable def iZ (K:Nz) (m:List NL) (H:Hp) (a:NL):BT.Cl->Prop
 | .l xs=>∃ vs,H a=some (.lst vs)/\RDs K m H vs xs
 | .o c fs=>∃ C dx vs,H a=some (.ins C dx vs)/\nU K c C/\RFs K m H vs fs
 | .d kvs=>∃ vs,H a=some (.dK vs)/\RKs K m H vs kvs
 | .z=>∃ ob vs,H a=some (.frz ob (.dK vs))
inductive RWs (P:NT) (w:N7) (K:Nz) (m:List NL) (H:Hp):List V->List BT.W->Prop where
 | nil:RWs P w K m H [] []
 | cons {v:V}{x:BT.W}{vs:List V}{xs:List BT.W} (r:RW P w K m H v x) (t:RWs P w K m H vs xs):RWs P w K m H (v :: vs) (x :: xs)
structure RH (K:Nz) (m:List NL) (H:Hp) (h:BT.HH):Prop where
 nd:m.Nodup
 len:m.length=h.length
 cl:∀ (i:Nat) (a:NL) (c:BT.Cl),m[i]?=some a->h[i]?=some c->iZ K m H a c
 tb:TB K H
theorem ye (e:BT.lat h n=some xs):h[n]?=some (.l xs):=by
 unfold BT.lat at e
 cases g:h[n]? with
 | none=>rw[g] at e;exact cR e
 | some c=>rw[g] at e;cases c<;>simp[BT.qo] at e;rw[e]
theorem yf (e:BT.oat h n=some (c,fs)):h[n]?=some (.o c fs):=by
 unfold BT.oat at e
 cases g:h[n]? with
 | none=>rw[g] at e;exact cR e
 | some c=>rw[g] at e;cases c<;>simp[BT.qp] at e;rw[e.1,e.2]
theorem RH.cell {K:Nz} (R:RH K m H h) (i:Nat) (a:NL) (xs:List BT.D) (e:m[i]?=some a) (g:BT.lat h i=some xs):∃ vs,H a=some (.lst vs)/\RDs K m H vs xs:=R.cl i a _ e (ye g)
inductive OC (K:Nz) (m:List NL) (H:Hp) (a:NL) (c:Str) (fs:List (Str×BT.W)):Prop where
 | mk (C:NL) (dx:_) (vs:_) (h1:H a=some (.ins C dx vs)) (h2:nU K c C) (h3:RFs K m H vs fs):OC K m H a c fs
theorem RH.qG {K:Nz} (R:RH K m H h) (i:Nat) (a:NL) (c:Str) (fs:List (Str×BT.W)) (e:m[i]?=some a) (g:BT.oat h i=some (c,fs)):OC K m H a c fs:=by
 obtain ⟨C,dx,vs,h1,h2,h3⟩:=R.cl i a _ e (yf g)
 exact ⟨C,dx,vs,h1,h2,h3⟩
structure RS (P:NT) (w:N7) (K:Nz) (m:List NL) (H:Hp) (σ:L2.St) (s:BT.Sl):Prop where
 len:σ.length=s.length
 get:∀ (i:Nat) (x:BT.W),s[i]?=some (some x)->∃ v,σ[i]?=some (some v)/\RW P w K m H v x
noncomputable def Dw:HO->Bool
 | .tbl _=>true
 | _=>false
structure Ext (m:List NL) (H:Hp) (m':List NL) (H':Hp):Prop where
 pre:∃ e,m'=m++e/\∀ a∈e,H a=none
 keep:∀ a o,H a=some o->a∉m->Dw o=false->H' a=some o
 live:∀ a,H' a=none->H a=none
 frz:∀ a ob vs,H a=some (.frz ob (.dK vs))->H' a=some (.frz ob (.dK vs))
theorem Ext.refl (m:List NL) (H:Hp):Ext m H m H:=⟨⟨[],by simp,by simp⟩,fun _ _ h _ _=>h,fun _ h=>h,fun _ _ _ h=>h⟩
theorem Ext.iO (x:Ext m H m' H') (h:H a=some o) (n:a∉m):a∉m':=by
 obtain ⟨e,rfl,he⟩:=x.pre
 intro q
 rcases List.mem_append.mp q with q | q
 ·exact n q
 ·rw[he a q] at h;exact cR h
theorem Ext.trans (x:Ext m H m1 H1) (y:Ext m1 H1 m2 H2):Ext m H m2 H2:=by
 obtain ⟨e,rfl,he⟩:=x.pre
 obtain ⟨e',rfl,he'⟩:=y.pre
 refine ⟨⟨e++e',by rw[Pr],fun a ha=>?_⟩,fun a o h n t=>y.keep a o (x.keep a o h n t) (x.iO h n) t,fun a h=>x.live a (y.live a h),fun a ob vs h=>y.frz a ob vs (x.frz a ob vs h)⟩
 rcases List.mem_append.mp ha with q | q
 ·exact he a q
 ·exact x.live a (he' a q)
theorem Rd.ext (x:Ext m H m' H') (h:Rd H a u) (n:a∉m) (t:Dw u=false:=by rfl):Rd H' a u/\a∉m':=by
 rcases h with h | ⟨o,h⟩
 ·exact ⟨.inl (x.keep _ _ h n t),x.iO h n⟩
 ·exact ⟨.inr ⟨o,x.keep _ _ h n rfl⟩,x.iO h n⟩
theorem Tr.ext (x:Ext m H m' H') (h:Tr m H a o):Tr m' H' a o:=⟨x.keep _ _ h.1 h.2 rfl,x.iO h.1 h.2⟩
theorem iY.ext (x:Ext m H m' H') (r:iY m H cl xs vs):iY m' H' cl xs vs:=by
 induction r with
 | nil=>exact .nil
 | cons h1 h2 h3 r t ih=>exact .cons h1 (h2.ext x) h3 r ih
theorem jV.ext (x:Ext m H m' H') (h:jV m H f L vs):jV m' H' f L vs:=by
 obtain ⟨bt,ps,fs,pa,be,sc,cl,pm,ctv,c',oc,os,t,q,h0,h1,h2,h3,h4,h5,h6,h7,h8,h9,h10⟩:=h
 exact ⟨bt,ps,fs,pa,be,sc,cl,pm,ctv,c',oc,os,t,q,h0,h1,h2,h3,h4,h5,h6.ext x,h7.ext x,h8,h9,h10.ext x⟩
section
variable {K:Nz}
mutual
theorem RD.ext (x:Ext m H m' H'):∀ {v:V}{d:BT.D},RD K m H v d->RD K m' H' v d
 | _,_,.non=>.non
 | _,_,.bl b=>.bl b
 | _,_,.int i=>.int i
 | _,_,.str y h=>.str y h
 | _,_,.tup h r=>.tup (h.elim (fun q=>.inl (Rd.ext x q.1 q.2)) .inr) (RDs.ext x r)
 | _,_,.lst h r=>.lst (h.elim (fun q=>.inl (Rd.ext x q.1 q.2)) .inr) (RDs.ext x r)
theorem RDs.ext (x:Ext m H m' H'):∀ {vs:List V}{ds:List BT.D},RDs K m H vs ds->RDs K m' H' vs ds
 | _,_,.nil=>.nil
 | _,_,.cons r t=>.cons (RD.ext x r) (RDs.ext x t)
end
theorem RA.rw (r:RA K m H v d):RW P w K m H v d:=by
 cases r with
 | p r=>exact .p r
 | r h=>exact .r h
 | o h=>exact .o h
theorem RW.ra (r:RW P w K m H v d) (h0:BT.attrOk d=true):RA K m H v d:=by
 cases r with
 | p r=>exact .p r
 | r h=>exact .r h
 | o h=>exact .o h
 | k _ _=>exact BT.dG h0
 | kl _ _=>exact BT.dG h0
 | c _ _=>exact BT.dG h0
 | x _=>exact BT.dG h0
 | g _ _=>exact BT.dG h0
theorem Ext.ix (x:Ext m H m' H') {n:Nat} (h:m[n]?=some a):m'[n]?=some a:=by
 obtain ⟨e,rfl,_⟩:=x.pre
 rw[NQ (by rcases OA _ m.length with q | q;exact q;rw[N3 q] at h;exact cR h)]
 exact h
theorem RA.ext (x:Ext m H m' H') (r:RA K m H v d):RA K m' H' v d:=by
 cases r with
 | p r=>exact .p (r.ext x)
 | r h=>exact .r (x.ix h)
 | o h=>exact .o (x.ix h)
theorem RCs.ext (x:Ext m H m' H') (r:RCs K m H vs cs):RCs K m' H' vs cs:=by
 induction r with
 | nil=>exact .nil
 | cons r t ih=>exact .cons (r.ext x) ih
theorem RKs.ext (x:Ext m H m' H') (r:RKs K m H vs kvs):RKs K m' H' vs kvs:=by
 induction r with
 | nil=>exact .nil
 | cons hk r t ih=>exact .cons (hk.ext x) (r.ext x) ih
theorem RW.ext (x:Ext m H m' H') (r:RW P w K m H v d):RW P w K m' H' v d:=by
 cases r with
 | p r=>exact .p (r.ext x)
 | r h =>
  obtain ⟨e,rfl,_⟩:=x.pre
  refine .r ?_
  rw[NQ (by rcases OA _ m.length with q | q;exact q;rw[N3 q] at h;exact cR h)]
  exact h
 | k h r=>exact .k h r
 | kl h r=>exact .kl ⟨x.keep _ _ h.1 h.2 rfl,x.iO h.1 h.2⟩ (r.ext x)
 | c h r=>exact .c (h.ext x) (r.ext x)
 | g h r=>exact .g h r
 | x h n xt=>exact .x (x.keep _ _ h n rfl) (x.iO h n) xt
 | o h =>
  obtain ⟨e,rfl,_⟩:=x.pre
  refine .o ?_
  rw[NQ (by rcases OA _ m.length with q | q;exact q;rw[N3 q] at h;exact cR h)]
  exact h
theorem RFs.ext (x:Ext m H m' H') (r:RFs K m H vs fs):RFs K m' H' vs fs:=by
 induction r with
 | nil=>exact .nil
 | cons r t ih=>exact .cons (r.ext x) ih
theorem iZ.ext (x:Ext m H m' H') (e:H' a=H a) (r:iZ K m H a c):iZ K m' H' a c:=by
 cases c with
 | l xs=>obtain ⟨vs,h1,h2⟩:=r;exact ⟨vs,e.trans h1,h2.ext x⟩
 | o c fs=>obtain ⟨C,dx,vs,h1,h2,h3⟩:=r;exact ⟨C,dx,vs,e.trans h1,h2,h3.ext x⟩
 | d kvs=>obtain ⟨vs,h1,h2⟩:=r;exact ⟨vs,e.trans h1,h2.ext x⟩
 | z=>obtain ⟨ob,vs,h1⟩:=r;exact ⟨ob,vs,e.trans h1⟩
theorem iZ.some (r:iZ K m H a c):∃ o,H a=some o:=by
 cases c with
 | l xs=>obtain ⟨vs,h1,h2⟩:=r;exact ⟨_,h1⟩
 | o c fs=>obtain ⟨C,dx,vs,h1,h2,h3⟩:=r;exact ⟨_,h1⟩
 | d kvs=>obtain ⟨vs,h1,h2⟩:=r;exact ⟨_,h1⟩
 | z=>obtain ⟨ob,vs,h1⟩:=r;exact ⟨_,h1⟩
theorem RWs.ext (x:Ext m H m' H') (r:RWs P w K m H vs ds):RWs P w K m' H' vs ds:=by
 induction r with
 | nil=>exact .nil
 | cons r t ih=>exact .cons (r.ext x) ih
theorem RS.ext (x:Ext m H m' H') (r:RS P w K m H σ s):RS P w K m' H' σ s :=
 ⟨r.len,fun i y e=>by obtain ⟨v,h,q⟩:=r.get i y e;exact ⟨v,h,q.ext x⟩⟩
theorem RDs.length:∀ {vs:List V}{ds:List BT.D},RDs K m H vs ds->vs.length=ds.length
 | _,_,.nil=>rfl
 | _,_,.cons _ t=>by rw[NJ,NJ,RDs.length t]
theorem RWs.length:∀ {vs:List V}{ds:List BT.W},RWs P w K m H vs ds->vs.length=ds.length
 | _,_,.nil=>rfl
 | _,_,.cons _ t=>by rw[NJ,NJ,RWs.length t]
theorem RDs.get:∀ {vs:List V}{ds:List BT.D}{i:Nat}{d:BT.D},RDs K m H vs ds->ds[i]?=some d->∃ v,vs[i]?=some v/\RD K m H v d
 | _,_,_,_,.nil,e=>by simp at e
 | _,_,0,_,.cons r _,e=>by simp at e;subst e;exact ⟨_,rfl,r⟩
 | _,_,i+1,d,.cons _ t,e=>by
  obtain ⟨u,h1,h2⟩:=RDs.get (i:=i) (d:=d) t (by simpa using e)
  exact ⟨u,by simpa using h1,h2⟩
theorem RDs.append:∀ {vs ws:List V}{ds es:List BT.D},RDs K m H vs ds->RDs K m H ws es->RDs K m H (vs++ws) (ds++es)
 | _,_,_,_,.nil,s=>s
 | _,_,_,_,.cons r t,s=>.cons r (RDs.append t s)
theorem RDs.take:∀ {vs:List V}{ds:List BT.D} (n:Nat),RDs K m H vs ds->RDs K m H (vs.take n) (ds.take n)
 | _,_,0,_=>.nil
 | _,_,_+1,.nil=>.nil
 | _,_,n+1,.cons r t=>.cons r (RDs.take n t)
theorem RDs.drop:∀ {vs:List V}{ds:List BT.D} (n:Nat),RDs K m H vs ds->RDs K m H (vs.drop n) (ds.drop n)
 | _,_,0,r=>r
 | _,_,_+1,.nil=>.nil
 | _,_,n+1,.cons _ t=>RDs.drop n t
theorem RDs.set (r:RD K m H v d):∀ {vs:List V}{ds:List BT.D} (i:Nat),RDs K m H vs ds->RDs K m H (vs.set i v) (ds.set i d)
 | _,_,_,.nil=>.nil
 | _,_,0,.cons _ t=>.cons r t
 | _,_,i+1,.cons q t=>.cons q (RDs.set r i t)
theorem RDs.pick (r:RDs K m H vs ds):∀ l:List Nat,RDs K m H (l.filterMap fun i=>vs[i]?) (l.filterMap fun i=>ds[i]?)
 | []=>.nil
 | i :: l=>by
  rw[OI,OI]
  cases g:ds[i]? with
  | none =>
   have:vs[i]?=none:=by
    have h:=r.length
    rw[SG] at g ⊢
    lia
   rw[this]
   exact RDs.pick r l
  | some d =>
   obtain ⟨v,e,q⟩:=r.get g
   rw[e]
   exact .cons q (RDs.pick r l)
theorem RDs.dropLast:∀ {vs:List V}{ds:List BT.D},RDs K m H vs ds->RDs K m H vs.dropLast ds.dropLast
 | _,_,.nil=>.nil
 | _,_,.cons _ .nil=>.nil
 | _,_,.cons r (.cons q t)=>.cons r (RDs.dropLast (.cons q t))
theorem RDs.rep (r:RDs K m H vs ds):∀ k:Nat,RDs K m H (NX k vs).flatten (NX k ds).flatten
 | 0=>.nil
 | k+1=>by
  rw[OV,OV,Pq,Pq]
  exact RDs.append r (RDs.rep r k)
theorem nV {N:List NL} (hN:N.Nodup) {i j:Nat}{x:NL} (a:N[i]?=some x) (b:N[j]?=some x):i=j:=by
 have hi:i < N.length:=by
  rcases OA i N.length with z | z
  ·exact z
  ·rw[N3 z] at a;exact cR a
 have hj:j < N.length:=by
  rcases OA j N.length with z | z
  ·exact z
  ·rw[N3 z] at b;exact cR b
 rw[NN hi] at a
 rw[NN hj] at b
 exact (List.getElem_inj hN).mp ((NO a).trans (NO b).symm)
inductive RR (K:Nz) (m:List NL) (H:Hp):V->BT.D->Prop where
 | d {v:V}{d:BT.D} (r:RD K m H v d):RR K m H v d
 | l {a:NL}{vs:List V}{ds:List BT.D} (h:H a=some (.lst vs)) (r:RDs K m H vs ds):RR K m H (.ref a) (.lst ds)
theorem dQ (RHh:RH K m H h) (r:RW P w K m H v x) (e:BT.rd x h=some d):RR K m H v d:=by
 cases r with
 | p r=>cases e;exact .d r
 | @r a n q =>
  simp only[BT.rd] at e
  cases g:BT.lat h n with
  | none=>rw[g] at e;exact cR e
  | some xs =>
   rw[g] at e
   cases e
   obtain ⟨vs,h1,h2⟩:=RHh.cell n a xs q g
   exact .l h1 h2
 | k _ _=>exact cR e
 | kl _ _=>exact cR e
 | o _=>exact cR e
 | c _ _=>exact cR e
 | x _=>exact cR e
 | g _ _=>exact cR e
inductive RLs (K:Nz) (m:List NL) (H:Hp) (v:V) (ds:List BT.D):Prop where
 | mk (a:NL) (vs:List V) (e:v=.ref a) (l:LL K H a vs) (r:RDs K m H vs ds):RLs K m H v ds
inductive RTs (K:Nz) (m:List NL) (H:Hp) (v:V) (ds:List BT.D):Prop where
 | mk (a:NL) (vs:List V) (e:v=.ref a) (l:SqT K H a vs) (r:RDs K m H vs ds):RTs K m H v ds
theorem RR.lst {v:V}{ds:List BT.D} (r:RR K m H v (.lst ds)):RLs K m H v ds:=by
 cases r with
 | d r=>cases r with | lst h r=>exact ⟨_,_,rfl,h.elim (fun q=>.inl q.1) .inr,r⟩
 | l h r=>exact ⟨_,_,rfl,.inl (.inl h),r⟩
theorem RR.tup {v:V}{ds:List BT.D} (r:RR K m H v (.tup ds)):RTs K m H v ds:=by
 cases r with
 | d r=>cases r with | tup h r=>exact ⟨_,_,rfl,h.elim (fun q=>.inl q.1) (fun ⟨o,its,n,q,_⟩=>.inr ⟨o,its,n,q⟩),r⟩
theorem RR.int {v:V}{i:Int} (r:RR K m H v (.int i)):v=.int i:=by
 cases r with | d r=>cases r;rfl
theorem RR.str {v:V}{x:Str} (r:RR K m H v (.str x)):v=.str x/\PyData.strOk x=true:=by
 cases r with | d r=>cases r with | str _ h=>exact ⟨rfl,h⟩
theorem RR.bl {v:V}{b:Bool} (r:RR K m H v (.bl b)):v=.bl b:=by
 cases r with | d r=>cases r;rfl
theorem RR.non (r:RR K m H v .non):v=.non:=by
 cases r with | d r=>cases r;rfl
theorem TB.new (hp:H p=none) {K:Nz} (h:TB K H):TB K (upd H p o) :=
 h.mono (fun P ps e=>by rw[dg (dP e hp)];exact e) fun a o _ _ e=>by rw[dg (dP e hp)];exact e
theorem gx (hp:H p=none):Ext m H m (upd H p o) :=
 ⟨⟨[],by simp,by simp⟩,fun a q h _ _=>by rw[dg (dP h hp)];exact h,fun a h=>by
  by_cases e:a=p
  ·rw[e];exact hp
  ·rw[dg e] at h;exact h,fun a ob vs h=>by rw[dg (dP h hp)];exact h⟩
theorem RH.iO (R:RH K m H h) (hp:H p=none):p∉m:=by
 intro q
 obtain ⟨i,hi⟩:=O4 q
 have hl:i < h.length:=by
  rw[← R.len]
  rcases OA i m.length with z | z
  ·exact z
  ·rw[N3 z] at hi;exact cR hi
 obtain ⟨o,e⟩:=(R.cl i p h[i] hi (NN hl)).some
 rw[e] at hp;cases hp
noncomputable def Le (H H':Hp):Prop:=∀ a u,H a=some u->H' a=some u
theorem Le.tb (q:Le H H') {K:Nz} (t:TB K H):TB K H':=t.mono (fun _ _ e=>q _ _ e) fun _ _ _ _ e=>q _ _ e
theorem r9 (hp:H p=none):Le H (upd H p o):=fun a u e=>by rw[dg (dP e hp)];exact e
theorem RH.ext (R:RH K m H h) (x:Ext m H m H') (k:Le H H'):RH K m H' h :=
 ⟨R.nd,R.len,fun i a c e1 e2=>by
  obtain ⟨o,e⟩:=(R.cl i a c e1 e2).some
  exact (R.cl i a c e1 e2).ext x (by rw[e];exact k _ _ e),k.tb R.tb⟩
noncomputable def Jg:HO->Bool
 | .lst _=>true
 | .ins _ _ _=>true
 | .dK _=>true
 | _=>false
noncomputable def E3:HO->Bool
 | .frz _ (.dK _)=>true
 | .lst _=>true
 | .ins _ _ _=>true
 | .dK _=>true
 | _=>false
theorem RH.mu (R:RH K m H h) (ha:a∈m):∃ o,H a=some o/\E3 o=true:=by
 obtain ⟨i,hi⟩:=O4 ha
 have hl:i < h.length:=by
  rw[← R.len]
  rcases OA i m.length with z | z
  ·exact z
  ·rw[N3 z] at hi;exact cR hi
 have z:=R.cl i a h[i] hi (NN hl)
 cases g:h[i] with
 | l xs=>rw[g] at z;obtain ⟨vs,h1,h2⟩:=z;exact ⟨_,h1,rfl⟩
 | o c fs=>rw[g] at z;obtain ⟨C,dx,vs,h1,h2,h3⟩:=z;exact ⟨_,h1,rfl⟩
 | d kvs=>rw[g] at z;obtain ⟨vs,h1,h2⟩:=z;exact ⟨_,h1,rfl⟩
 | z=>rw[g] at z;obtain ⟨ob,vs,h1⟩:=z;exact ⟨_,h1,rfl⟩
theorem RH.new (R:RH K m H h) (hp:H p=none):RH K m (upd H p o) h :=
 R.ext (gx hp) (r9 hp)
theorem jW (hp:H p=none):Ext m H (m++[p]) (upd H p o) :=
 ⟨⟨[p],rfl,by simpa using hp⟩,fun a q h _ _=>by rw[dg (dP h hp)];exact h,fun a h=>by
  by_cases e:a=p
  ·rw[e];exact hp
  ·rw[dg e] at h;exact h,fun a ob vs h=>by rw[dg (dP h hp)];exact h⟩
theorem RH.Jh (R:RH K m H h) (hp:H p=none) (r:iZ K (m++[p]) (upd H p o) p c):RH K (m++[p]) (upd H p o) (h++[c]):=by
 have np:=R.iO hp
 have x:Ext m H (m++[p]) (upd H p o):=jW hp
 refine ⟨List.nodup_append.mpr ⟨R.nd,by simp,fun a ha b hb=>by simp at hb;subst hb;exact fun e=>np (e ▸ ha)⟩,by simp[R.len],fun i a ys e1 e2=>?_,R.tb.new hp⟩
 by_cases c:i < m.length
 ·rw[NQ c] at e1
  rw[NQ (by rw[← R.len];exact c)] at e2
  have ne:a≠p:=by
   intro e
   subst e
   exact np (NZ e1)
  exact (R.cl i a ys e1 e2).ext x (dg ne)
 ·have e:i=m.length:=by
   rcases OA i (m++[p]).length with z | z
   ·simp at z;lia
   ·rw[N3 z] at e1;exact cR e1
  subst e
  simp at e1
  rw[R.len] at e2
  simp at e2
  subst e1 e2
  exact r
theorem RH.Mt (R:RH K m H h) (hp:H p=none) (r:RDs K m H vs xs):RH K (m++[p]) (upd H p (.lst vs)) (h++[.l xs]) :=
 R.Jh hp ⟨vs,dU,r.ext (jW hp)⟩
theorem TB.set (hm:∃ u,H a=some u/\E3 u=true) {K:Nz} (h:TB K H):TB K (upd H a o):=by
 obtain ⟨w,hw,hu⟩:=hm
 refine h.mono (fun P ps e=>?_) fun b ob _ _ e=>?_
 ·rw[dg (fun z=>by subst z;rw[hw] at e;cases e;exact BT.dG hu)];exact e
 ·rw[dg (fun z=>by subst z;rw[hw] at e;cases e;exact BT.dG hu)];exact e
theorem mz {a:NL}{o:HO} (ha:a∈m) (nf:∃ u,H a=some u/\Jg u=true):Ext m H m (upd H a o) :=
 ⟨⟨[],by simp,by simp⟩,fun b u q n _=>by
  have ne:b≠a:=by
   intro e
   subst e
   exact n ha
  rw[dg ne];exact q,fun b q=>by
  by_cases e:b=a
  ·subst e;rw[dU] at q;cases q
  ·rw[dg e] at q;exact q,fun b ob vs q=>by
  obtain ⟨u,hu,hm⟩:=nf
  rw[dg (fun z=>by subst z;rw[hu] at q;cases q;exact BT.dG hm)];exact q⟩
theorem gP (ha:a∈m) (h:H a=some (.lst us)):Ext m H m (upd H a (.lst vs)):=mz ha ⟨_,h,rfl⟩
theorem RH.setC {h:BT.HH} (R:RH K m H h) {n:Nat}{a:NL}{o:HO}{c:BT.Cl} (hn:m[n]?=some a) (nf:∃ u,H a=some u/\Jg u=true) (r:iZ K m (upd H a o) a c):RH K m (upd H a o) (h.set n c):=by
 have x:Ext m H m (upd H a o):=mz (NZ hn) nf
 refine ⟨R.nd,by simp[R.len],fun i b ys e1 e2=>?_,R.tb.set (R.mu (NZ hn))⟩
 by_cases c:i=n
 ·subst c
  rw[hn] at e1;cases e1
  have hl:i < h.length:=by
   rw[← R.len]
   rcases OA i m.length with z | z
   ·exact z
   ·rw[N3 z] at hn;exact cR hn
  rw[OX hl] at e2
  cases e2
  exact r
 ·rw[Pu (QB c)] at e2
  have ne:b≠a:=by
   intro e
   subst e
   exact c (nV R.nd e1 hn)
  exact (R.cl i b ys e1 e2).ext x (dg ne)
theorem RH.set (R:RH K m H h) (hn:m[n]?=some a) (hH:H a=some (.lst us)) (r:RDs K m H vs xs):RH K m (upd H a (.lst vs)) (h.set n (.l xs)) :=
 R.setC hn ⟨_,hH,rfl⟩ ⟨vs,dU,r.ext (gP (NZ hn) hH)⟩
end
end BS
end
section
namespace BS
open PySem PySem.Spec PyProof.Rows L2 PySem.SeqAt
theorem kZ {E:Value->ND->Prop} (f:Nat->β->Sem (ForInStep β)) (n:Nat) (I:Nat->β->ND->Prop) (Q:β->ND->Prop)
 (turn:∀ i b s,i < n->I i b s->wpAny M A (f i b) (fun r s'=>match r with | .yield b'=>I (i+1) b' s' | .done b'=>Q b' s') E s)
 (fin:∀ b s,I n b s->Q b s) (b:β) (h:I 0 b s):wpAny M A (forIn [:n] b f) Q E s:=by
 rw[Std.Legacy.Range.forIn_eq_forIn_range']
 have e:Ub [:n].start [:n].size [:n].step=Ub 0 (n - 0):=by simp[Std.Legacy.Range.size]
 rw[e]
 refine wpAny_forIn_list f (fun rest b s=>∃ i,i<=n/\rest=Ub i (n - i)/\I i b s) Q (fun x rest b s ⟨i,hi,hr,q⟩=>?_) (fun b s ⟨i,hi,hr,q⟩=>?_) _ b ⟨0,Qo _,rfl,h⟩
 ·have hlt:i < n:=by
   rcases OA i n with z | z
   ·exact z
   ·rw[show n - i=0 by lia] at hr;simp at hr
  rw[show n - i=(n - (i+1))+1 by lia,List.range'_succ] at hr
  injection hr with e1 e2
  subst e1
  refine Px (turn x b s hlt q) (fun r s' z=>?_) fun _ _ z=>z
  cases r with
  | yield b'=>exact ⟨x+1,hlt,e2,z⟩
  | done b'=>exact z
 ·have:i=n:=by
   rcases OA i n with z | z
   ·rw[show n - i=(n - (i+1))+1 by lia,List.range'_succ] at hr;simp at hr
   ·lia
  subst this
  exact fin b s q
theorem nj (l:NL) (items:Array Value) (n:Nat) (dd:Option NL) (sl:Array (Option Value)) (x:Value) (e:Value->Bool) (j:Nat) (hj:j < items.size)
 (hit:e items[j]=true) (hno:∀ m (hm:m < items.size),m < j->e items[m]=false) :
 Meets (Builtin.«tuple.index» ⟨[.ref l,x],[]⟩)
  (fun A R s=>s.heap.get? l=some { cls:=.type "tuple",dict:=dd,data:=.seq items n,slots:=sl }/\(∀ y,y∈items->EqAt A.in1 s y x (e y))/\R (.ok (.ret (.int j s.toks))) { s with toks:=s.toks+1 }) :=
 .of_wp fun prog w A R s h=>by
 obtain ⟨hp,g,d,tk,os⟩:=s;obtain ⟨hl,he,h⟩:=h
 wp_walk using P6 hl,kZ _ _ (fun i b s'=>i<=j/\b.1=none/\s'=⟨hp,g,d,tk,os⟩) _
 case turn =>
  rintro i b s' hi ⟨hij,hb,rfl⟩
  have hi':i < items.size:=by lia
  rw[Sv hi']
  refine NB (he _ (Array.getElem_mem hi') prog w _ _ ?_)
  by_cases c:i=j
  ·subst c
   rw[hit]
   wp_walk
   exact ⟨_,rfl,h⟩
  ·rw[hno i hi' (by lia)]
   wp_walk
   exact ⟨by lia,rfl,rfl⟩
 case fin =>
  rintro b s' ⟨hij,_,_⟩
  lia
 case h=>exact ⟨Qo _,rfl,rfl⟩
theorem sd (l:NL) (items:Array Value) (n:Nat) (dd:Option NL) (sl:Array (Option Value)) (k:Int) (t:Tok) (h1:-1000<=k) (h2:k<=1000) (c1:¬ items.isEmpty=true) (c2:k≠1) (c3:0 < k) (hz:items.size*k.toNat<=sizeLine) :
 Meets (Builtin.«tuple.__mul__» ⟨[.ref l,.int k t],[]⟩)
  (fun A R s=>s.heap.get? l=some { cls:=.type "tuple",dict:=dd,data:=.seq items n,slots:=sl }/\R (.ok (.ret (.ref s.heap.objs.size))) { s with heap:=s.heap.push { cls:=.type "tuple",data:=.seq ((NX k.toNat items).foldl (fun x1 x2=>x1++x2) #[]) } }) :=
 .of_wp fun prog w A R s h=>by
 obtain ⟨hp,g,d,tk,os⟩:=s;obtain ⟨hl,h⟩:=h
 have f1:=TX
 have a1:¬ (decide (k < -2 ^ 63)||decide (k ≥ 2 ^ 63))=true:=by simp;lia
 have a2:¬ (items.isEmpty||k==1)=true:=by simp at c1 ⊢;exact ⟨c1,c2⟩
 have a3:¬ (decide (k<=0)||items.isEmpty)=true:=by simp at c1 ⊢;exact ⟨by lia,c1⟩
 have kk:(k.toNat:Int)=k:=by lia
 have a4:¬ ((items.size:Int)*k > (2 ^ 63 - 1) / 8):=by
  have z:((items.size*k.toNat:Nat):Int)<=(sizeLine:Nat):=Int.ofNat_le.mpr hz
  rw[Int.natCast_mul,kk] at z
  have z2:((sizeLine:Nat):Int)<=(2 ^ 63 - 1) / 8:=by decide
  lia
 have a5:¬ Rf ((items.size:Int)*k)=true:=by
  have z:((items.size*k.toNat:Nat):Int)<=(sizeLine:Nat):=Int.ofNat_le.mpr hz
  rw[Int.natCast_mul,kk] at z
  simp only[Rf,decide_eq_true_eq]
  lia
 have hsz:sizeOk (.seq ((NX k.toNat items).foldl (fun x1 x2=>x1++x2) #[])):=by
  show ((NX k.toNat items).foldl (fun x1 x2=>x1++x2) #[]).size<=sizeLine
  rw[AutoListH.size_joined,Array.size_empty,TU];lia
 wp_walk using P6 hl
 rw[if_neg a1]
 wp_walk using P6 hl
 refine wpAny_ite_split (fun c=>absurd c ?_) (fun _=>?_)
 ·intro c;have a6:=a4;simp at a6 c;lia
 wp_walk using P6 hl
 refine wpAny_ite_false (decide_eq_false (Nat.not_lt.mpr hsz)) ?_
 wp_walk
 exact ⟨_,rfl,h⟩
theorem kD:fillsNumberSlot (.type "tuple") "mul"=pure false :=
 PySem.fillsNumberSlot_seq (id:="tuple.__mul__") (r:=some (.builtin "tuple.__rmul__")) F.slot_tuple_mul.lookup (by decide +kernel) F.slot_tuple_rmul.lookup (by decide +kernel)
theorem oR:seqRepeat? (.type "tuple")=pure (some (.builtin "tuple.__mul__")):=by
 unfold seqRepeat?
 rw[PySem.seqSlot_of (T:="tuple") (name:="__mul__") (id:="tuple.__mul__") F.slot_tuple_mul.lookup (by decide +kernel),PySem.seqSlot_of (T:="tuple") (name:="__rmul__") (id:="tuple.__rmul__") F.slot_tuple_rmul.lookup (by decide +kernel)]
 rfl
theorem mC (a:Int) (t:Tok) (l:NL) (items:Array Value) (n:Nat) (dd:Option NL) (sl:Array (Option Value)) :
 Meets (Builtin.«int.__rmul__» ⟨[.int a t,.ref l],[]⟩) (fun _ R s=>s.heap.get? l=some { cls:=.type "tuple",dict:=dd,data:=.seq items n,slots:=sl }/\R (.ok (.ret Value.notImplemented)) s) :=
 .of_wp fun prog w A R s h=>by obtain ⟨hp,g,d,tk,os⟩:=s;obtain ⟨hl,h⟩:=h;wp_walk;exact ⟨_,rfl,h⟩
theorem k8 (l:NL) (items:Array Value) (n:Nat) (b:NL) (items2:Array Value) (n2:Nat) (dd:Option NL) (sl:Array (Option Value)) (hs0:¬(!items.isEmpty&&OH (items.size+items2.size))=true) (hs1:items.size<=sizeLine) (hs2:items.size+items2.size<=sizeLine+1) :
 Meets (Builtin.«list.extend» ⟨[.ref l,.ref b],[]⟩) (fun _ R s=>s.heap.get? l=some { cls:=.type "list",dict:=none,data:=.seq items n,slots:=#[] }/\s.heap.get? b=some { cls:=.type "tuple",dict:=dd,data:=.seq items2 n2,slots:=sl }/\R (.ok (.ret Pz)) { s with heap:=s.heap.update l (Q5 fun x=>x++items2),toks:=s.toks }) :=
 .of_wp fun prog w A R s h=>by
  obtain ⟨hp,g,d,tk,os⟩:=s;obtain ⟨hl,hb,h⟩:=h;have f1:=TX;have f2:=AutoSeq1.sub_tuple_tuple;have f3:=AutoSeq1.sub_list_list;have f4:=AutoSeq1.sub_tuple_list;have f5:=AutoSeq1.sub_list_tuple
  have hz':(items++items2).size<=sizeLine+1:=by rw[Array.size_append];exact hs2
  wp_walk using (wpAny_updateSeq hl rfl (hz:=hs1) (_hz':=hz')),P6 hl,P6 hb;exact ⟨_,rfl,h⟩
end BS
end
section
namespace BS
open PySem PySem.Spec PyProof.Rows L2
inductive Bnd {α β:Type} (x:Option (α×BT.HH)) (k:α->BT.HH->Option β) (r:β):Prop where
 | mk (a:α) (g:BT.HH) (h1:x=some (a,g)) (h2:k a g=some r):Bnd x k r
inductive Ji {α β:Type} (x:Option α) (f:α->β) (r:β):Prop where
 | mk (a:α) (h1:x=some a) (h2:f a=r):Ji x f r
inductive Bind (o:BT.Bin) (x y:BT.W) (h:BT.HH) (z:BT.W) (h':BT.HH):Prop where
 | mk (d d' q:BT.D) (h1:BT.rd x h=some d) (h2:BT.rd y h=some d') (h3:BT.fJ o d d'=some q) (h4:z=.p q) (h5:h'=h):Bind o x y h z h'
theorem cU {α β:Type}{x:Option (α×BT.HH)}{k:α->BT.HH->Option β}{r:β} (h:BT.bnd x k=some r):Bnd x k r:=by
 cases x with
 | none=>exact cR h
 | some q=>exact ⟨q.1,q.2,rfl,h⟩
theorem c6 {α β:Type}{x:Option α}{f:α->β}{r:β} (h:x.map f=some r):Ji x f r:=by
 cases x with
 | none=>exact cR h
 | some a=>exact ⟨a,rfl,NO h⟩
noncomputable def Post (P:NT) (w:N7) (K:Nz) (m:List NL) (H:Hp) (z:BT.W) (h':BT.HH) (Q:VK):Prop :=
 ∀ v H' m',Ext m H m' H'->RH K m' H' h'->RW P w K m' H' v z->Q v H'
inductive rOp (P:NT) (w:N7) (K:Nz) (f:BT.W->BT.W->BT.HH->Option (BT.W×BT.HH)) (v u:V) (H:Hp) (Q:VK):Prop where
 | mk (m:List NL) (h:BT.HH) (x y z:BT.W) (h':BT.HH) (R:RH K m H h) (rx:RW P w K m H v x) (ry:RW P w K m H u y) (e:f x y h=some (z,h')) (p:Post P w K m H z h' Q):rOp P w K f v u H Q
theorem jk {o:BT.Bin}{x y:BT.W}{h:BT.HH}{z:BT.W}{h':BT.HH} (e:BT.nh o x y h=some (z,h')):Bind o x y h z h':=by
 unfold BT.nh at e
 cases e1:BT.rd x h with
 | none=>rw[e1] at e;exact cR e
 | some d =>
  cases e2:BT.rd y h with
  | none=>rw[e1,e2] at e;exact cR e
  | some d' =>
   rw[e1,e2] at e
   obtain ⟨q,eq,er⟩:=c6 e
   cases er
   exact ⟨d,d',q,e1,e2,eq,rfl,rfl⟩
section
variable {X:Cx}
theorem fE:BT.lim<=sizeLine:=by decide
inductive Jj (s:ND) (a:NL) (xs:List V):Prop where
 | mk (z:xs.length<=sizeLine) (its:List Value) (n:Nat) (r:cZ xs its) (l:xs.length=its.length) (e:s.heap.get? a=some { cls:=.type "list",data:=.seq its.toArray n }):Jj s a xs
theorem rdL (I:Inv X pins σ H s) (r:LL X.K H a xs):Jj s a xs:=by
 rcases r with r | ⟨its,n,h1,h2,h3⟩
 ·obtain ⟨z,its,n,r,e⟩:=r.ok I.hok
  exact ⟨z,its,n,r,r.length,e⟩
 ·exact ⟨by rw[h3.length];exact h2,its,n,h3,h3.length,I.kIn a _ h1⟩
theorem yh (I:Inv X pins σ H s) (ha:LL X.K H a xs) (hb:LL X.K H b ys) (hz:xs.length+ys.length<=sizeLine)
 (q:∀ p,H p=none->Q (.ref p) (upd H p (.lst (xs++ys)))):wpAny (N5 X.prog X.w) X.A (OW .Add (.ref a) (.ref b)) (EP X pins σ Q) X.xe s:=by
 obtain ⟨z,its,n,r,hl,e⟩:=rdL I ha
 obtain ⟨z2,its2,n2,r2,hl2,e2⟩:=rdL I hb
 refine PySem.P.add_list e e2 ?_ (by rw[NF,NF];lia)
 have ea:its.toArray++its2.toArray=(its++its2).toArray:=by simp
 rw[ea]
 exact ⟨.ref _,_,I.HS (t':=s.toks) (r.append r2) (by rw[NW];lia),rfl,q _ I.fresh⟩
theorem vJ (I:Inv X pins σ H s) (ha:SqT X.K H a xs) (hb:SqT X.K H b ys) (hz:xs.length+ys.length<=sizeLine)
 (q0:xs=[]->Q (.ref b) H) (q1:ys=[]->Q (.ref a) H) (q:∀ p,H p=none->Q (.ref p) (upd H p (.tup (xs++ys)))):wpAny (N5 X.prog X.w) X.A (OW .Add (.ref a) (.ref b)) (EP X pins σ Q) X.xe s:=by
 by_cases c:xs=[]
 ·obtain ⟨its,r1,p1,_⟩:=I.tuple ha
  obtain ⟨its2,r2,p2,_⟩:=I.tuple hb
  obtain ⟨⟨cls,dd,data,sl⟩,ho,hc,n,hd⟩:=id p1
  obtain ⟨⟨cls2,dd2,data2,sl2⟩,ho2,hc2,n2,hd2⟩:=id p2
  simp only at hc hd hc2 hd2
  subst hc hd hc2 hd2
  have z:its=[]:=r1.jP.mpr c
  exact concat_meets ⟨_,ho,rfl⟩ ⟨_,ho2,rfl⟩ SK Ud QD QA (Qt _ _)
   (tuple_addW0 a b its.toArray its2.toArray n n2 dd dd2 sl sl2 (by simp[z])) ⟨ho,ho2,⟨.ref b,H,I,rfl,q0 c⟩⟩
 ·exact AS pins s σ H (.ref a) (.ref b) _ _ Q I rfl rfl ⟨a,b,xs,ys,rfl,rfl,ha,hb,c,hz,q1,fun _=>q⟩
theorem jl (R:RH X.K m H h) (hp:H p=none) (r:RDs X.K m H vs ds) (post:Post X.prog X.w X.K m H (.p (.tup ds)) h Q):Q (.ref p) (upd H p (.tup vs)) :=
 post _ _ m (gx hp) (R.new hp) (.p (.tup (.inl ⟨.inl dU,R.iO hp⟩) (r.ext (gx hp))))
theorem jm (R:RH X.K m H h) (hp:H p=none) (r:RDs X.K m H vs ds) (post:Post X.prog X.w X.K m H (.p (.lst ds)) h Q):Q (.ref p) (upd H p (.lst vs)) :=
 post _ _ m (gx hp) (R.new hp) (.p (.lst (.inl ⟨.inl dU,R.iO hp⟩) (r.ext (gx hp))))
theorem tR (R:RH X.K m H h) (hp:H p=none) (r:RDs X.K m H vs ds) (post:Post X.prog X.w X.K m H (.r h.length) (h++[.l ds]) Q):Q (.ref p) (upd H p (.lst vs)) :=
 post _ _ (m++[p]) (jW hp) (R.Mt hp r) (.r (by rw[← R.len];simp))
theorem oS (R:RH X.K m H h) (hp:H p=none) (r:RDs X.K m H vs ds) (post:Post X.prog X.w X.K m H (BT.new mu ds h).1 (BT.new mu ds h).2 Q):Q (.ref p) (upd H p (.lst vs)):=by
 cases mu with
 | false=>exact jm R hp r post
 | true=>exact tR R hp r post
theorem Post.here (R:RH X.K m H h) (post:Post X.prog X.w X.K m H (.p d) h Q) (r:RD X.K m H v d):Q v H:=post v H m (.refl _ _) R (.p r)
theorem oU (hx:PyData.strOk x=true) (hy:PyData.strOk y=true):PyData.strOk (x++y)=true:=by
 show (x.cps++y.cps).all _=true
 rw[RL]
 simp only[PyData.strOk] at hx hy
 rw[hx,hy];rfl
theorem E4:OpR X (OW .Add) (rOp X.prog X.w X.K (BT.nh .add)):=by
 intro pins s σ H v u v' u' Q I rv ru h
 obtain ⟨m,h,x,y,z,h',R,rx,ry,e,post⟩:=h
 obtain ⟨d,d',q,e1,e2,e3,rfl,rfl⟩:=jk e
 have r1:=dQ R rx e1
 have r2:=dQ R ry e2
 cases d<;>cases d'<;>first | exact cR e3 | simp only[BT.qu,BT.lY,BT.dz,BT.fK,BT.lZ,BT.qv,BT.fL,BT.mh,BT.iW,BT.kB,BT.gI] at e3
 ·cases e3
  cases r1.int;cases r2.int
  exact D8 pins s σ H _ _ _ _ Q I rv ru ⟨_,_,rfl,rfl,post.here R (.int _)⟩
 ·obtain ⟨c,e3⟩:=dh e3
  cases e3
  obtain ⟨ev,ov⟩:=r1.str
  obtain ⟨eu,ou⟩:=r2.str
  subst ev;subst eu
  have:=fE
  exact rJ pins s σ H _ _ _ _ Q I rv ru ⟨_,_,rfl,rfl,by lia,post.here R (.str _ (oU ov ou))⟩
 ·obtain ⟨c,e3⟩:=dh e3
  cases e3
  obtain ⟨a,vs,rfl,ha,ra⟩:=r1.tup
  obtain ⟨b,us,rfl,hb,rb⟩:=r2.tup
  cases rv;cases ru
  have l1:=ra.length
  have l2:=rb.length
  have:=fE
  refine vJ I ha hb (by lia) (fun z=>?_) (fun z=>?_) fun p hp=>jl R hp (ra.append rb) post
  ·subst z;cases ra
   cases r2 with | d r=>exact post.here R r
  ·subst z;cases rb
   rw[Pj] at post
   cases r1 with | d r=>exact post.here R r
 ·obtain ⟨c,e3⟩:=dh e3
  cases e3
  obtain ⟨a,vs,rfl,ha,ra⟩:=r1.lst
  obtain ⟨b,us,rfl,hb,rb⟩:=r2.lst
  cases rv;cases ru
  have l1:=ra.length
  have l2:=rb.length
  have:=fE
  exact yh I ha hb (by lia) fun p hp=>jm R hp (ra.append rb) post
noncomputable def Mu:BT.Bin->Bool
 | .add=>false
 | .mul=>false
 | _=>true
theorem lD {o:BT.Bin}{d d' z:BT.D} (ho:Mu o=true) (e:BT.fJ o d d'=some z):∃ i j,d=.int i/\d'=.int j:=by
 cases o<;>first | exact BT.dG ho | (cases d<;>first | exact cR e | (cases d'<;>first | exact cR e | exact ⟨_,_,rfl,rfl⟩))
theorem E5:OpR X (OW .Sub) (rOp X.prog X.w X.K (BT.nh .sub)):=by
 intro pins s σ H v u v' u' Q I rv ru h
 obtain ⟨m,h,x,y,z,h',R,rx,ry,e,post⟩:=h
 obtain ⟨d,d',q,e1,e2,e3,rfl,rfl⟩:=jk e
 obtain ⟨i,j,rfl,rfl⟩:=lD rfl e3
 rw[BT.lZ] at e3
 cases e3
 cases (dQ R rx e1).int;cases (dQ R ry e2).int
 exact D9 pins s σ H _ _ _ _ Q I rv ru ⟨_,_,rfl,rfl,post.here R (.int _)⟩
theorem E6:OpR X (OW .Mod) (rOp X.prog X.w X.K (BT.nh .mod)):=by
 intro pins s σ H v u v' u' Q I rv ru h
 obtain ⟨m,h,x,y,z,h',R,rx,ry,e,post⟩:=h
 obtain ⟨d,d',q,e1,e2,e3,rfl,rfl⟩:=jk e
 obtain ⟨i,j,rfl,rfl⟩:=lD rfl e3
 rw[BT.iW] at e3
 obtain ⟨c,e3⟩:=dh e3
 cases e3
 cases (dQ R rx e1).int;cases (dQ R ry e2).int
 exact Ec pins s σ H _ _ _ _ Q I rv ru ⟨_,_,rfl,rfl,c,post.here R (.int _)⟩
theorem Bk:OpR X (OW .FloorDiv) (rOp X.prog X.w X.K (BT.nh .fdiv)):=by
 intro pins s σ H v u v' u' Q I rv ru h
 obtain ⟨m,h,x,y,z,h',R,rx,ry,e,post⟩:=h
 obtain ⟨d,d',q,e1,e2,e3,rfl,rfl⟩:=jk e
 obtain ⟨i,j,rfl,rfl⟩:=lD rfl e3
 rw[BT.kB] at e3
 obtain ⟨c,e3⟩:=dh e3
 simp only[NG,decide_eq_true_eq] at c
 cases e3
 cases (dQ R rx e1).int;cases (dQ R ry e2).int
 exact AF pins s σ H _ _ _ _ Q I rv ru ⟨_,_,rfl,rfl,⟨c.1,c.2⟩,post.here R (.int _)⟩
theorem oV (h:BT.big i=true):-(2 ^ 64) < i/\i < 2 ^ 64:=by
 unfold BT.big at h
 have:=of_decide_eq_true h
 lia
theorem E7:OpR X (OW .Pow) (rOp X.prog X.w X.K (BT.nh .pow)):=by
 intro pins s σ H v u v' u' Q I rv ru h
 obtain ⟨m,h,x,y,z,h',R,rx,ry,e,post⟩:=h
 obtain ⟨d,d',q,e1,e2,e3,rfl,rfl⟩:=jk e
 obtain ⟨i,j,rfl,rfl⟩:=lD rfl e3
 rw[BT.gI] at e3
 obtain ⟨c,e3⟩:=dh e3
 simp only[NG,decide_eq_true_eq] at c
 cases e3
 cases (dQ R rx e1).int;cases (dQ R ry e2).int
 refine Ed pins s σ H _ _ _ _ Q I rv ru ⟨_,_,rfl,rfl,⟨c.1.1,by lia,?_⟩,post.here R (.int _)⟩
 exact of_decide_eq_true c.2
theorem vK (I:Inv X pins σ H s) (ha:SqT X.K H a xs) (h1:2<=k) (h2:k<=1000) (hne:xs≠[]) (hz:xs.length*k.toNat<=sizeLine)
 (q:∀ p,H p=none->Q (.ref p) (upd H p (.tup (NX k.toNat xs).flatten))):wpAny (N5 X.prog X.w) X.A (OW .Mult (.ref a) (.int k t)) (EP X pins σ Q) X.xe s:=by
 obtain ⟨its,r,p,_⟩:=I.tuple ha
 obtain ⟨⟨cls,dd,data,sl⟩,e,hc,n,hd⟩:=id p
 simp only at hc hd
 subst hc hd
 have hl:=r.length
 have hlen:its.toArray.size*k.toNat<=sizeLine:=by rw[NF,← hl];exact hz
 have f0:SR (fun x1 x2=>x1++x2) #[] (NX k.toNat its.toArray)=(NX k.toNat its).flatten.toArray:=by
  have:=foldl_rep its k.toNat []
  rw[Sa] at this
  exact this
 have hi:¬ its.toArray.isEmpty=true:=by
  intro z
  have z2:its=[]:=by simpa using z
  exact hne (r.jP.mp z2)
 refine TN (T:="tuple") (U:="int") (by decide) ⟨_,e,rfl⟩ (fun s'=>typeIs_int s' k t) kD F.fills_int_mul F.slot_int_rmul oR F.slot_int_index.lookup
  (O3 F.slot_int_rmul (typeIs_int s k t) F.entry_int_rmul (F.args_int_rmul_2 _ _) (mC k t a its.toArray n dd sl)
   ⟨e,rfl,⟨_,e,rfl⟩,O3 F.slot_tuple_mul ⟨_,e,rfl⟩ F.entry_tuple_mul (F.args_tuple_mul_2 _ _) (sd a its.toArray n dd sl k t (by lia) h2 hi (by lia) (by lia) hlen) ⟨e,?_⟩⟩)
 rw[f0]
 have hf:H s.heap.objs.size=none:=I.hok.fresh (NI _)
 refine ⟨.ref s.heap.objs.size,_,I.laid (t':=s.toks) (o:=.tup (NX k.toNat xs).flatten) (fun b ob q=>NC _ q) (NI _) ?_,rfl,q _ hf⟩
 exact ⟨by rw[len_rep,TU];exact hz,_,r.rep k.toNat,IsTup.new _ _⟩
theorem yi (I:Inv X pins σ H s) (hH:LL X.K H l xs) (h1:-(2 ^ 63)<=k) (h2:k<=1000) (hz:xs.length*k.toNat<=sizeLine)
 (q:∀ p,H p=none->Q (.ref p) (upd H p (.lst (NX k.toNat xs).flatten))):wpAny (N5 X.prog X.w) X.A (OW .Mult (.ref l) (.int k t)) (EP X pins σ Q) X.xe s:=by
 have h2':k < 2 ^ 63:=by lia
 obtain ⟨z,its,n,r,hl,e⟩:=rdL I hH
 have hlen:its.toArray.size*k.toNat<=sizeLine:=by rw[NF,← hl];exact hz
 have hcap:¬ its.toArray.size*k.toNat > (2 ^ 63 - 1) / 8:=by
  have:(sizeLine:Nat)<=(2 ^ 63 - 1) / 8:=by decide
  lia
 have hfit:¬ (!Builtin.List.listFitsIndex k)=true:=by
  rw[fitsIndex_both h1 h2']
  exact N8
 have hlong:¬ OH (its.toArray.size*k.toNat)=true:=by
  rw[lT hlen]
  exact N8
 have hnew:SR (fun x1 x2=>x1++x2) #[] (NX (if its.toArray.isEmpty=true then 0 else k.toNat) its.toArray)=(NX k.toNat its).flatten.toArray:=by
  have f0:∀ m:Nat,SR (fun x1 x2=>x1++x2) #[] (NX m its.toArray)=(NX m its).flatten.toArray:=fun m=>by
   have:=foldl_rep its m []
   rw[Sa] at this
   exact this
  rw[f0]
  cases its with
  | nil=>simp
  | cons a r'=>rw[if_neg (by simp)]
 refine TN (T:="list") (U:="int") (by decide) ⟨_,e,rfl⟩ (fun s'=>typeIs_int s' k t) noFill_list_mul F.fills_int_mul F.slot_int_rmul repeat_list F.slot_int_index.lookup
  (O3 F.slot_int_rmul (typeIs_int s k t) F.entry_int_rmul (F.args_int_rmul_2 _ _) (int___rmul___int_list k t l its.toArray n)
   ⟨e,rfl,⟨_,e,rfl⟩,O3 F.slot_list_mul ⟨_,e,rfl⟩ F.entry_list_mul (F.args_list_mul_2 _ _) (AutoListH.list___mul___list_int_3 l its.toArray n k t hfit hcap hlong) ⟨e,?_⟩⟩)
 rw[hnew]
 exact ⟨.ref _,_,I.HS (t':=s.toks) (r.rep k.toNat) (by rw[len_rep,TU];exact hz),rfl,q _ I.fresh⟩
theorem E8:OpR X (OW .Mult) (rOp X.prog X.w X.K (BT.nh .mul)):=by
 intro pins s σ H v u v' u' Q I rv ru h
 obtain ⟨m,h,x,y,z,h',R,rx,ry,e,post⟩:=h
 obtain ⟨d,d',q,e1,e2,e3,rfl,rfl⟩:=jk e
 have r1:=dQ R rx e1
 have r2:=dQ R ry e2
 cases d<;>cases d'<;>first | exact cR e3 | simp only[BT.qu,BT.lY,BT.dz,BT.fK,BT.lZ,BT.qv,BT.fL,BT.mh,BT.iW,BT.kB,BT.gI] at e3
 ·obtain ⟨c,e3⟩:=dh e3
  cases e3
  cases r1.int;cases r2.int
  refine Eb pins s σ H _ _ _ _ Q I rv ru ⟨_,_,rfl,rfl,?_,post.here R (.int _)⟩
  rcases Pk _ _ ▸ c with c | c
  ·exact .inl (oV c)
  ·exact .inr (oV c)
 ·obtain ⟨c,e3⟩:=dh e3
  simp only[NG,decide_eq_true_eq] at c
  cases e3
  obtain ⟨a,vs,rfl,ha,ra⟩:=r1.tup
  cases r2.int
  obtain ⟨t,rfl⟩:=ru
  cases rv
  have l1:=ra.length
  have:=fE
  simp only[P5,List.isEmpty_eq_false_iff] at c
  refine vK I ha (by lia) (by lia) (fun z=>?_) (by rw[l1];lia) fun p hp=>jl R hp (ra.rep _) post
  subst z
  cases ra
  exact c.1.2 rfl
 ·obtain ⟨c,e3⟩:=dh e3
  simp only[NG,decide_eq_true_eq] at c
  cases e3
  obtain ⟨a,vs,rfl,ha,ra⟩:=r1.lst
  cases r2.int
  obtain ⟨t,rfl⟩:=ru
  cases rv
  have l1:=ra.length
  have:=fE
  refine yi I ha (by lia) (by lia) (by rw[l1];lia) fun p hp=>jm R hp (ra.rep _) post
end
mutual
noncomputable def pd:BT.D->PyData
 | .non=>.none
 | .bl b=>.bool b
 | .int i=>.int i
 | .str x=>.str x
 | .tup xs=>.tuple (pds xs)
 | .lst xs=>.list (pds xs)
noncomputable def pds:List BT.D->List PyData
 | []=>[]
 | x :: r=>pd x :: pds r
end
mutual
theorem mD:∀ x y:BT.D,PyData.eqv (pd x) (pd y)=BT.eqv x y
 | .non,.non=>rfl
 | .non,.bl _=>rfl
 | .non,.int _=>rfl
 | .non,.str _=>rfl
 | .non,.tup _=>by simp[pd,PyData.eqv,BT.eqv]
 | .non,.lst _=>by simp[pd,PyData.eqv,BT.eqv]
 | .bl _,.non=>rfl
 | .bl _,.bl _=>rfl
 | .bl _,.int _=>rfl
 | .bl _,.str _=>rfl
 | .bl _,.tup _=>by simp[pd,PyData.eqv,BT.eqv]
 | .bl _,.lst _=>by simp[pd,PyData.eqv,BT.eqv]
 | .int _,.non=>rfl
 | .int _,.bl _=>rfl
 | .int _,.int _=>rfl
 | .int _,.str _=>rfl
 | .int _,.tup _=>by simp[pd,PyData.eqv,BT.eqv]
 | .int _,.lst _=>by simp[pd,PyData.eqv,BT.eqv]
 | .str _,.non=>rfl
 | .str _,.bl _=>rfl
 | .str _,.int _=>rfl
 | .str _,.str _=>rfl
 | .str _,.tup _=>by simp[pd,PyData.eqv,BT.eqv]
 | .str _,.lst _=>by simp[pd,PyData.eqv,BT.eqv]
 | .tup _,.non=>by simp[pd,PyData.eqv,BT.eqv]
 | .tup _,.bl _=>by simp[pd,PyData.eqv,BT.eqv]
 | .tup _,.int _=>by simp[pd,PyData.eqv,BT.eqv]
 | .tup _,.str _=>by simp[pd,PyData.eqv,BT.eqv]
 | .tup xs,.tup ys=>by simp only[pd,PyData.eqv,BT.eqv];exact oW xs ys
 | .tup _,.lst _=>by simp[pd,PyData.eqv,BT.eqv]
 | .lst _,.non=>by simp[pd,PyData.eqv,BT.eqv]
 | .lst _,.bl _=>by simp[pd,PyData.eqv,BT.eqv]
 | .lst _,.int _=>by simp[pd,PyData.eqv,BT.eqv]
 | .lst _,.str _=>by simp[pd,PyData.eqv,BT.eqv]
 | .lst _,.tup _=>by simp[pd,PyData.eqv,BT.eqv]
 | .lst xs,.lst ys=>by simp only[pd,PyData.eqv,BT.eqv];exact oW xs ys
theorem oW:∀ xs ys:List BT.D,PyData.eqvAll (pds xs) (pds ys)=BT.m7 xs ys
 | [],[]=>by simp[pds,PyData.eqvAll,BT.m7]
 | [],_ :: _=>by simp[pds,PyData.eqvAll,BT.m7]
 | _ :: _,[]=>by simp[pds,PyData.eqvAll,BT.m7]
 | x :: xs,y :: ys=>by simp only[pds,PyData.eqvAll,BT.m7];rw[mD x y,oW xs ys]
end
theorem i6:∀ {xs:List BT.D},(∀ x∈xs,(pd x).depth<=n)->PyData.depthAll (pds xs)<=n
 | [],_=>by simp[pds,PyData.depthAll]
 | x :: xs,h=>by
  simp only[pds,PyData.depthAll]
  exact Nat.max_le.mpr ⟨h x NV,i6 fun y hy=>h y (NP _ hy)⟩
theorem jn:∀ (n:Nat) (d:BT.D),BT.dok n d=true->(pd d).depth<=n
 | n,.non,_=>by simp[pd,PyData.depth]
 | n,.bl _,_=>by simp[pd,PyData.depth]
 | n,.int _,_=>by simp[pd,PyData.depth]
 | n,.str _,_=>by simp[pd,PyData.depth]
 | 0,.tup _,h=>by simp[BT.dok] at h
 | 0,.lst _,h=>by simp[BT.dok] at h
 | n+1,.tup xs,h=>by
  simp only[pd,PyData.depth]
  rw[BT.A0,Oz] at h
  exact Nat.succ_le_succ (i6 fun x hx=>jn n x (h x hx))
 | n+1,.lst xs,h=>by
  simp only[pd,PyData.depth]
  rw[BT.A6,Oz] at h
  exact Nat.succ_le_succ (i6 fun x hx=>jn n x (h x hx))
section
variable {K:Nz}
mutual
theorem gi:∀ {v:V}{d:BT.D},RD K m H v d->(pd d).canLay0=true
 | _,_,.non=>rfl
 | _,_,.bl _=>rfl
 | _,_,.int _=>rfl
 | _,_,.str _ h=>by simpa [pd,PyData.canLay0] using h
 | _,_,.tup _ r=>by simp only[pd,PyData.canLay0];exact iA r
 | _,_,.lst _ r=>by simp only[pd,PyData.canLay0];exact iA r
theorem iA:∀ {vs:List V}{ds:List BT.D},RDs K m H vs ds->PyData.canLayAll0 (pds ds)=true
 | _,_,.nil=>by simp[pds,PyData.canLayAll0]
 | _,_,.cons r t=>by simp only[pds,PyData.canLayAll0];rw[gi r,iA t];rfl
end
mutual
theorem i7 (I:Inv X pins σ H s):∀ {v:V}{d:BT.D}{u:Value},RD X.K m H v d->RelV v u->∃ as,Reads s.heap u (pd d) as
 | _,_,_,.non,r=>by cases r;exact ⟨_,.none⟩
 | _,_,_,.bl b,r=>by cases r;exact ⟨_,.bool b⟩
 | _,_,_,.int i,r=>by obtain ⟨t,rfl⟩:=r;exact ⟨_,.int i t⟩
 | _,_,_,.str x _,r=>by obtain ⟨t,rfl⟩:=r;exact ⟨_,.str x t⟩
 | _,_,_,.tup h r,q=>by
  cases q
  obtain ⟨its,r1,⟨o,e1,e2,n,e3⟩,_⟩:=I.tuple (h.elim (fun q=>.inl q.1) (fun ⟨o,its,n,q,_⟩=>.inr ⟨o,its,n,q⟩))
  obtain ⟨as,ra⟩:=jo I r r1
  exact ⟨_,.tuple e1 e2 e3 (by simpa using ra)⟩
 | _,_,_,.lst h r,q=>by
  cases q
  obtain ⟨z,its,n,r1,_,e⟩:=rdL I (h.elim (fun q=>.inl q.1) .inr)
  obtain ⟨as,ra⟩:=jo I r r1
  exact ⟨_,.list e rfl rfl (by simpa using ra)⟩
theorem jo (I:Inv X pins σ H s):∀ {vs:List V}{ds:List BT.D}{us:List Value},RDs X.K m H vs ds->cZ vs us->∃ as,ReadsAll s.heap us (pds ds) as
 | _,_,_,.nil,q=>by cases q;exact ⟨_,.nil⟩
 | _,_,_,.cons r t,q=>by
  cases q with
  | cons q1 q2 =>
   obtain ⟨as,ra⟩:=i7 I r q1
   obtain ⟨bs,rb⟩:=jo I t q2
   exact ⟨_,.cons ra rb⟩
end
theorem i8 (I:Inv X pins σ H s) (r:RR X.K m H v d) (q:RelV v u):∃ as,Reads s.heap u (pd d) as:=by
 cases r with
 | d r=>exact i7 I r q
 | l h r =>
  cases q
  obtain ⟨z,its,n,r1,_,e⟩:=rdL I (.inl (.inl h))
  obtain ⟨as,ra⟩:=jo I r r1
  exact ⟨_,.list e rfl rfl (by simpa using ra)⟩
theorem gQ (r:RR K m H v d):(pd d).canLay0=true:=by
 cases r with
 | d r=>exact gi r
 | l h r=>simp only[pd,PyData.canLay0];exact iA r
theorem oX (h:BT.d8 x y=true):min (pd x).depth (pd y).depth<=100:=by
 unfold BT.d8 at h
 rcases Pk _ _ ▸ h with h | h
 ·have:=jn 100 x h;lia
 ·have:=jn 100 y h;lia
theorem iB (e:BT.jC o x y h=some (z,h')) :
 (∃ kvs b,y=.k kvs/\BT.inK o x kvs=some b/\z=.p (.bl b)/\h'=h)\/∃ d d' b,BT.rd x h=some d/\BT.rd y h=some d'/\BT.eZ o d d'=some b/\z=.p (.bl b)/\h'=h:=by
 unfold BT.jC at e
 split at e
 ·rename_i kvs
  obtain ⟨b,e1,e2⟩:=c6 e
  cases e2
  exact .inl ⟨kvs,b,rfl,e1,rfl,rfl⟩
 ·refine .inr ?_
  cases e1:BT.rd x h with
  | none=>rw[e1] at e;exact cR e
  | some d =>
   cases e2:BT.rd y h with
   | none=>rw[e1,e2] at e;exact cR e
   | some d' =>
    rw[e1,e2] at e
    obtain ⟨q,eq,er⟩:=c6 e
    cases er
    exact ⟨d,d',q,rfl,rfl,eq,rfl,rfl⟩
theorem Jk (hu:X.A.units+150 < cLine):OpR X (Oq .Eq) (rOp X.prog X.w X.K (BT.jC .eq)):=by
 intro pins s σ H v u v' u' Q I rv ru h
 obtain ⟨m,h,x,y,z,h',R,rx,ry,e,post⟩:=h
 rcases iB e with ⟨kvs,b,rfl,e1,_,_⟩ | ⟨d,d',b,e1,e2,e3,rfl,rfl⟩
 ·exact absurd e1 (BT.mj rfl)
 ·have r1:=dQ R rx e1
  have r2:=dQ R ry e2
  rw[BT.fX] at e3
  obtain ⟨c,e3⟩:=dh e3
  cases e3
  obtain ⟨as,ra⟩:=i8 I r1 rv
  obtain ⟨bs,rb⟩:=i8 I r2 ru
  have:=oX c
  refine SeqAt.compareEq_reads ra rb (gQ r1) (gQ r2) (by lia) ?_
  rw[mD]
  exact ⟨.bl _,H,I,rfl,post.here R (.bl _)⟩
theorem Jl (hu:X.A.units+150 < cLine):OpR X (Oq .NotEq) (rOp X.prog X.w X.K (BT.jC .ne)):=by
 intro pins s σ H v u v' u' Q I rv ru h
 obtain ⟨m,h,x,y,z,h',R,rx,ry,e,post⟩:=h
 rcases iB e with ⟨kvs,b,rfl,e1,_,_⟩ | ⟨d,d',b,e1,e2,e3,rfl,rfl⟩
 ·exact absurd e1 (BT.mj rfl)
 ·have r1:=dQ R rx e1
  have r2:=dQ R ry e2
  rw[BT.eS] at e3
  obtain ⟨c,e3⟩:=dh e3
  cases e3
  obtain ⟨as,ra⟩:=i8 I r1 rv
  obtain ⟨bs,rb⟩:=i8 I r2 ru
  have:=oX c
  refine SeqAt.compareNe_reads ra rb (gQ r1) (gQ r2) (by lia) ?_
  rw[mD]
  exact ⟨.bl _,H,I,rfl,post.here R (.bl _)⟩
noncomputable def Jm:BT.Cm->Bool
 | .lt=>true
 | .le=>true
 | .gt=>true
 | .ge=>true
 | _=>false
theorem Bl {o:BT.Cm}{d d':BT.D}{b:Bool} (ho:Jm o=true) (e:BT.eZ o d d'=some b):∃ i j,d=.int i/\d'=.int j:=by
 cases o<;>first | exact BT.dG ho | (cases d<;>first | exact cR e | (cases d'<;>first | exact cR e | exact ⟨_,_,rfl,rfl⟩))
theorem oY {o:BT.Cm}{c:CmpOp}{f:Int->Int->Bool} (op:OpR X (Oq c) (rI0 fun i j=>.bl (f i j))) (ho:Jm o=true) (hm:BT.memC o=false) (hf:∀ i j,BT.eZ o (.int i) (.int j)=some (f i j)):OpR X (Oq c) (rOp X.prog X.w X.K (BT.jC o)):=by
 intro pins s σ H v u v' u' Q I rv ru h
 obtain ⟨m,h,x,y,z,h',R,rx,ry,e,post⟩:=h
 rcases iB e with ⟨kvs,b,rfl,e1,_,_⟩ | ⟨d,d',b,e1,e2,e3,rfl,rfl⟩
 ·exact absurd e1 (BT.mj hm)
 ·obtain ⟨i,j,rfl,rfl⟩:=Bl ho e3
  rw[hf] at e3
  cases e3
  cases (dQ R rx e1).int;cases (dQ R ry e2).int
  exact op pins s σ H _ _ _ _ Q I rv ru ⟨_,_,rfl,rfl,post.here R (.bl _)⟩
theorem tS (r:RR K m H v d):decide (v=.non)=BT.iU d:=by
 cases r with
 | d r=>cases r<;>rfl
 | l h r=>rfl
theorem Bm {v:V}{d:BT.D}{u:Value}{b:Bool} (r:RR K m H v d) (rv:RelV v u):isSame u (.bool b)=pure (BT.oH b d):=by
 cases r with
 | d r=>cases r<;>first | (cases rv;cases b<;>first | rfl | (rename_i c;cases c<;>rfl)) | (obtain ⟨t,rfl⟩:=rv;cases b<;>rfl)
 | l h r=>cases rv;rfl
theorem E9:OpR X (Oq .Is) (rOp X.prog X.w X.K (BT.jC .isN)):=by
 intro pins s σ H v u v' u' Q I rv ru h
 obtain ⟨m,h,x,y,z,h',R,rx,ry,e,post⟩:=h
 rcases iB e with ⟨kvs,b,rfl,e1,_,_⟩ | ⟨d,d',b,e1,e2,e3,rfl,rfl⟩
 ·exact absurd e1 (BT.mj rfl)
 ·have r1:=dQ R rx e1
  have r2:=dQ R ry e2
  cases d'<;>first | exact cR e3 | simp only[BT.lu,BT.ly,BT.lA,BT.lB,BT.jU,BT.jh,BT.cV,BT.iw,BT.dM,BT.gr] at e3
  cases e3
  cases r2.non
  refine Ef pins s σ H _ _ _ _ Q I rv ru ⟨rfl,?_⟩
  rw[tS r1]
  exact post.here R (.bl _)
theorem Bo:OpR X (Oq .IsNot) (rOp X.prog X.w X.K (BT.jC .notN)):=by
 intro pins s σ H v u v' u' Q I rv ru h
 obtain ⟨m,h,x,y,z,h',R,rx,ry,e,post⟩:=h
 rcases iB e with ⟨kvs,b,rfl,e1,_,_⟩ | ⟨d,d',b,e1,e2,e3,rfl,rfl⟩
 ·exact absurd e1 (BT.mj rfl)
 ·have r1:=dQ R rx e1
  have r2:=dQ R ry e2
  cases d'<;>first | exact cR e3 | simp only[BT.lu,BT.ly,BT.lA,BT.lB,BT.jU,BT.jh,BT.vG,BT.cV,BT.iw,BT.dM,BT.gr] at e3
  ·cases e3
   cases r2.non
   refine AG pins s σ H _ _ _ _ Q I rv ru ⟨rfl,?_⟩
   rw[tS r1]
   exact post.here R (.bl _)
  ·cases e3
   cases r2.bl
   cases ru
   exact NB (wpAny_of_eq (Bm r1 rv) (wpAny_pure ⟨.bl _,H,I,rfl,post.here R (.bl _)⟩))
open Classical in
noncomputable def fh (h:Heap) (dx:PyData) (y:Value):Bool:=if q:∃ db as,Reads h y db as/\db.canLay0=true then PyData.eqv (Classical.choose q) dx else false
theorem sj (r:Reads h y db as) (c:db.canLay0=true):fh h dx y=PyData.eqv db dx:=by
 have q:∃ db as,Reads h y db as/\db.canLay0=true:=⟨db,as,r,c⟩
 unfold fh
 rw[dif_pos q]
 obtain ⟨as',r',c'⟩:=Classical.choose_spec q
 rw[SeqAt.Reads.unique _ _ _ _ _ c r r']
theorem jX (I:Inv X pins σ H s):∀ {vs:List V}{ds:List BT.D}{us:List Value},RDs X.K m H vs ds->cZ vs us->us.any (fh s.heap (pd d))=ds.any fun y=>BT.eqv y d
 | _,_,_,.nil,q=>by cases q;rfl
 | _,_,_,.cons r t,q=>by
  cases q with
  | cons q1 q2 =>
   obtain ⟨as,ra⟩:=i7 I r q1
   rw[Qj,Qj,jX I t q2,sj ra (gi r),mD]
theorem gy (hu:X.A.units+150 < cLine) (I:Inv X pins σ H s) (rx:RR X.K m H v d) (rv:RelV v u):∀ {vs:List V}{ds:List BT.D}{us:List Value},RDs X.K m H vs ds->cZ vs us->(ds.all fun y=>BT.d8 y d)=true →
 ∀ y∈us,SeqAt.EqAt X.A.in1 s y u (fh s.heap (pd d) y)
 | _,_,_,.nil,q,_=>by cases q;intro y hy;simp at hy
 | _,_,_,.cons r t,q,c=>by
  cases q with
  | cons q1 q2 =>
   rw[SY,NG] at c
   intro y hy
   rcases List.mem_cons.mp hy with rfl | hy
   ·obtain ⟨as,ra⟩:=i7 I r q1
    obtain ⟨bs,rb⟩:=i8 I rx rv
    rw[sj ra (gi r)]
    have:=oX c.1
    refine SeqAt.eqAt_reads _ _ _ _ _ _ _ _ ra rb (gi r) (gQ rx) ?_
    show X.A.units+1+_ < _
    lia
   ·exact gy hu I rx rv t q2 c.2 y hy
theorem Fb (hu:X.A.units+150 < cLine) (hk:∀ {kvs:BT.Kd}{x:BT.W}{b:Bool}{m:List NL}{H:Hp}{v u:V}{v' u':Value}{pins σ s Q},Inv X pins σ H s->RelV v v'->RelV u u'->RW X.prog X.w X.K m H v x->RW X.prog X.w X.K m H u (.k kvs)->BT.inK .mem x kvs=some b->Q (V.bl b) H →
 wpAny (N5 X.prog X.w) X.A (Oq .In v' u') (EP X pins σ Q) X.xe s):OpR X (Oq .In) (rOp X.prog X.w X.K (BT.jC .mem)):=by
 intro pins s σ H v u v' u' Q I rv ru h
 obtain ⟨m,h,x,y,z,h',R,rx,ry,e,post⟩:=h
 rcases iB e with ⟨kvs,b,rfl,e1,rfl,rfl⟩ | ⟨d,d',b,e1,e2,e3,rfl,rfl⟩
 ·exact hk I rv ru rx ry e1 (post.here R (.bl _))
 ·have r1:=dQ R rx e1
  have r2:=dQ R ry e2
  cases d'<;>first | exact cR e3 | simp only[BT.lu,BT.ly,BT.lA,BT.lB,BT.jU,BT.jh,BT.cV,BT.iw,BT.dM,BT.gr] at e3
  ·obtain ⟨c,e3⟩:=dh e3
   cases e3
   obtain ⟨a,vs,rfl,ha,ra⟩:=r2.tup
   cases ru
   obtain ⟨its,q1,q2,_⟩:=I.tuple ha
   refine SeqAt.in_tupleAt (fh s.heap (pd d)) q2 (fun y hy=>gy hu I r1 rv ra q1 c y (by simpa using hy)) ⟨.bl _,H,I,rfl,?_⟩
   rw[show its.toArray.any (fh s.heap (pd d))=its.any (fh s.heap (pd d)) by simp,jX I ra q1]
   exact post.here R (.bl _)
  ·obtain ⟨c,e3⟩:=dh e3
   cases e3
   obtain ⟨a,vs,rfl,ha,ra⟩:=r2.lst
   cases ru
   obtain ⟨z,its,n,q1,_,q2⟩:=rdL I ha
   refine SeqAt.in_listAt (fh s.heap (pd d)) ⟨_,q2,rfl,_,rfl⟩ (fun y hy=>gy hu I r1 rv ra q1 c y (by simpa using hy)) ⟨.bl _,H,I,rfl,?_⟩
   rw[show its.toArray.any (fh s.heap (pd d))=its.any (fh s.heap (pd d)) by simp,jX I ra q1]
   exact post.here R (.bl _)
theorem Bp (hu:X.A.units+150 < cLine) (hk:∀ {kvs:BT.Kd}{x:BT.W}{b:Bool}{m:List NL}{H:Hp}{v u:V}{v' u':Value}{pins σ s Q},Inv X pins σ H s->RelV v v'->RelV u u'->RW X.prog X.w X.K m H v x->RW X.prog X.w X.K m H u (.k kvs)->BT.inK .nmem x kvs=some b->Q (V.bl b) H →
 wpAny (N5 X.prog X.w) X.A (Oq .NotIn v' u') (EP X pins σ Q) X.xe s):OpR X (Oq .NotIn) (rOp X.prog X.w X.K (BT.jC .nmem)):=by
 intro pins s σ H v u v' u' Q I rv ru h
 obtain ⟨m,h,x,y,z,h',R,rx,ry,e,post⟩:=h
 rcases iB e with ⟨kvs,b,rfl,e1,rfl,rfl⟩ | ⟨d,d',b,e1,e2,e3,rfl,rfl⟩
 ·exact hk I rv ru rx ry e1 (post.here R (.bl _))
 ·have r1:=dQ R rx e1
  have r2:=dQ R ry e2
  cases d'<;>first | exact cR e3 | simp only[BT.lu,BT.ly,BT.lA,BT.lB,BT.jU,BT.jh,BT.cV,BT.iw,BT.dM,BT.gr] at e3
  ·obtain ⟨c,e3⟩:=dh e3
   cases e3
   obtain ⟨a,vs,rfl,ha,ra⟩:=r2.tup
   cases ru
   obtain ⟨its,q1,q2,_⟩:=I.tuple ha
   refine SeqAt.notIn_tupleAt (fh s.heap (pd d)) q2 (fun y hy=>gy hu I r1 rv ra q1 c y (by simpa using hy)) ⟨.bl _,H,I,rfl,?_⟩
   rw[show its.toArray.any (fh s.heap (pd d))=its.any (fh s.heap (pd d)) by simp,jX I ra q1]
   exact post.here R (.bl _)
  ·obtain ⟨c,e3⟩:=dh e3
   cases e3
   obtain ⟨a,vs,rfl,ha,ra⟩:=r2.lst
   cases ru
   obtain ⟨z,its,n,q1,_,q2⟩:=rdL I ha
   refine SeqAt.notIn_listAt (fh s.heap (pd d)) ⟨_,q2,rfl,_,rfl⟩ (fun y hy=>gy hu I r1 rv ra q1 c y (by simpa using hy)) ⟨.bl _,H,I,rfl,?_⟩
   rw[show its.toArray.any (fh s.heap (pd d))=its.any (fh s.heap (pd d)) by simp,jX I ra q1]
   exact post.here R (.bl _)
end
section
variable {P:NT}{w:N7}{K:Nz}{m m':List NL}{H H':Hp}
theorem vL (e:p.1=k):BT.fq (p :: r) k=some p.2:=by simp[BT.fq,P0,e]
theorem vM (e:¬ p.1=k):BT.fq (p :: r) k=BT.fq r k:=by simp[BT.fq,P0,e]
theorem RKs.get (r:RKs K m H vs kvs) (k:Key):(BT.fq kvs k=none/\qi vs k=none)\/∃ v d,BT.fq kvs k=some d/\qi vs k=some v/\RD K m H v d:=by
 induction r with
 | nil=>exact .inl ⟨rfl,rfl⟩
 | @cons j v d vs kvs hk r t ih =>
  by_cases c:j=k
  ·exact .inr ⟨v,d,vL c,qj c,r⟩
  ·rw[vM (p:=(j,d)) c,qk (p:=(j,v)) c];exact ih
theorem yj (r:RD K m H v d) (e:BT.m8 d=some k):v=kV k:=by
 cases r<;>cases e<;>rfl
inductive yk (X:Cx) (m:List NL) (H:Hp) (s:ND) (a:NL) (kvs:List (BT.Ky×BT.D)) (k:Key):Prop where
 | no (vs:List (Key×Value)) (d:s.heap.DictOf (c8 X.prog X.w) a vs) (n:(a==O9)=false) (e1:BT.fq kvs k=none) (e2:valueAt vs k=none):yk X m H s a kvs k
 | is (vs:List (Key×Value)) (d:s.heap.DictOf (c8 X.prog X.w) a vs) (n:(a==O9)=false) (x:BT.D) (v:V) (u:Value) (e1:BT.fq kvs k=some x) (e2:valueAt vs k=some u) (r:RelV v u) (q:RD X.K m H v x):yk X m H s a kvs k
theorem su (I:Inv X pins σ H s) (h:Rd H a (.dK ws)) (rk:RKs X.K m H ws kvs) (k:Key):yk X m H s a kvs k:=by
 obtain ⟨z,hd,vs,rel,dd⟩:=HW I.hok h
 have rv:=rel.val k
 rcases rk.get k with ⟨g1,g2⟩ | ⟨v,d,g1,g2,g3⟩
 ·rw[g2] at rv
  cases e:valueAt vs k with
  | none=>exact .no vs dd hd g1 e
  | some u=>rw[e] at rv;exact rv.elim
 ·rw[g2] at rv
  cases e:valueAt vs k with
  | none=>rw[e] at rv;exact rv.elim
  | some u=>rw[e] at rv;exact .is vs dd hd d v u g1 e rv g3
end
section
variable {prog:NT}{w:N7}{A:Om}{E:Value->ND->Prop}{s:ND}
theorem vN {Q:Int->ND->Prop} (h:Q 4238894112 { s with toks:=s.toks+1 }):wpAny (N5 prog w) A (pyHash .none) Q E s:=by
 show wpAny _ _ (pyHashByItsType .none) _ _ _
 refine PySem.W.pyHash_slot (T:="NoneType") (typeIs_none s) PySem.F.slot_NoneType_hash PySem.F.entry_NoneType_hash (PySem.F.args_NoneType_hash_1 _) (by decide) (.inl rfl) ?_
 show wpAny _ _ (slotArgs "__hash__" 0 ⟨[Pz],[]⟩ >>= fun _=>retInt 4238894112) _ _ _
 rw[slotArgs.eq_1]
 refine NB (wpAny_pure ?_)
 unfold retInt
 refine NB (wpAny_mkInt ?_)
 exact wpAny_pure ⟨_,_,rfl,h⟩
end
noncomputable def yl:Option Key->Value->Bool
 | none,.none=>true
 | none,_=>false
 | some k,v=>iN k v
theorem iC {v:Value} (h:yl none v=true):v=.none:=by
 cases v<;>first | rfl | (exfalso;exact N8 h)
theorem ym (a b:Key):decide (some a=some b)=decide (a=b):=by simp
noncomputable def optKind (prog:NT) (w:N7):PySem.KeyKind prog w (Option Key) where
 is:=yl
 hash:=fun k=>match k with | none=>4238894112 | some k=>G7 w k
 inj:=fun v a b ha hb=>by
  cases a with
  | none =>
   cases iC ha
   cases b with
   | none=>rfl
   | some b=>rcases dw (show iN b .none=true from hb) with ⟨i,t,rfl,e⟩ | ⟨x,t,rfl,e⟩<;>exact nomatch e
  | some a =>
   cases b with
   | none =>
    cases iC hb
    rcases dw (show iN a .none=true from ha) with ⟨i,t,rfl,e⟩ | ⟨x,t,rfl,e⟩<;>exact nomatch e
   | some b=>rw[(c8 prog w).inj v a b ha hb]
 byValue:=fun k v h=>by
  cases k with
  | none=>cases iC h;rfl
  | some k=>exact (c8 prog w).byValue k v h
 pyHash:=fun {A E s k v Q} hv h=>by
  cases k with
  | none=>cases iC hv;exact vN h
  | some k=>exact (c8 prog w).pyHash (k:=k) hv h
 eqBool:=fun {A E s a b u v Q} hu hv h=>by
  cases a with
  | none =>
   cases iC hu
   cases b with
   | none=>cases iC hv;exact SeqAt.EqAt.same _ _ _ _ _ (by simpa using h)
   | some b =>
    have h:Q false s:=by simpa using h
    rcases dw (show iN b v=true from hv) with ⟨i,t,rfl,rfl⟩ | ⟨x,t,rfl,rfl⟩
    ·exact SeqAt.EqAt.none_int i t _ _ _ _ h
    ·exact SeqAt.EqAt.none_str x t _ _ _ _ h
  | some a =>
   cases b with
   | none =>
    cases iC hv
    have h:Q false s:=by simpa using h
    rcases dw (show iN a u=true from hu) with ⟨i,t,rfl,rfl⟩ | ⟨x,t,rfl,rfl⟩
    ·exact SeqAt.EqAt.int_none i t _ _ _ _ h
    ·exact SeqAt.EqAt.str_none x t _ _ _ _ h
   | some b=>rw[ym] at h;exact (c8 prog w).eqBool (a:=a) (b:=b) hu hv h
 «strs»:=fun k x t v h=>by
  cases k with
  | none=>exact nomatch iC h
  | some k=>exact (c8 prog w).strs k x t v h
theorem map_none {prog:NT}{w:N7}{h:Heap}{a:NL}{vs:List (Key×Value)} (dd:h.DictOf (c8 prog w) a vs):∃ f,h.MapOf (optKind prog w) a f/\f none=none:=by
 obtain ⟨o,es,ep,ho,hx,hd,hk,_⟩:=dd
 refine ⟨fun k=>findBy yl es k,⟨o,es,ep,ho,hx,hd,fun e he=>?_,fun k=>rfl⟩,?_⟩
 ·obtain ⟨k,h1,h2⟩:=hk e he
  exact ⟨some k,h1,h2⟩
 ·show (Array.find? (fun e=>yl none e.key) es).map (·.val)=none
  have:Array.find? (fun e=>yl none e.key) es=none:=by
   rw[Array.find?_eq_none]
   intro e he q
   obtain ⟨k,h1,_⟩:=hk e he
   rw[iC q] at h1
   rcases dw (show iN k .none=true from h1) with ⟨i,t,rfl,e⟩ | ⟨x,t,rfl,e⟩<;>exact nomatch e
  rw[this];rfl
section
theorem RDs.atI {K:Nz} (r:RDs K m H vs ds) (e:BT.atP ds i=some d):∃ v,L2.atI vs i=some v/\RD K m H v d:=by
 unfold BT.atP at e
 unfold L2.atI
 obtain ⟨j,h1,h2⟩:=Option.bind_eq_some_iff.mp e
 obtain ⟨v,q1,q2⟩:=r.get h2
 refine ⟨v,?_,q2⟩
 rw[r.length]
 show ((BT.place ds.length i).bind fun j=>vs[j]?)=some v
 rw[h1]
 exact q1
theorem Bq {x y:BT.W}{h:BT.HH}{z:BT.W}{h':BT.HH} (e:BT.A8 x y h=some (z,h')) :
 (∃ kvs k d,x=.k (.t kvs)/\y=.p (.str k)/\BT.ef k kvs=some d/\z=.p d/\h'=h)\/(∃ kvs e k d,x=.k (.l kvs)/\y=.p e/\BT.m8 e=some k/\BT.fq kvs k=some d/\z=.p d/\h'=h)\/∃ d d' b,BT.rd x h=some d/\BT.rd y h=some d'/\BT.fU d d'=some b/\z=.p b/\h'=h:=by
 unfold BT.A8 at e
 split at e
 ·rename_i kvs
  obtain ⟨b,e1,e2⟩:=c6 e
  cases e2
  cases kvs with
  | t kvs =>
   cases y with
   | p d =>
    cases d with
    | str x=>exact .inl ⟨kvs,_,b,rfl,rfl,e1,rfl,rfl⟩
    | _=>exact cR e1
   | _=>exact cR e1
  | l kvs =>
   cases y with
   | p d =>
    obtain ⟨k,g1,g2⟩:=Option.bind_eq_some_iff.mp (show (BT.m8 d).bind (BT.fq kvs)=some b from e1)
    exact .inr (.inl ⟨kvs,d,k,b,rfl,rfl,g1,g2,rfl,rfl⟩)
   | _=>exact cR e1
 ·refine .inr (.inr ?_)
  cases e1:BT.rd x h with
  | none=>rw[e1] at e;exact cR e
  | some d =>
   cases e2:BT.rd y h with
   | none=>rw[e1,e2] at e;exact cR e
   | some d' =>
    rw[e1,e2] at e
    obtain ⟨q,eq,er⟩:=c6 e
    cases er
    exact ⟨d,d',q,rfl,rfl,eq,rfl,rfl⟩
theorem yo {K:Nz}:∀ {es:List (Str×V)}{kvs:List (Str×BT.D)}{vs:List (Key×Value)},RDk K es kvs->KV (es.map fun q=>((Sum.inr q.1:Key),q.2)) vs->BT.ef k kvs=some d →
 ∃ u v,valueAt vs (Sum.inr k)=some u/\RelV v u/\∀ m H,RD K m H v d
 | _,_,_,.nil,_,e=>by simp[BT.ef] at e
 | _,_,_,@RDk.cons _ x v dd es kvs r t,q,e=>by
  cases q with
  | @cons p z l1 l2 q1 q2 =>
   obtain ⟨z1,z2⟩:=z
   obtain ⟨q11,q12⟩:=q1
   simp only at q11 q12
   subst q11
   rw[BT.ef] at e
   by_cases c:k=x
   ·rw[if_pos c] at e
    cases e
    subst c
    exact ⟨z2,v,by simp[valueAt],q12,r⟩
   ·rw[if_neg c] at e
    obtain ⟨u,v',h1,h2,h3⟩:=yo t q2 e
    refine ⟨u,v',?_,h2,h3⟩
    have ne:¬ ((Sum.inr x:Key)=Sum.inr k):=fun z=>c (Sum.inr.inj z).symm
    simp only[valueAt] at h1 ⊢
    rw[QO (by simpa using ne)]
    exact h1
theorem kE (h:PyData.strOk x=true) (hc:c∈x.cps.toList):PyData.strOk ⟨#[c]⟩=true:=by
 simp only[PyData.strOk,Array.all_eq_true_iff_forall_mem] at h ⊢
 intro y hy
 simp at hy
 subst hy
 exact h y (by simpa using hc)
theorem Fc:IxR X (rOp X.prog X.w X.K BT.A8):=by
 intro value slice pins s σ H v u v' u' Q I rv ru h hs
 obtain ⟨m,h,x,y,z,h',R,rx,ry,e,post⟩:=h
 rcases Bq e with ⟨kvs,k,d,rfl,rfl,e1,rfl,rfl⟩ | ⟨kvs,e',k,d,rfl,rfl,e0,e1,rfl,rfl⟩ | ⟨d,d',b,e1,e2,e3,rfl,rfl⟩
 ·cases rx with
  | @k a es _ kd rk =>
   cases rv
   cases ry with
   | p ry =>
    cases ry with
    | str _ ok =>
     obtain ⟨t,rfl⟩:=ru
     obtain ⟨hm,vs,kv,dd⟩:=kd
     obtain ⟨w',z,h1,h2,h3⟩:=yo rk kv e1
     have D:=dd s.heap I.kIn
     refine SV (ops:=[.ref a,.str k t]) D.typeIs slot_dict_getitem.lookup ?_ hs
     exact wpAny_getItem_of (knd:=c8 X.prog X.w) (d9 _ _ k t) D.mapOf h1 ⟨z,H,I.tok _,h2,post.here R (h3 _ _)⟩
 ·cases rx with
  | @kl a ob ws _ hh rk =>
   cases rv
   cases ry with
   | p ry =>
    have ek:=yj ry e0
    subst ek
    cases su I (.inr ⟨_,hh.1⟩) rk k with
    | no _ _ _ g1 _=>rw[g1] at e1;exact cR e1
    | is vs dd n x v1 u1 g1 g2 g3 g4 =>
     rw[g1] at e1
     cases e1
     refine SV (ops:=[.ref a,u']) dd.typeIs slot_dict_getitem.lookup ?_ hs
     exact wpAny_getItem_of (knd:=c8 X.prog X.w) (xE ru) dd.mapOf g2 ⟨v1,H,I.tok _,g3,post.here R g4⟩
 ·have r1:=dQ R rx e1
  have r2:=dQ R ry e2
  cases d<;>cases d'<;>first | exact cR e3 | simp only[BT.dI,BT.fy,BT.iX] at e3
  ·split at e3
   ·rename_i c
    obtain ⟨cc,e4,e5⟩:=c6 e3
    subst e5
    obtain ⟨rfl,ok⟩:=r1.str
    cases r2.int
    have:=fE
    refine En value slice pins s σ H _ _ _ _ Q I rv ru ⟨_,_,cc,rfl,rfl,by lia,e4,post.here R (.str _ (kE ok ?_))⟩ hs
    obtain ⟨j,h1,h2⟩:=Option.bind_eq_some_iff.mp e4
    exact NZ h2
   ·exact cR e3
  ·obtain ⟨a,vs,rfl,ha,ra⟩:=r1.tup
   cases r2.int
   obtain ⟨z,q1,q2⟩:=ra.atI e3
   exact Em value slice pins s σ H _ _ _ _ Q I rv ru ⟨a,vs,_,z,rfl,rfl,ha,q1,post.here R q2⟩ hs
  ·obtain ⟨a,vs,rfl,ha,ra⟩:=r1.lst
   cases r2.int
   obtain ⟨z,q1,q2⟩:=ra.atI e3
   exact AU value slice pins s σ H _ _ _ _ Q I rv ru ⟨a,vs,_,z,rfl,rfl,ha.sq,q1,post.here R q2⟩ hs
theorem jY (n d:Nat) (o:Option Int):BT.clip n d o=HT.sIx n d o:=by
 cases o with
 | none=>rfl
 | some v =>
  simp only[BT.clip,HT.sIx]
  split
  ·rfl
  ·split
   ·lia
   ·lia
theorem nk {E:Value->ND->Prop}{lo:Option Int} (ht:IsTup s.heap t items) (hs:s.heap.IsSliceOf sl vl vu .none) (pl:SI vl lo) (pu:SI vu hi)
 (hw:HT.sIx items.size 0 lo=0/\HT.sIx items.size items.size hi=items.size) (h:Q (.ref t) s):wpAny (N5 prog w) A (QZ (.ref t) (.ref sl)) Q E s:=by
 obtain ⟨os,hos,hcs,hds⟩:=id hs
 have hTs:s.TypeIs (.ref sl) "slice":=⟨os,hos,hcs⟩
 unfold QZ
 try with_reducible refine P7 ?_
 first | refine NB (wpAny_pure ?_) | skip
 refine NB (Sg ht.typeIs (by decide) ?_)
 refine NB (OD (name:=NY "__getitem__") ht.typeIs Oi
  (Pe Oi ht.typeIs RE ?_ (RV _ _)))
 show wpAny _ _ (Qc (.ref t) >>= _) _ _ s
 refine NB (Uc ht ?_)
 refine NB (Sw hTs ?_)
 rw[if_pos (by decide)]
 refine NB (HT.gG hs pl pu ?_)
 have hno:(((HT.sIx items.size 0 lo:Nat):Int)==0&&(1:Int)==1&&(HT.sIx items.size items.size hi - HT.sIx items.size 0 lo)==items.size)=true:=by
  rw[hw.1,hw.2];simp
 show wpAny _ _ (if (((HT.sIx items.size 0 lo:Nat):Int)==0&&(1:Int)==1&&(HT.sIx items.size items.size hi - HT.sIx items.size 0 lo)==items.size)=true then _ else _) _ _ s
 rw[if_pos hno]
 unfold Builtin.Tuple.tupleIsExact
 refine NB (NB (Sw ht.typeIs (wpAny_pure ?_)))
 rw[if_pos (by decide)]
 refine NB (TY ?_)
 first
  | exact wpAny_pure ⟨_,rfl,wpAny_pure h⟩
  | exact wpAny_pure ⟨_,rfl,h⟩
  | exact NB (wpAny_pure (wpAny_pure ⟨_,rfl,wpAny_pure h⟩))
inductive rSl (P:NT) (w:N7) (K:Nz) (v:V) (lo hi:Option Int) (H:Hp) (Q:VK):Prop where
 | mk (m:List NL) (h:BT.HH) (x:BT.W) (d b:BT.D) (R:RH K m H h) (rx:RW P w K m H v x) (e:BT.rd x h=some d) (e2:BT.ng d lo hi=some b) (p:Post P w K m H (.p b) h Q):rSl P w K v lo hi H Q
theorem RDs.cut {K:Nz} (r:RDs K m H vs ds) (lo hi:Option Int):RDs K m H (qf vs lo hi) (BT.cut ds lo hi):=by
 unfold qf BT.cut
 rw[jY,jY,r.length]
 exact (r.drop _).take _
theorem vO {lo:Option Int} (h1:HT.sIx ds.length 0 lo=0) (h2:HT.sIx ds.length ds.length hi=ds.length):BT.cut ds lo hi=ds:=by
 unfold BT.cut
 rw[jY,jY,h1,h2]
 simp
theorem osl:SlR X (rSl X.prog X.w X.K):=by
 intro pins s σ H v v' vl vu lo hi sl Q I rv hs pl pu h
 obtain ⟨m,h,x,d,b,R,rx,e1,e2,post⟩:=h
 have r1:=dQ R rx e1
 cases d<;>simp only[BT.ng] at e2<;>try contradiction
 ·cases e2
  obtain ⟨a,vs,rfl,ha,ra⟩:=r1.tup
  cases rv
  by_cases c:HT.sIx vs.length 0 lo=0/\HT.sIx vs.length vs.length hi=vs.length
  ·obtain ⟨its,q1,q2,_⟩:=I.tuple ha
   have hl:its.toArray.size=vs.length:=by rw[NF];exact q1.length.symm
   refine ⟨"tuple",_,PyProof.Rows.slot_tuple_getitem.lookup,q2.typeIs,nk q2 hs pl pu (by rw[hl];exact c) ⟨.ref a,H,I,rfl,?_⟩⟩
   cases r1 with
   | d r =>
    refine post.here R ?_
    rw[vO (by rw[← ra.length];exact c.1) (by rw[← ra.length];exact c.2)]
    exact r
  ·exact El pins s σ H (.ref a) (.ref a) vl vu lo hi sl Q I rfl hs pl pu ⟨a,vs,rfl,ha,c,fun p hp=>jl R hp (ra.cut lo hi) post⟩
 ·cases e2
  obtain ⟨a,vs,rfl,ha,ra⟩:=r1.lst
  exact AV pins s σ H _ _ vl vu lo hi sl Q I rv hs pl pu ⟨a,vs,rfl,ha.sq,fun p hp=>jm R hp (ra.cut lo hi) post⟩
end
theorem qH (m:BT.Me) (d:BT.D) (as:List BT.W) (h:BT.HH):BT.meW m (.p d) as h=(match BT.dD as with | some ds=>(BT.meD m d ds).map fun x=>(.p x,h) | none=>none):=by cases m<;>rfl
section
inductive rMe (P:NT) (w:N7) (K:Nz) (me:BT.Me) (v:V) (vs:List V) (H:Hp) (Q:VK):Prop where
 | mk (m:List NL) (h:BT.HH) (x:BT.W) (ws:List BT.W) (z:BT.W) (h':BT.HH) (R:RH K m H h) (rx:RW P w K m H v x) (rs:RWs P w K m H vs ws) (e:BT.meW me x ws h=some (z,h')) (p:Post P w K m H z h' Q):rMe P w K me v vs H Q
theorem getD_some {α:Type}{xs:List α}{n:Nat}{a:α} (h:xs[n]?=some a):n < xs.length:=by
 rcases OA n xs.length with z | z
 ·exact z
 ·rw[N3 z] at h;exact cR h
theorem vP:MtR X "list.append" (rMe X.prog X.w X.K .append):=by
 intro pins s σ H v vs v' us Q I rv rus h
 obtain ⟨m,h,x,ws,z,h',R,rx,rws,e,post⟩:=h
 cases x with
 | p d=>cases ws with
  | nil=>exact cR e
  | cons _ _=>rw[qH] at e;split at e<;>(try exact cR e)
 | k kvs=>(first | exact cR e | simp[BT.meW] at e)
 | c _ _=>(first | exact cR e | simp[BT.meW] at e)
 | x _=>(first | exact cR e | simp[BT.meW] at e)
 | o kvs=>(first | exact cR e | simp[BT.meW] at e)
 | r n =>
  cases rws with
  | nil=>(first | exact cR e | simp[BT.meW] at e)
  | @cons y wy _ _ ry t =>
   cases t with
   | cons _ _=>cases ry<;>(first | exact cR e | simp[BT.meW] at e)
   | nil =>
    cases ry with
    | r _=>(first | exact cR e | simp[BT.meW] at e)
    | k _ _=>(first | exact cR e | simp[BT.meW] at e)
    | kl _ _=>(first | exact cR e | simp[BT.meW] at e)
    | c _ _=>(first | exact cR e | simp[BT.meW] at e)
    | x _=>(first | exact cR e | simp[BT.meW] at e)
    | g _ _=>(first | exact cR e | simp[BT.meW] at e)
    | o _=>(first | exact cR e | simp[BT.meW] at e)
    | p ry =>
     rw[BT.rS] at e
     cases g:BT.lat h n with
     | none=>rw[g] at e;exact cR e
     | some xs =>
      rw[g] at e
      simp only at e
      obtain ⟨c,e⟩:=dh e
      cases e
      cases rx with
      | @r a _ hn =>
       obtain ⟨us',hH,r⟩:=R.cell n a xs hn g
       have:=fE
       have hl:=r.length
       exact vz pins s σ H _ _ _ _ Q I rv rus ⟨a,us',y,rfl,rfl,hH,by lia,post _ _ m (gP (NZ hn) hH) (R.set hn hH (r.append (.cons ry .nil))) (.p .non)⟩
theorem yp {α:Type}{xs:List α}{d:α} (h:xs.getLast?=some d):xs[xs.length - 1]?=some d:=by rw[← List.getLast?_eq_getElem?];exact h
theorem Fd:MtR X "list.pop" (rMe X.prog X.w X.K .pop):=by
 intro pins s σ H v vs v' us Q I rv rus h
 obtain ⟨m,h,x,ws,z,h',R,rx,rws,e,post⟩:=h
 cases x with
 | p d=>cases ws with
  | nil=>exact cR e
  | cons _ _=>rw[qH] at e;split at e<;>(try exact cR e)
 | k kvs=>(first | exact cR e | simp[BT.meW] at e)
 | c _ _=>(first | exact cR e | simp[BT.meW] at e)
 | x _=>(first | exact cR e | simp[BT.meW] at e)
 | o kvs=>(first | exact cR e | simp[BT.meW] at e)
 | r n =>
  cases rws with
  | cons _ _=>(first | exact cR e | simp[BT.meW] at e)
  | nil =>
   rw[BT.A7] at e
   cases g:BT.lat h n with
   | none=>rw[g] at e;exact cR e
   | some xs =>
    rw[g] at e
    simp only at e
    cases gl:xs.getLast? with
    | none=>rw[gl] at e;exact cR e
    | some d =>
     rw[gl] at e
     cases e
     cases rx with
     | @r a _ hn =>
      obtain ⟨us',hH,r⟩:=R.cell n a xs hn g
      have hl:=r.length
      obtain ⟨y,hy,ry⟩:=r.get (yp gl)
      have x1:Ext m H m (upd H a (.lst us'.dropLast)):=gP (NZ hn) hH
      exact Er pins s σ H _ _ _ _ Q I rv rus ⟨a,us',y,rfl,rfl,hH,by rw[hl];exact hy,post _ _ m x1 (R.set hn hH r.dropLast) (.p (ry.ext x1))⟩
theorem yq (I:Inv X pins σ H s) (hH:H l=some (.lst xs)) (hB:LL X.K H b zs) (hz:xs.length+zs.length<=sizeLine) (q:Q .non (upd H l (.lst (xs++zs)))) :
 wpAny (N5 X.prog X.w) X.A (call (.builtin "list.extend") [.ref l,.ref b]) (EP X pins σ Q) X.xe s:=by
 obtain ⟨z,its,n,r,hl,e⟩:=I.AX hH
 obtain ⟨z2,its2,n2,r2,hl2,e2⟩:=rdL I hB
 have hsz:its.toArray.size+its2.toArray.size<=sizeLine:=by rw[NF,NF];lia
 have hlong:¬ (!its.toArray.isEmpty&&OH (its.toArray.size+its2.toArray.size))=true:=by
  rw[lT hsz,Bool.and_false]
  exact N8
 refine O3 F.slot_list_extend ⟨_,e,rfl⟩ F.entry_list_extend (F.args_list_extend_2 _ _)
  (AutoSeq1.list_extend_list_list_0 l its.toArray n b its2.toArray n2 hlong (by rw[NF];lia) (by lia)) ⟨e,e2,?_⟩
 refine ⟨.non,_,I.AW (its':=its++its2) hH e (by simp) (r.append r2) ?_,rfl,q⟩
 rw[NW]
 lia
theorem Br (I:Inv X pins σ H s) (hH:H l=some (.lst xs)) (hB:SqT X.K H b zs) (hz:xs.length+zs.length<=sizeLine) (q:Q .non (upd H l (.lst (xs++zs)))) :
 wpAny (N5 X.prog X.w) X.A (call (.builtin "list.extend") [.ref l,.ref b]) (EP X pins σ Q) X.xe s:=by
 obtain ⟨z,its,n,r,hl,e⟩:=I.AX hH
 obtain ⟨its2,r2,p2,_⟩:=I.tuple hB
 obtain ⟨⟨cls,dd,data,sl⟩,e2,hc,n2,hd⟩:=id p2
 simp only at hc hd
 subst hc hd
 have hl2:=r2.length
 have hsz:its.toArray.size+its2.toArray.size<=sizeLine:=by rw[NF,NF];lia
 have hlong:¬ (!its.toArray.isEmpty&&OH (its.toArray.size+its2.toArray.size))=true:=by
  rw[lT hsz,Bool.and_false]
  exact N8
 refine O3 F.slot_list_extend ⟨_,e,rfl⟩ F.entry_list_extend (F.args_list_extend_2 _ _)
  (k8 l its.toArray n b its2.toArray n2 dd sl hlong (by rw[NF];lia) (by lia)) ⟨e,e2,?_⟩
 refine ⟨.non,_,I.AW (its':=its++its2) hH e (by simp) (r.append r2) ?_,rfl,q⟩
 rw[NW]
 lia
theorem vQ:MtR X "list.extend" (rMe X.prog X.w X.K .extend):=by
 intro pins s σ H v vs v' us Q I rv rus h
 obtain ⟨m,h,x,ws,z,h',R,rx,rws,e,post⟩:=h
 cases x with
 | p d=>cases ws with
  | nil=>exact cR e
  | cons _ _=>rw[qH] at e;split at e<;>(try exact cR e)
 | k kvs=>(first | exact cR e | simp[BT.meW] at e)
 | c _ _=>(first | exact cR e | simp[BT.meW] at e)
 | x _=>(first | exact cR e | simp[BT.meW] at e)
 | o kvs=>(first | exact cR e | simp[BT.meW] at e)
 | r n =>
  cases rws with
  | nil=>(first | exact cR e | simp[BT.meW] at e)
  | @cons y wy _ _ ry t =>
   cases t with
   | cons _ _=>(first | exact cR e | simp[BT.meW] at e)
   | nil =>
    rw[BT.rT] at e
    cases g:BT.lat h n with
    | none=>rw[g] at e;exact cR e
    | some xs =>
     cases g2:(BT.rd wy h).bind BT.oJ with
     | none=>rw[g,g2] at e;exact cR e
     | some ys =>
      rw[g,g2] at e
      simp only at e
      obtain ⟨c,e⟩:=dh e
      cases e
      obtain ⟨d,e1,e2⟩:=Option.bind_eq_some_iff.mp g2
      have r2:=dQ R ry e1
      cases rx with
      | @r a _ hn =>
       obtain ⟨us',hH,r⟩:=R.cell n a xs hn g
       cases rv
       obtain ⟨u,rfl,ru⟩:=rus.one
       have:=fE
       have hl:=r.length
       cases d<;>simp only[BT.oJ] at e2<;>try contradiction
       ·cases e2
        obtain ⟨b,vb,rfl,hb,rb⟩:=r2.tup
        cases ru
        have hl2:=rb.length
        exact Br I hH hb (by lia) (post _ _ m (gP (NZ hn) hH) (R.set hn hH (r.append rb)) (.p .non))
       ·cases e2
        obtain ⟨b,vb,rfl,hb,rb⟩:=r2.lst
        cases ru
        have hl2:=rb.length
        exact yq I hH hb (by lia) (post _ _ m (gP (NZ hn) hH) (R.set hn hH (r.append rb)) (.p .non))
theorem RWs.pure {K:Nz}:∀ {vs:List V}{ws:List BT.W}{ds:List BT.D},RWs P w K m H vs ws->BT.dD ws=some ds->RDs K m H vs ds:=by
 intro vs ws
 induction ws generalizing vs with
 | nil =>
  intro ds r e
  cases r
  cases e
  exact .nil
 | cons x ws ih =>
  intro ds r e
  cases r with
  | cons r t =>
   cases r with
   | p r =>
    simp only[BT.dD] at e
    obtain ⟨q,e1,e2⟩:=c6 e
    subst e2
    exact .cons r (ih t e1)
   | _=>exact cR e
theorem jG:∀ {ds:List BT.D}{k j:Nat},BT.iV x ds k=some j->∃ i,j=k+i/\∃ (hi:i < ds.length),BT.eqv ds[i] x=true/\∀ m (hm:m < ds.length),m < i->BT.eqv ds[m] x=false
 | [],_,_,e=>by exact cR e
 | y :: r,k,j,e=>by
  simp only[BT.iV] at e
  split at e
  ·rename_i c
   cases e
   exact ⟨0,rfl,by simp,c,fun m _ h=>by lia⟩
  ·rename_i c
   obtain ⟨i,rfl,hi,h1,h2⟩:=jG e
   refine ⟨i+1,by lia,by simp;lia,by simpa using h1,fun m hm hlt=>?_⟩
   cases m with
   | zero=>simpa using c
   | succ m=>simpa using h2 m (by simpa using hm) (by lia)
theorem jq (I:Inv X pins σ H s):∀ {vs:List V}{ds:List BT.D}{us:List Value},RDs X.K m H vs ds->cZ vs us->∀ (i:Nat) (h1:i < us.length) (h2:i < ds.length),fh s.heap (pd d) us[i]=BT.eqv ds[i] d
 | _,_,_,.nil,q=>by cases q;intro i h1;simp at h1
 | _,_,_,.cons r t,q=>by
  cases q with
  | cons q1 q2 =>
   intro i h1 h2
   cases i with
   | zero =>
    obtain ⟨as,ra⟩:=i7 I r q1
    simp only[List.getElem_cons_zero]
    rw[sj ra (gi r),mD]
   | succ i=>simpa using jq I t q2 i (by simpa using h1) (by simpa using h2)
theorem vR (hu:X.A.units+150 < cLine):MtR X "tuple.index" (rMe X.prog X.w X.K .tindex):=by
 intro pins s σ H v vs v' us Q I rv rus h
 obtain ⟨m,h,x,ws,z,h',R,rx,rws,e,post⟩:=h
 cases x with
 | r n=>cases ws with
  | nil=>(first | exact cR e | simp[BT.meW] at e)
  | cons _ _=>(first | exact cR e | simp[BT.meW] at e)
 | k kvs=>(first | exact cR e | simp[BT.meW] at e)
 | c _ _=>(first | exact cR e | simp[BT.meW] at e)
 | x _=>(first | exact cR e | simp[BT.meW] at e)
 | o kvs=>(first | exact cR e | simp[BT.meW] at e)
 | p d =>
  rw[BT.lW] at e
  cases g:BT.dD ws with
  | none=>rw[g] at e;exact cR e
  | some ds =>
   rw[g] at e
   obtain ⟨b,e1,e2⟩:=c6 e
   cases e2
   have rds:=rws.pure g
   cases d<;>first | exact cR e1 | skip
   rename_i xs
   cases ds with
   | nil=>exact cR e1
   | cons d0 dr =>
    cases dr with
    | cons _ _=>exact cR e1
    | nil =>
     rw[BT.Ey] at e1
     split at e1
     ·rename_i c
      obtain ⟨j,e3,e4⟩:=c6 e1
      subst e4
      obtain ⟨i,rfl,hi,h1,h2⟩:=jG e3
      cases rds with
      | cons r0 rn =>
       cases rn
       obtain ⟨u,rfl,ru⟩:=rus.one
       cases rx with
       | p rx =>
        obtain ⟨a,vt,rfl,ha,ra⟩:=RR.tup (.d rx)
        cases rv
        obtain ⟨its,q1,q2,_⟩:=I.tuple ha
        obtain ⟨⟨cls,dd,data,sl⟩,ho,hc,n,hd⟩:=id q2
        simp only at hc hd
        subst hc hd
        have hl:=q1.length
        have hl2:=ra.length
        have hi':i < its.toArray.size:=by rw[NF];lia
        refine O3 F.slot_tuple_index ⟨_,ho,rfl⟩ F.entry_tuple_index (F.args_tuple_index_2 _ _)
         (nj a its.toArray n dd sl u (fh s.heap (pd d0)) i hi' ?_ ?_) ⟨ho,?_,?_⟩
        ·rw[show its.toArray[i]=its[i]'(by lia) by simp,jq I ra q1 i (by lia) hi];exact h1
        ·intro k hk hlt
         have hk':k < its.length:=by simpa using hk
         rw[show its.toArray[k]=its[k]'hk' by simp,jq I ra q1 k hk' (by lia)];exact h2 k (by lia) hlt
        ·intro y hy
         exact gy hu I (.d r0) ru ra q1 c y (by simpa using hy)
        ·refine ⟨.int (((0+i:Nat):Nat):Int),H,I.tok _,⟨s.toks,?_⟩,post.here R (.int _)⟩
         simp
     ·exact cR e1
theorem vS:MtR X "str.index" (rMe X.prog X.w X.K .sindex):=by
 intro pins s σ H v vs v' us Q I rv rus h
 obtain ⟨m,h,x,ws,z,h',R,rx,rws,e,post⟩:=h
 cases x with
 | r n=>cases ws with
  | nil=>(first | exact cR e | simp[BT.meW] at e)
  | cons _ _=>(first | exact cR e | simp[BT.meW] at e)
 | k kvs=>(first | exact cR e | simp[BT.meW] at e)
 | c _ _=>(first | exact cR e | simp[BT.meW] at e)
 | x _=>(first | exact cR e | simp[BT.meW] at e)
 | o kvs=>(first | exact cR e | simp[BT.meW] at e)
 | p d =>
  rw[BT.lX] at e
  cases g:BT.dD ws with
  | none=>rw[g] at e;exact cR e
  | some ds =>
   rw[g] at e
   obtain ⟨b,e1,e2⟩:=c6 e
   cases e2
   have rds:=rws.pure g
   cases d<;>first | exact cR e1 | skip
   cases ds with
   | nil=>exact cR e1
   | cons d0 dr =>
    cases dr with
    | cons _ _=>cases d0<;>exact cR e1
    | nil =>
     cases d0<;>first | exact cR e1 | skip
     rename_i x y
     rw[BT.Ez] at e1
     cases ho:O2 x y 0 x.length 1 with
     | nil=>rw[ho] at e1;exact cR e1
     | cons j rest =>
      rw[ho] at e1
      cases e1
      cases rds with
      | cons r0 rn =>
       cases rn
       cases r0
       obtain ⟨u,rfl,t0,rfl⟩:=rus.one
       cases rx with
       | p rx =>
        cases rx
        obtain ⟨t,rfl⟩:=rv
        exact call_gives F.slot_str_index (typeIs_str s x t) F.entry_str_index (F.args_str_index_2 _ _) (gives_str_index x y t t0 j rest ho) ⟨.int j,H,I.tok _,⟨_,rfl⟩,post.here R (.int _)⟩
end
section
inductive rBi (P:NT) (w:N7) (K:Nz) (b:BT.Bi) (mu:Bool) (vs:List V) (H:Hp) (Q:VK):Prop where
 | mk (m:List NL) (h:BT.HH) (ws:List BT.W) (z:BT.W) (h':BT.HH) (R:RH K m H h) (rs:RWs P w K m H vs ws) (e:BT.kBi b mu ws h=some (z,h')) (p:Post P w K m H z h' Q):rBi P w K b mu vs H Q
inductive RRs (K:Nz) (m:List NL) (H:Hp):List V->List BT.D->Prop where
 | nil:RRs K m H [] []
 | cons {v:V}{d:BT.D}{vs:List V}{ds:List BT.D} (r:RR K m H v d) (t:RRs K m H vs ds):RRs K m H (v :: vs) (d :: ds)
theorem fV {K:Nz} (R:RH K m H h):∀ {vs:List V}{ws:List BT.W}{ds:List BT.D},RWs P w K m H vs ws->BT.rds ws h=some ds->RRs K m H vs ds
 | _,_,_,.nil,e=>by cases e;exact .nil
 | _,_,_,.cons r t,e=>by
  simp only[BT.rds] at e
  obtain ⟨d,e1,e2⟩:=Option.bind_eq_some_iff.mp e
  obtain ⟨q,e3,e4⟩:=c6 e2
  subst e4
  exact .cons (dQ R r e1) (fV R t e3)
inductive BiI (b:BT.Bi) (mu:Bool) (ws:List BT.W) (h:BT.HH) (z:BT.W) (h':BT.HH):Prop where
 | mk (ds:List BT.D) (d:BT.D) (h1:BT.rds ws h=some ds) (h2:BT.biD b ds=some d) (h3:(mu=false/\z=.p d/\h'=h)\/∃ xs,mu=true/\d=.lst xs/\z=.r h.length/\h'=h++[.l xs]):BiI b mu ws h z h'
theorem jH (e:BT.kBi b mu ws h=some (z,h')):BiI b mu ws h z h':=by
 unfold BT.kBi at e
 cases e1:BT.rds ws h with
 | none=>rw[e1] at e;exact cR e
 | some ds =>
  rw[e1] at e
  simp only at e
  cases e2:BT.biD b ds with
  | none=>rw[e2] at e;exact cR e
  | some d =>
   rw[e2] at e
   simp only at e
   cases mu with
   | false=>cases e;exact ⟨ds,d,e1,e2,.inl ⟨rfl,rfl,rfl⟩⟩
   | true =>
    simp only[if_true] at e
    cases d<;>simp only at e<;>try contradiction
    cases e
    exact ⟨ds,_,e1,e2,.inr ⟨_,rfl,rfl,rfl,rfl⟩⟩
theorem RRs.one {K:Nz}{m:List NL}{H:Hp}{vs:List V}{d:BT.D} (r:RRs K m H vs [d]):∃ v,vs=[v]/\RR K m H v d:=by
 cases r with
 | cons r t=>cases t;exact ⟨_,rfl,r⟩
theorem Fe:ff X (.builtin "len") (rBi X.prog X.w X.K .len false):=by
 intro pins s σ H vs us Q I rus h
 obtain ⟨m,h,ws,z,h',R,rws,e,post⟩:=h
 obtain ⟨ds,d,e1,e2,⟨_,rfl,rfl⟩ | ⟨_,q,_⟩⟩:=jH e
 ·have rr:=fV R rws e1
  match ds,e2 with
  | [.tup xs],e2 =>
   cases e2
   obtain ⟨v,rfl,r⟩:=rr.one
   obtain ⟨a,vt,rfl,ha,ra⟩:=r.tup
   exact jQ pins s σ H _ us Q I rus ⟨a,vt,rfl,.inr ha,by rw[ra.length];exact post.here R (.int _)⟩
  | [.lst xs],e2 =>
   cases e2
   obtain ⟨v,rfl,r⟩:=rr.one
   obtain ⟨a,vt,rfl,ha,ra⟩:=r.lst
   exact jQ pins s σ H _ us Q I rus ⟨a,vt,rfl,.inl ha.sq,by rw[ra.length];exact post.here R (.int _)⟩
  | [.str x],e2 =>
   rw[BT.gf] at e2
   split at e2
   ·rename_i c
    cases e2
    obtain ⟨v,rfl,r⟩:=rr.one
    obtain ⟨rfl,_⟩:=r.str
    have:=fE
    exact oE pins s σ H _ us Q I rus ⟨x,rfl,by lia,post.here R (.int _)⟩
   ·exact cR e2
 ·exact BT.dG q
theorem Ff:ff X (.builtin "abs") (rBi X.prog X.w X.K .abs false):=by
 intro pins s σ H vs us Q I rus h
 obtain ⟨m,h,ws,z,h',R,rws,e,post⟩:=h
 obtain ⟨ds,d,e1,e2,⟨_,rfl,rfl⟩ | ⟨_,q,_⟩⟩:=jH e
 ·have rr:=fV R rws e1
  match ds,e2 with
  | [.int i],e2 =>
   cases e2
   obtain ⟨v,rfl,r⟩:=rr.one
   cases r.int
   exact wZ pins s σ H _ us Q I rus ⟨i,rfl,post.here R (.int _)⟩
 ·exact BT.dG q
theorem Fg:ff X (.type "int") (rBi X.prog X.w X.K .int false):=by
 intro pins s σ H vs us Q I rus h
 obtain ⟨m,h,ws,z,h',R,rws,e,post⟩:=h
 obtain ⟨ds,d,e1,e2,⟨_,rfl,rfl⟩ | ⟨_,q,_⟩⟩:=jH e
 ·have rr:=fV R rws e1
  match ds,e2 with
  | [.int i],e2 =>
   cases e2
   obtain ⟨v,rfl,r⟩:=rr.one
   cases r.int
   exact nH pins s σ H _ us Q I rus (.inl ⟨i,rfl,post.here R (.int _)⟩)
  | [.bl i],e2 =>
   cases e2
   obtain ⟨v,rfl,r⟩:=rr.one
   cases r.bl
   exact nH pins s σ H _ us Q I rus (.inr ⟨i,rfl,post.here R (.int _)⟩)
 ·exact BT.dG q
theorem tT:ff X (.type "list") (rBi X.prog X.w X.K .list mu):=by
 intro pins s σ H vs us Q I rus h
 obtain ⟨m,h,ws,z,h',R,rws,e,post⟩:=h
 obtain ⟨ds,d,e1,e2,hz⟩:=jH e
 have rr:=fV R rws e1
 have fin:∀ {p:NL}{vt:List V}{xs:List BT.D},d=.lst xs->H p=none->RDs X.K m H vt xs->Q (.ref p) (upd H p (.lst vt)):=by
  intro p vt xs ed hp r
  rcases hz with ⟨_,rfl,rfl⟩ | ⟨ys,_,e3,rfl,rfl⟩
  ·subst ed;exact jm R hp r post
  ·rw[ed] at e3;cases e3;exact tR R hp r post
 match ds,e2 with
 | [.tup xs],e2 =>
  cases e2
  obtain ⟨v,rfl,r⟩:=rr.one
  obtain ⟨a,vt,rfl,ha,ra⟩:=r.tup
  exact jR pins s σ H _ us Q I rus ⟨a,vt,rfl,.inr ha,fun p hp=>fin rfl hp ra⟩
 | [.lst xs],e2 =>
  cases e2
  obtain ⟨v,rfl,r⟩:=rr.one
  obtain ⟨a,vt,rfl,ha,ra⟩:=r.lst
  exact jR pins s σ H _ us Q I rus ⟨a,vt,rfl,.inl ha.sq,fun p hp=>fin rfl hp ra⟩
theorem jZ {K:Nz}:∀ {ns:List Int}{vs:List V},RDs K m H vs (ns.map BT.D.int)->vs=ns.map V.int
 | [],vs,r=>by cases r;rfl
 | n :: ns,vs,r=>by
  cases r with
  | cons r t=>cases r;rw[jZ t];rfl
theorem yr:ff X (.type "tuple") (rBi X.prog X.w X.K .tuple false):=by
 intro pins s σ H vs us Q I rus h
 obtain ⟨m,h,ws,z,h',R,rws,e,post⟩:=h
 obtain ⟨ds,d,e1,e2,⟨_,rfl,rfl⟩ | ⟨_,q,_⟩⟩:=jH e
 ·have rr:=fV R rws e1
  match ds,e2 with
  | [.tup xs],e2 =>
   cases e2
   obtain ⟨v,rfl,r⟩:=rr.one
   obtain ⟨a,vt,rfl,ha,ra⟩:=r.tup
   refine jz pins s σ H _ us Q I rus ⟨a,vt,rfl,.inr ⟨ha,?_⟩⟩
   cases r with
   | d r=>exact post.here R r
  | [.lst xs],e2 =>
   cases e2
   obtain ⟨v,rfl,r⟩:=rr.one
   obtain ⟨a,vt,rfl,ha,ra⟩:=r.lst
   exact jz pins s σ H _ us Q I rus ⟨a,vt,rfl,.inl ⟨ha.sq,fun p hp=>jl R hp ra post⟩⟩
 ·exact BT.dG q
noncomputable def tyD:BT.D->String
 | .non=>"NoneType"
 | .bl _=>"bool"
 | .int _=>"int"
 | .str _=>"str"
 | .tup _=>"tuple"
 | .lst _=>"list"
theorem Bs {E:Value->ND->Prop}
 (I:Inv X pins σ H s) (r:RR X.K m H v d) (rv:RelV v u) (e:OZ X.K (.type (tyD d)) (.type c)=some b) (h:∀ tk,Q (.bool b) { s with toks:=tk }) :
 wpAny (N5 X.prog X.w) A (call (.builtin "isinstance") [u,.type c]) Q E s:=by
 cases d with
 | non=>cases r.non;cases rv;exact PK PySem.W.kitx_none I.kIn True.intro e (fun z=>nomatch z) h
 | bl y=>cases r.bl;cases rv;exact PK PySem.W.kitx_bool I.kIn True.intro e (fun z=>nomatch z) h
 | int i=>cases r.int;obtain ⟨t,rfl⟩:=rv;exact PK PySem.W.kitx_int I.kIn True.intro e (fun z=>nomatch z) h
 | str y=>obtain ⟨rfl,_⟩:=r.str;obtain ⟨t,rfl⟩:=rv;exact PK PySem.W.kitx_str I.kIn True.intro e (fun z=>nomatch z) h
 | tup xs =>
  obtain ⟨a,vt,rfl,ha,_⟩:=r.tup
  cases rv
  obtain ⟨its,_,⟨o,h1,h2,_⟩,_⟩:=I.tuple ha
  exact PK PySem.W.kitx_tuple I.kIn ⟨o,h1,h2⟩ e (fun z=>nomatch z) h
 | lst xs =>
  obtain ⟨a,vt,rfl,ha,_⟩:=r.lst
  cases rv
  obtain ⟨_,its,n,_,_,h1⟩:=rdL I ha
  exact PK PySem.W.kitx_list I.kIn ⟨_,h1,rfl⟩ e (fun z=>nomatch z) h
theorem yt (K:Nz) (t:String):OZ K (.type t) (.type t)=some true:=by
 unfold OZ
 rw[if_pos (by simp)]
theorem yu (h:qC b=some (c,f)) (d:BT.D):BT.biD b [d]=some (.bl (f d)):=by
 cases b<;>simp only[qC] at h<;>try contradiction
 all_goals (cases h;rfl)
theorem yv (h:qC b=some (c,f)) (K:Nz) (d:BT.D):OZ K (.type (tyD d)) (.type c)=some (f d):=by
 cases b<;>simp only[qC] at h<;>try contradiction
 all_goals (cases h;cases d)
 all_goals first
  | exact yt K _
  | (simp only[tyD];unfold OZ;rw[if_neg (by decide)];unfold PySem.W.kitCls;first | rfl | kernel_rfl | decide +kernel)
end
end BS
end
section
namespace BX
open PySem PySem.Spec PyProof.Rows
section
variable {prog:NT}{w:N7}{A:Om}{R:Result->ND->Prop}{I:NL}{fp wr:List NL}{n:Nat}{P:Nat->Value->Prop}{St:Nat->Heap->Prop}{kw:List (Str×Value)}
end
end BX
end
section
namespace BS
open PySem PySem.Spec PyProof.Rows L2
noncomputable abbrev FT:=BT.FK->List BT.W->BT.HH->Option (BT.W×BT.HH)
inductive spF (P:NT) (w:N7) (K:Nz) (g:List BT.W->BT.HH->Option (BT.W×BT.HH)) (vs:List V) (H:Hp) (Q:VK) (E:XK):Prop where
 | mk (m:List NL) (ws:List BT.W) (h:BT.HH) (z:BT.W) (h':BT.HH) (R:RH K m H h) (r:RWs P w K m H vs ws) (e:g ws h=some (z,h')) (p:Post P w K m H z h' Q):spF P w K g vs H Q E
inductive tD (X:Cx) (F:FT) (G:Str->Option BT.W) (e:BT.E) (σ:L2.St) (H:Hp) (Q:VK):Prop where
 | mk (m:List NL) (s:BT.Sl) (h:BT.HH) (z:BT.W) (h':BT.HH) (R:RH X.K m H h) (S:RS X.prog X.w X.K m H σ s) (q:BT.ev F G e s h=some (z,h')) (p:Post X.prog X.w X.K m H z h' Q):tD X F G e σ H Q
inductive tDs (X:Cx) (F:FT) (G:Str->Option BT.W) (es:BT.Es) (σ:L2.St) (H:Hp) (Q:List V->Hp->Prop):Prop where
 | mk (m:List NL) (s:BT.Sl) (h:BT.HH) (zs:List BT.W) (h':BT.HH) (R:RH X.K m H h) (S:RS X.prog X.w X.K m H σ s) (q:BT.evs F G es s h=some (zs,h')) (p:∀ vs H' m',Ext m H m' H'->RH X.K m' H' h'->RWs X.prog X.w X.K m' H' vs zs->Q vs H'):tDs X F G es σ H Q
inductive tDT (X:Cx) (F:FT) (G:Str->Option BT.W) (e:BT.E) (σ:L2.St) (H:Hp) (Q:Bool->Hp->Prop):Prop where
 | mk (m:List NL) (s:BT.Sl) (h:BT.HH) (b:Bool) (h':BT.HH) (R:RH X.K m H h) (S:RS X.prog X.w X.K m H σ s) (q:BT.ev F G e s h=some (.p (.bl b),h')) (p:∀ H' m',Ext m H m' H'->RH X.K m' H' h'->Q b H'):tDT X F G e σ H Q
noncomputable def qI (P:NT) (w:N7) (K:Nz) (mg:Str->Option Value) (base:Heap) (k L:Nat) (g:List BT.W->BT.HH->Option (BT.W×BT.HH)):Prop :=
 ∀ (A:Om) (outer:List Env) (s:ND) (H:Hp) (f:NL) (us:List Value) (vs cvs:List V) (m:List NL) (ws:List BT.W) (cs:List BT.Cp) (h:BT.HH) (z:BT.W) (h':BT.HH) (Q:VK) (E:XK),fm k A->oq P w K mg base A outer s H->cZ vs us →
  RH K m H h->RWs P w K m H vs ws->BT.noC ws=true->jV m H f L cvs->RCs K m H cvs cs->g (ws++cs.map BT.Cp.w) h=some (z,h')->Post P w K m H z h' Q->codeAny (N5 P w) A (.call (.ref f) ⟨us,[]⟩) (CR CX0 outer P w H s Q E) s
structure LX (X:Cx) (x:Str):Prop where
 mem:x∈BT.gv
 ex:∃ c P,OY X.K x=some (c,P)/\X.env.code=.ref c/\PySem.W.CodeHd X.base c P/\∀ y∈BT.gv,∀ c2,OY X.K y=some (c2,P)->y=x
 ql:X.env.qual=x++".<locals>."
 bm:∃ bm ob,X.mg "__builtins__"=some (.ref bm)/\bm≠P4/\X.base.get? bm=some ob/\ob.cls=.type "module"/\ob.dict=some P4/\ob.data=.plain
noncomputable def Jo:List Str:=["len","abs","int","list","tuple","isinstance","str","bool","range","reversed","enumerate","zip","min","max","sorted","sum","all","any","set","ValueError","dict"]
inductive OkC (P:NT) (w:N7) (K:Nz) (mg:Str->Option Value) (base:Heap) (A:Om) (f:Str) (sp:Sp):Prop where
 | mk (fa:NL) (fd:O8) (ps:List Str) (k:Nat) (h1:mg f=some (.ref fa)) (h2:OG K (.ref fa)=true) (h3:Binds K fd ps []) (h4:fm k A) (h5:g9 P w K mg base CX0 k fa fd ps sp):OkC P w K mg base A f sp
inductive OkM (P:NT) (w:N7) (K:Nz) (mg:Str->Option Value) (base:Heap) (A:Om) (CX:CXT) (c m:Str) (sp:Sp):Prop where
 | mk (C g:NL) (fd:O8) (ps:List Str) (k:Nat) (h1:nU K c C) (h2:xj K C m g) (h3:Binds K fd ps []) (h4:fm k A) (h5:g9 P w K mg base CX k g fd ps sp):OkM P w K mg base A CX c m sp
inductive OkN (P:NT) (w:N7) (K:Nz) (mg:Str->Option Value) (base:Heap) (A:Om) (c:Str) (sp:Sp):Prop where
 | mk (C g:NL) (fd:O8) (ps:List Str) (k:Nat) (h1:nU K c C) (h2:mg c=some (.ref C)) (h3:Mk K C g) (h4:Binds K fd ps []) (h5:fm (k+1) A) (h6:g9 P w K mg base CX0 k g fd ps sp):OkN P w K mg base A c sp
structure Ok (X:Cx) (F:FT) (G:Str->Option BT.W) (sc:Ow) (N:List Str):Prop where
 hsc:X.env.scope=sc
 hN:X.N=N
 nd:X.N.Nodup
 calm:gw N=true->X.calm=true
 hu:X.A.units+150 < cLine
 own:PassesOwn (N5 X.prog X.w) X.A X.env X.xe
 glob:∀ x z,G x=some z->∃ u v,X.mg x=some u/\RelV v u/\∀ m H,RW X.prog X.w X.K m H v z
 call:∀ (f:Str) ws h r,F (.f f) ws h=some r->OkC X.prog X.w X.K X.mg X.base X.A f (spF X.prog X.w X.K (F (.f f)))
 meth:∀ (c m:Str) ws h r,F (.m c m) ws h=some r->OkM X.prog X.w X.K X.mg X.base X.A CX0 c m (spF X.prog X.w X.K (F (.m c m)))
 mkc:∀ (c:Str) ws h r,F (.m c "__init__") ws h=some r->OkN X.prog X.w X.K X.mg X.base X.A c (spF X.prog X.w X.K (F (.m c "__init__")))
 blt:∀ x∈Jo,X.mg x=none
 lam:∀ (L:Nat) ws h r,F (.l L) ws h=some r->∃ k,fm k X.A/\qI X.prog X.w X.K X.mg X.base k L (F (.l L))
 lamx:(∀ x,X.fn x=true)->∀ x,N.contains (BT.gj x)=true->LX X x
theorem PE.weak (h:PE X e t) (q:∀ σ H Q,t' σ H Q->t σ H Q):PE X e t':=fun pins s σ H Q I hw=>h pins s σ H Q I (q _ _ _ hw)
theorem PT.weak (h:PT X e t) (q:∀ σ H Q,t' σ H Q->t σ H Q):PT X e t':=fun pins s σ H Q I hw=>h pins s σ H Q I (q _ _ _ hw)
theorem PW.weak (h:PW X e t) (q:∀ σ H Q,t' σ H Q->t σ H Q):PW X e t':=fun wh pins s σ H Q I hw=>h wh pins s σ H Q I (q _ _ _ hw)
theorem PA.weak (h:PA X es t) (q:∀ σ H Q,t' σ H Q->t σ H Q):PA X es t':=fun pos pins s σ H Q I hw=>h pos pins s σ H Q I (q _ _ _ hw)
theorem cY (h:noStar e=true):Oc (e :: es) env=(false,eval e env) :: Oc es env:=by
 cases e<;>first | rfl | exact BT.dG h
theorem yw (h:lC b=true):tM b:=fun o i=>by
 cases b<;>first | rfl | exact BT.dG h
theorem j0 (h:dB o=true):Q0 o name env (eval o env)=eval o env:=by
 cases o with
 | Call fn as ks p =>
  cases fn with
  | Attribute _ _ _=>rfl
  | _=>exact BT.dG h
 | _=>first | rfl | exact cR h
noncomputable def cX:List NH->Bool
 | []=>true
 | e :: es=>noStar e&&cX es
theorem dN:∀ {es:List NH},cX es=true->(Qf pos (Oc es env)).any (·.1)=false
 | [],_=>rfl
 | e :: es,h=>by
  simp only[cX,NG] at h
  rw[cY h.1]
  show (false||(Qf pos (Oc es env)).any (·.1))=false
  rw[dN h.2];rfl
theorem i9:∀ {es:List NH},cX es=true->(Qf pos (Oc es env)).all (fun x=>!x.1)=true
 | [],_=>rfl
 | e :: es,h=>by
  simp only[cX,NG] at h
  rw[cY h.1]
  show (!false&&(Qf pos (Oc es env)).all (fun x=>!x.1))=true
  rw[i9 h.2];rfl
noncomputable def Jp:Tq->Prop
 | .es _ xs=>cX xs=true
 | _=>True
theorem yx (h:CQ sc N t):Jp t:=by
 induction h with
 | es_nil=>exact rfl
 | es_cons hs _ _ _ ih =>
  show (noStar _&&cX _)=true
  rw[NG];exact ⟨hs,ih⟩
 | _=>exact True.intro
theorem gR (h:CEs sc N as es):cX es=true:=yx h
noncomputable def noM:Tq->Prop
 | .es (.cons _ _) []=>False
 | _=>True
theorem Fi (h:CQ sc N t):noM t:=by
 induction h with
 | _=>exact True.intro
theorem mE (h:CEs sc N (.cons a r) []):False:=Fi h
section
theorem oZ (he:∀ s h,BT.ev F G e s h=BT.bnd (BT.ev F G a s h) (BT.k2 (BT.ev F G b s) f)) (σ:L2.St) (H:Hp) (Q:VK) (q:tD X F G e σ H Q) :
 tOp (rOp X.prog X.w X.K f) (tD X F G a) (tD X F G b) σ H Q:=by
 obtain ⟨m,s,h,z,h',R,S,ee,post⟩:=q
 rw[he] at ee
 obtain ⟨x,h1,e1,e2⟩:=cU ee
 simp only[BT.k2] at e2
 obtain ⟨y,h2,e3,e4⟩:=cU e2
 refine ⟨m,s,h,x,h1,R,S,e1,fun v H1 m1 x1 R1 r1=>?_⟩
 refine ⟨m1,s,h1,y,h2,R1,S.ext x1,e3,fun u H2 m2 x2 R2 r2=>?_⟩
 exact ⟨m2,h2,x,y,z,h',R2,r1.ext x2,r2,e4,fun w' H3 m3 x3 R3 r3=>post w' H3 m3 ((x1.trans x2).trans x3) R3 r3⟩
theorem mF (h:∀ σ H Q,tD X F G e σ H Q->t σ H Q) (σ:L2.St) (H:Hp) (Q:Bool->Hp->Prop) (q:tDT X F G e σ H Q):wW t σ H Q:=by
 obtain ⟨m,s,h0,b,h',R,S,ee,post⟩:=q
 refine h σ H _ ⟨m,s,h0,_,h',R,S,ee,fun v H' m' x R' r=>?_⟩
 cases r with
 | p r=>cases r;exact ⟨b,rfl,post H' m' x R'⟩
theorem opB (h:Ds o op=true):OpR X (OW op) (rOp X.prog X.w X.K (BT.nh o)):=by
 rw[of_decide_eq_true h]
 cases o
 ·exact E4
 ·exact E5
 ·exact E8
 ·exact E6
 ·exact Bk
 ·exact E7
theorem Dy:∀ {es:List (Str×V)}{kvs:List (Str×BT.D)}{K:Nz},RDk K es kvs->KV (es.map fun q=>((Sum.inr q.1:Key),q.2)) vs->(valueAt vs (Sum.inr k)).isSome=(BT.ef k kvs).isSome:=by
 intro es
 induction es generalizing vs with
 | nil =>
  intro kvs K r q
  cases r
  cases q
  rfl
 | cons p es ih =>
  intro kvs K r q
  cases r with
  | @cons x v dd _ kvs r t =>
   cases q with
   | @cons p z l1 l2 q1 q2 =>
    obtain ⟨z1,z2⟩:=z
    obtain ⟨q11,q12⟩:=q1
    simp only at q11 q12
    subst q11
    rw[BT.ef]
    by_cases c:k=x
    ·subst c
     simp[valueAt]
    ·rw[if_neg c]
     have ne:¬ ((Sum.inr x:Key)=Sum.inr k):=fun z=>c (Sum.inr.inj z).symm
     have:=ih t q2
     simp only[valueAt] at this ⊢
     rw[QO (by simpa using ne)]
     exact this
theorem opC (O:Ok X F G sc N) (h:Bh o op=true):OpR X (Oq op) (rOp X.prog X.w X.K (BT.jC o)):=by
 rw[of_decide_eq_true h]
 cases o
 ·exact Jk O.hu
 ·exact Jl O.hu
 ·exact oY HC rfl rfl fun _ _=>rfl
 ·exact oY HD rfl rfl fun _ _=>rfl
 ·exact oY HE rfl rfl fun _ _=>rfl
 ·exact oY HF rfl rfl fun _ _=>rfl
 ·exact E9
 ·exact Bo
 ·refine Fb O.hu ?_
  intro kvs x b m H v u v' u' pins σ s Q I rv ru rx rk e q
  cases kvs with
  | t kvs =>
   cases x with
   | p d =>
    cases d<;>first | exact cR e | skip
    ·obtain rfl:=NO e
     cases rk with
     | @k a es _ kd rk =>
      cases ru
      cases rx with
      | p rx =>
       cases rx
       cases rv
       obtain ⟨hm,vs,kv,dd⟩:=kd
       obtain ⟨f,mo,fn⟩:=map_none (dd s.heap I.kIn)
       refine S6 (knd:=optKind X.prog X.w) (k:=none) rfl hm mo ?_
       rw[fn]
       exact ⟨.bl _,H,I.tok _,rfl,q⟩
    obtain rfl:=NO e
    cases rk with
    | @k a es _ kd rk =>
     cases ru
     cases rx with
     | p rx =>
      cases rx with
      | str x ok =>
       obtain ⟨t,rfl⟩:=rv
       obtain ⟨hm,vs,kv,dd⟩:=kd
       have D:=dd s.heap I.kIn
       refine S6 (knd:=c8 X.prog X.w) (d9 _ _ _ t) hm D.mapOf ?_
       rw[Dy rk kv]
       exact ⟨.bl _,H,I.tok _,rfl,q⟩
   | _=>exact cR e
  | l kvs =>
   cases x with
   | p d =>
    obtain ⟨k,g1,g2⟩:=c6 (show (BT.m8 d).map (fun k=>(BT.fq kvs k).isSome)=some b from e)
    subst g2
    cases rk with
    | @kl a ob ws _ hh rk =>
     cases ru
     cases rx with
     | p rx =>
      have ek:=yj rx g1
      subst ek
      cases su I (.inr ⟨_,hh.1⟩) rk k with
      | no vs dd n g1 g2 =>
       refine S6 (knd:=c8 X.prog X.w) (xE rv) n dd.mapOf ?_
       rw[g2]
       exact ⟨.bl _,H,I.tok _,rfl,by rw[g1] at q;exact q⟩
      | is vs dd n x v1 u1 g1 g2 g3 g4 =>
       refine S6 (knd:=c8 X.prog X.w) (xE rv) n dd.mapOf ?_
       rw[g2]
       exact ⟨.bl _,H,I.tok _,rfl,by rw[g1] at q;exact q⟩
   | _=>exact cR e
 ·refine Bp O.hu ?_
  intro kvs x b m H v u v' u' pins σ s Q I rv ru rx rk e q
  cases kvs with
  | t kvs =>
   cases x with
   | p d =>
    cases d<;>first | exact cR e | skip
    obtain rfl:=NO e
    cases rk with
    | @k a es _ kd rk =>
     cases ru
     cases rx with
     | p rx =>
      cases rx with
      | str x ok =>
       obtain ⟨t,rfl⟩:=rv
       obtain ⟨hm,vs,kv,dd⟩:=kd
       have D:=dd s.heap I.kIn
       refine wpAny_notIn_of (knd:=c8 X.prog X.w) (d9 _ _ _ t) hm D.mapOf ?_
       rw[Dy rk kv]
       exact ⟨.bl _,H,I.tok _,rfl,q⟩
   | _=>exact cR e
  | l kvs=>exact cR e
end
section
variable {X:Cx}{F:FT}{G:Str->Option BT.W}{sc:Ow}{N:List Str}
theorem Bt (O:Ok X F G sc N) (x:Str):X.env.kindOf x=sc.names.lookup x:=by rw[← O.hsc];rfl
theorem gk (h:fM x=true):(x==("__debug__":Str))=false/\(x==("__classdict__":Str))=false/\x≠"__name__":=by
 simp only[fM,NG,P5] at h
 exact ⟨h.1.1,h.1.2,fun e=>by rw[e] at h;simp at h⟩
theorem d7 (O:Ok X F G sc N) (h:dY sc x=true):Gl X x:=by
 show X.env.kindOf x=_
 rw[Bt O]
 exact eq_of_beq h
theorem Fj (O:Ok X F G sc N) (h:qD sc x=true):Vis X.env.scope x:=by
 rw[O.hsc]
 unfold qD at h
 unfold Vis
 cases e:sc.names.lookup x with
 | none=>rw[e] at h;exact BT.dG h
 | some k=>rw[e] at h;cases k<;>first | (exact .inl rfl) | (exact .inr (.inl rfl)) | (exact .inr (.inr rfl)) | exact BT.dG h
theorem tU (O:Ok X F G sc N) (h2:N[i]?=some y) (h3:qD sc y=true) (h4:fM y=true):PE X (.Name y pos) (tD X F G (.var i)):=by
 obtain ⟨d1,d2,_⟩:=gk h4
 refine PE.weak (DQ (i:=i) (by rw[O.hN];exact h2) (Fj O h3) d1 d2) fun σ H Q q=>?_
 obtain ⟨m,s,h,z,h',R,S,ee,post⟩:=q
 simp only[BT.ev] at ee
 split at ee
 ·rename_i w e
  cases ee
  obtain ⟨v,hv,r⟩:=S.get i _ e
  exact ⟨v,hv,post v H m (.refl _ _) R r⟩
 ·exact cR ee
theorem Bu (h:Dt d c=true):PE X (.Constant c k pos) (tD X F G (.cst d)):=by
 have fin:∀ {v:V},(∀ m H,RD X.K m H v d)->∀ σ H Q,tD X F G (.cst d) σ H Q->tC v σ H Q:=fun r σ H Q q=>by
  obtain ⟨m,s,h,z,h',R,S,ee,post⟩:=q
  simp only[BT.ev] at ee
  cases ee
  exact post _ H m (.refl _ _) R (.p (r m H))
 cases d<;>cases c<;>first | exact BT.dG h | skip
 ·exact PE.weak DR (fin fun _ _=>.non)
 ·cases eq_of_beq h;exact PE.weak G9 (fin fun _ _=>.bl _)
 ·cases eq_of_beq h;exact PE.weak oh (fin fun _ _=>.int _)
 ·have h:=Bool.and_eq_true_iff.mp h
  cases eq_of_beq h.1;exact PE.weak DS (fin fun _ _=>.str _ h.2)
theorem Bv (O:Ok X F G sc N) (h2:dY sc y=true) (h3:fM y=true):PE X (.Name y pos) (tD X F G (.glo y)):=by
 obtain ⟨d1,d2,_⟩:=gk h3
 intro pins s σ H Q I q
 obtain ⟨m,s',h,z,h',R,S,ee,post⟩:=q
 simp only[BT.ev] at ee
 obtain ⟨w,e1,e2⟩:=c6 ee
 cases e2
 obtain ⟨u,v,hm,r,rw⟩:=O.glob _ _ e1
 exact sX (d7 O h2) hm r d1 pins s σ H Q I (post v H m (.refl _ _) R (rw m H))
theorem Dz (he:∀ s h,BT.ev F G e s h=BT.bnd (BT.ev F G a s h) k) (q:tD X F G e σ H Q)
 (h1:∀ m h x z h' v H1,RH X.K m H1 h->RW X.prog X.w X.K m H1 v x->k x h=some (z,h')->Post X.prog X.w X.K m H1 z h' Q->R' v H1):tD X F G a σ H R':=by
 obtain ⟨m,s,h,z,h',R,S,ee,post⟩:=q
 rw[he] at ee
 obtain ⟨x,g,e1,e2⟩:=cU ee
 exact ⟨m,s,h,x,g,R,S,e1,fun v H1 m1 x1 R1 r1=>h1 m1 g x z h' v H1 R1 r1 e2 fun w' H3 m3 x3 R3 r3=>post w' H3 m3 (x1.trans x3) R3 r3⟩
theorem j3 (he:∀ s h,BT.ev F G e s h=BT.bnd (BT.evs F G as s h) k) (q:tD X F G e σ H Q)
 (h1:∀ m h xs z h' vs H1,RH X.K m H1 h->RWs X.prog X.w X.K m H1 vs xs->k xs h=some (z,h')->Post X.prog X.w X.K m H1 z h' Q->R' vs H1):tDs X F G as σ H R':=by
 obtain ⟨m,s,h,z,h',R,S,ee,post⟩:=q
 rw[he] at ee
 obtain ⟨x,g,e1,e2⟩:=cU ee
 exact ⟨m,s,h,x,g,R,S,e1,fun v H1 m1 x1 R1 r1=>h1 m1 g x z h' v H1 R1 r1 e2 fun w' H3 m3 x3 R3 r3=>post w' H3 m3 (x1.trans x3) R3 r3⟩
theorem ty_list (R:RH X.K m H h) (r:RW X.prog X.w X.K m H v (.r n)) (ok:BT.ni (.r n) h=true):tyV X.K "list" v H:=by
 cases r with
 | @r a _ hn =>
  obtain ⟨xs,e⟩:=Option.isSome_iff_exists.mp ok
  obtain ⟨vs,e,_⟩:=R.cell n a xs hn e
  exact .inl ⟨rfl,vs,.inl (.inl e)⟩
theorem tV (e:BT.kMe m ea x h=some r):BT.ni x h=true/\BT.bnd (ea h) (BT.meW m x)=some r:=by
 unfold BT.kMe at e
 split at e
 ·rename_i c;exact ⟨c,e⟩
 ·exact cR e
theorem Mv (hm:m=.append\/m=.pop\/m=.extend) (e:BT.meW m x ws h=some (z,h')):∃ n,x=.r n:=by
 cases x with
 | r n=>exact ⟨n,rfl⟩
 | p d =>
  rcases hm with rfl | rfl | rfl<;>cases ws<;>rw[qH] at e<;>(split at e<;>(try exact cR e))<;>exact cR e
 | k q =>
  rcases hm with rfl | rfl | rfl<;>cases ws<;>(first | exact cR e | simp[BT.meW] at e)
 | x _ =>
  rcases hm with rfl | rfl | rfl<;>cases ws<;>(first | exact cR e | simp[BT.meW] at e)
 | c _ _ =>
  rcases hm with rfl | rfl | rfl<;>cases ws<;>(first | exact cR e | simp[BT.meW] at e)
 | o q =>
  rcases hm with rfl | rfl | rfl<;>cases ws<;>(first | exact cR e | simp[BT.meW] at e)
end
section
theorem o4 {X:Cx}{e a:BT.E}{k:BT.Sl->BT.W->BT.HH->Option (BT.W×BT.HH)} (he:∀ s h,BT.ev F G e s h=BT.bnd (BT.ev F G a s h) (k s)) {σ:L2.St}{H:Hp}{Q:VK} (q:tD X F G e σ H Q) {R':V->Hp->Prop}
 (h1:∀ m s h x z h' v H1,RH X.K m H1 h->RS X.prog X.w X.K m H1 σ s->RW X.prog X.w X.K m H1 v x->k s x h=some (z,h')->Post X.prog X.w X.K m H1 z h' Q->R' v H1):tD X F G a σ H R':=by
 obtain ⟨m,s,h,z,h',R,S,ee,post⟩:=q
 rw[he] at ee
 obtain ⟨x,g,e1,e2⟩:=cU ee
 exact ⟨m,s,h,x,g,R,S,e1,fun v H1 m1 x1 R1 r1=>h1 m1 s g x z h' v H1 R1 (S.ext x1) r1 e2 fun w' H3 m3 x3 R3 r3=>post w' H3 m3 (x1.trans x3) R3 r3⟩
theorem Fk {X:Cx}{e a:BT.E}{k:BT.Sl->Bool->BT.HH->Option (BT.W×BT.HH)}{kk:BT.Sl->BT.W->BT.HH->Option (BT.W×BT.HH)} (he:∀ s h,BT.ev F G e s h=BT.bnd (BT.ev F G a s h) (kk s))
 (hk:∀ s x h r,kk s x h=some r->∃ b,x=.p (.bl b)/\k s b h=some r) {σ:L2.St}{H:Hp}{Q:VK} (q:tD X F G e σ H Q) {R':Bool->Hp->Prop}
 (h1:∀ m s h b z h' H1,RH X.K m H1 h->RS X.prog X.w X.K m H1 σ s->k s b h=some (z,h')->Post X.prog X.w X.K m H1 z h' Q->R' b H1):tDT X F G a σ H R':=by
 obtain ⟨m,s,h,z,h',R,S,ee,post⟩:=q
 rw[he] at ee
 obtain ⟨x,g,e1,e2⟩:=cU ee
 obtain ⟨b,rfl,e3⟩:=hk _ _ _ _ e2
 exact ⟨m,s,h,b,g,R,S,e1,fun H1 m1 x1 R1=>h1 m1 s g b z h' H1 R1 (S.ext x1) e3 fun w' H3 m3 x3 R3 r3=>post w' H3 m3 (x1.trans x3) R3 r3⟩
theorem kF {K:Nz} (r:RW P w K m H v (.p (.bl b))):v=.bl b:=by
 cases r with | p r=>cases r;rfl
theorem tW (e:BT.Bb eb x h=some r):∃ b,x=.p (.bl b)/\(if b=true then eb h else some (.p (.bl false),h))=some r:=by
 cases x with
 | p d =>
  cases d<;>simp only[BT.Bb] at e<;>try contradiction
  exact ⟨_,rfl,e⟩
 | r n=>exact cR e
 | k q=>exact cR e
 | c _ _=>exact cR e
 | x _=>exact cR e
 | o q=>exact cR e
theorem yy (e:BT.kOr eb x h=some r):∃ b,x=.p (.bl b)/\(if b=true then some (.p (.bl true),h) else eb h)=some r:=by
 cases x with
 | p d =>
  cases d<;>simp only[BT.kOr] at e<;>try contradiction
  exact ⟨_,rfl,e⟩
 | r n=>exact cR e
 | k q=>exact cR e
 | c _ _=>exact cR e
 | x _=>exact cR e
 | o q=>exact cR e
theorem Bw (e:BT.Bc ea eb x h=some r):∃ b,x=.p (.bl b)/\(if b=true then ea h else eb h)=some r:=by
 cases x with
 | p d =>
  cases d<;>simp only[BT.Bc] at e<;>try contradiction
  exact ⟨_,rfl,e⟩
 | r n=>exact cR e
 | k q=>exact cR e
 | c _ _=>exact cR e
 | x _=>exact cR e
 | o q=>exact cR e
theorem tX (e:BT.Ba x h=some r):∃ b,x=.p (.bl b)/\r=(.p (.bl (!b)),h):=by
 cases x with
 | p d =>
  cases d<;>simp only[BT.Ba] at e<;>try contradiction
  cases e;exact ⟨_,rfl,rfl⟩
 | r n=>exact cR e
 | k q=>exact cR e
 | c _ _=>exact cR e
 | x _=>exact cR e
 | o q=>exact cR e
theorem Bx (e:BT.A9 x h=some r):∃ i,x=.p (.int i)/\r=(.p (.int (-i)),h):=by
 cases x with
 | p d =>
  cases d<;>simp only[BT.A9] at e<;>try contradiction
  cases e;exact ⟨_,rfl,rfl⟩
 | r n=>exact cR e
 | k q=>exact cR e
 | c _ _=>exact cR e
 | x _=>exact cR e
 | o q=>exact cR e
theorem tY {X:Cx}{a b:BT.E} (σ:L2.St) (H:Hp) (Q:VK) (q:tD X F G (.and a b) σ H Q):Df (tD X F G a) (tD X F G b) σ H Q:=by
 refine o4 (k:=fun s=>BT.Bb (BT.ev F G b s)) (fun s h=>by simp only[BT.ev]) q fun m s h x z h' v H1 R S r e post=>?_
 obtain ⟨c,rfl,e2⟩:=tW e
 refine ⟨c,kF r,?_⟩
 cases c with
 | true=>rw[if_pos rfl] at e2 ⊢;exact ⟨m,s,h,z,h',R,S,e2,post⟩
 | false=>rw[if_neg (by decide)] at e2 ⊢;cases e2;exact post.here R (.bl _)
theorem yz {X:Cx}{a b:BT.E} (σ:L2.St) (H:Hp) (Q:VK) (q:tD X F G (.or a b) σ H Q):Hh (tD X F G a) (tD X F G b) σ H Q:=by
 refine o4 (k:=fun s=>BT.kOr (BT.ev F G b s)) (fun s h=>by simp only[BT.ev]) q fun m s h x z h' v H1 R S r e post=>?_
 obtain ⟨c,rfl,e2⟩:=yy e
 refine ⟨c,kF r,?_⟩
 cases c with
 | true=>rw[if_pos rfl] at e2 ⊢;cases e2;exact post.here R (.bl _)
 | false=>rw[if_neg (by decide)] at e2 ⊢;exact ⟨m,s,h,z,h',R,S,e2,post⟩
theorem tZ (σ:L2.St) (H:Hp) (Q:Bool->Hp->Prop) (q:tDT X F G (.and a b) σ H Q):Hf (tDT X F G a) (tDT X F G b) σ H Q:=by
 obtain ⟨m,s,h,c,h',R,S,ee,post⟩:=q
 simp only[BT.ev] at ee
 obtain ⟨x,g,e1,e2⟩:=cU ee
 obtain ⟨d,rfl,e3⟩:=tW e2
 refine ⟨m,s,h,d,g,R,S,e1,fun H1 m1 x1 R1=>?_⟩
 cases d with
 | true=>rw[if_pos rfl] at e3 ⊢;exact ⟨m1,s,g,c,h',R1,S.ext x1,e3,fun H2 m2 x2 R2=>post H2 m2 (x1.trans x2) R2⟩
 | false=>rw[if_neg (by decide)] at e3 ⊢;cases e3;exact post H1 m1 x1 R1
theorem yC (σ:L2.St) (H:Hp) (Q:Bool->Hp->Prop) (q:tDT X F G (.or a b) σ H Q):tOr (tDT X F G a) (tDT X F G b) σ H Q:=by
 obtain ⟨m,s,h,c,h',R,S,ee,post⟩:=q
 simp only[BT.ev] at ee
 obtain ⟨x,g,e1,e2⟩:=cU ee
 obtain ⟨d,rfl,e3⟩:=yy e2
 refine ⟨m,s,h,d,g,R,S,e1,fun H1 m1 x1 R1=>?_⟩
 cases d with
 | true=>rw[if_pos rfl] at e3 ⊢;cases e3;exact post H1 m1 x1 R1
 | false=>rw[if_neg (by decide)] at e3 ⊢;exact ⟨m1,s,g,c,h',R1,S.ext x1,e3,fun H2 m2 x2 R2=>post H2 m2 (x1.trans x2) R2⟩
theorem By (σ:L2.St) (H:Hp) (Q:Bool->Hp->Prop) (q:tDT X F G (.not a) σ H Q):Hg (tDT X F G a) σ H Q:=by
 obtain ⟨m,s,h,c,h',R,S,ee,post⟩:=q
 simp only[BT.ev] at ee
 obtain ⟨x,g,e1,e2⟩:=cU ee
 obtain ⟨d,rfl,e3⟩:=tX e2
 cases e3
 exact ⟨m,s,h,d,h',R,S,e1,fun H1 m1 x1 R1=>post H1 m1 x1 R1⟩
theorem BA {X:Cx}{a:BT.E} (σ:L2.St) (H:Hp) (Q:VK) (q:tD X F G (.not a) σ H Q):Dg (tD X F G a) σ H Q:=by
 refine o4 (k:=fun s=>BT.Ba) (fun s h=>by simp only[BT.ev]) q fun m s h x z h' v H1 R S r e post=>?_
 obtain ⟨c,rfl,e2⟩:=tX e
 cases e2
 exact ⟨c,kF r,post.here R (.bl _)⟩
theorem Fo {X:Cx}{c a b:BT.E} (σ:L2.St) (H:Hp) (Q:VK) (q:tD X F G (.ite c a b) σ H Q):tIf (tDT X F G c) (tD X F G a) (tD X F G b) σ H Q:=by
 refine Fk (k:=fun s t h=>if t=true then BT.ev F G a s h else BT.ev F G b s h) (kk:=fun s=>BT.Bc (BT.ev F G a s) (BT.ev F G b s)) (fun s h=>by simp only[BT.ev]) (fun s x h r e=>Bw e) q fun m s h t z h' H1 R S e post=>?_
 cases t with
 | true=>rw[if_pos rfl] at e ⊢;exact ⟨m,s,h,z,h',R,S,e,post⟩
 | false=>rw[if_neg (by decide)] at e ⊢;exact ⟨m,s,h,z,h',R,S,e,post⟩
theorem Fp {X:Cx}{a:BT.E} (σ:L2.St) (H:Hp) (Q:VK) (q:tD X F G (.neg a) σ H Q):tUn (rU fun i=>.int (-i)) (tD X F G a) σ H Q:=by
 refine o4 (k:=fun s=>BT.A9) (fun s h=>by simp only[BT.ev]) q fun m s h x z h' v H1 R S r e post=>?_
 obtain ⟨c,rfl,e2⟩:=Bx e
 cases e2
 cases r with | p r=>cases r;exact ⟨c,rfl,post.here R (.int _)⟩
theorem qJ (σ:L2.St) (H:Hp) (Q:VK) (q:tD X F G (.chain o o' a b c) σ H Q) :
 rH (rOp X.prog X.w X.K (BT.jC o)) (rOp X.prog X.w X.K (BT.jC o')) (tD X F G a) (tD X F G b) (tD X F G c) σ H Q:=by
 obtain ⟨m,s,h,z,h',R,S,ee,post⟩:=q
 simp only[BT.ev] at ee
 obtain ⟨x,h1,e1,e2⟩:=cU ee
 simp only[BT.k2] at e2
 obtain ⟨y,h2,e3,e4⟩:=cU e2
 refine ⟨m,s,h,x,h1,R,S,e1,fun v H1 m1 x1 R1 r1=>?_⟩
 refine ⟨m1,s,h1,y,h2,R1,S.ext x1,e3,fun u H2 m2 x2 R2 r2=>?_⟩
 unfold BT.oCh at e4
 cases g1:BT.rd x h2 with
 | none=>rw[g1] at e4;exact cR e4
 | some d =>
  cases y with
  | r _=>rw[g1] at e4;exact cR e4
  | k _=>rw[g1] at e4;exact cR e4
  | c _ _=>rw[g1] at e4;exact cR e4
  | x _=>rw[g1] at e4;exact cR e4
  | o _=>rw[g1] at e4;exact cR e4
  | p d' =>
   rw[g1] at e4
   simp only at e4
   have ho:∀ (o:BT.Cm) (x':BT.W) (hh:BT.HH) dd,BT.rd x' hh=some dd->∀ y' dd',BT.rd y' hh=some dd'->BT.jC o x' y' hh=(BT.eZ o dd dd').map fun z=>(.p (.bl z),hh):=by
    intro o x' hh dd q1 y' dd' q2
    unfold BT.jC
    cases y' with
    | p _=>simp only[q1,q2]
    | r _=>simp only[q1,q2]
    | k _=>exact cR q2
    | c _ _=>exact cR q2
    | x _=>exact cR q2
    | o _=>exact cR q2
   cases g3:BT.eZ o d d' with
   | none=>rw[g3] at e4;exact cR e4
   | some t =>
    rw[g3] at e4
    refine ⟨m2,h2,x,.p d',.p (.bl t),h2,R2,r1.ext x2,r2,by rw[ho o x h2 d g1 (.p d') d' rfl,g3];rfl,fun v3 H3 m3 x3 R3 r3=>⟨t,kF r3,?_⟩⟩
    cases t with
    | false =>
     rw[if_neg (by decide)]
     cases e4
     exact post _ H3 m3 ((x1.trans x2).trans x3) R3 (.p (.bl _))
    | true =>
     rw[if_pos rfl]
     obtain ⟨w3,h3,e5,e6⟩:=cU e4
     refine ⟨m3,s,h2,w3,h3,R3,((S.ext x1).ext x2).ext x3,e5,fun v4 H4 m4 x4 R4 r4=>?_⟩
     unfold BT.IB at e6
     cases g4:BT.rd w3 h3 with
     | none=>rw[g4] at e6;exact cR e6
     | some f =>
      rw[g4] at e6
      simp only at e6
      refine ⟨m4,h3,.p d',w3,z,h',R4,(r2.ext x3).ext x4,r4,by rw[ho o' (.p d') h3 d' rfl w3 f g4];exact e6,fun v5 H5 m5 x5 R5 r5=>post v5 H5 m5 ((((x1.trans x2).trans x3).trans x4).trans x5) R5 r5⟩
theorem Fq {lo:BT.Es} (hl:∀ σ H (Q:Option Int->Hp->Prop),(∃ m s h l zs h',RH X.K m H h/\RS X.prog X.w X.K m H σ s/\BT.evs F G lo s h=some (zs,h')/\(BT.dD zs).bind BT.oF=some l/\∀ H' m',Ext m H m' H'->RH X.K m' H' h'->Q l H')->tl σ H Q)
 (hh:∀ σ H (Q:Option Int->Hp->Prop),(∃ m s h l zs h',RH X.K m H h/\RS X.prog X.w X.K m H σ s/\BT.evs F G hi s h=some (zs,h')/\(BT.dD zs).bind BT.oF=some l/\∀ H' m',Ext m H m' H'->RH X.K m' H' h'->Q l H')->th σ H Q)
 (σ:L2.St) (H:Hp) (Q:VK) (q:tD X F G (.slc a lo hi) σ H Q):tSl (rSl X.prog X.w X.K) (tD X F G a) tl th σ H Q:=by
 obtain ⟨m,s,h,z,h',R,S,ee,post⟩:=q
 simp only[BT.ev] at ee
 obtain ⟨x,h1,e1,e2⟩:=cU ee
 simp only[BT.IE] at e2
 obtain ⟨ls,h2,e3,e4⟩:=cU e2
 simp only[BT.ID] at e4
 obtain ⟨us,h3,e5,e6⟩:=cU e4
 unfold BT.IC at e6
 cases g1:BT.rd x h3 with
 | none=>rw[g1] at e6;exact cR e6
 | some d =>
  cases g2:(BT.dD ls).bind BT.oF with
  | none=>rw[g1,g2] at e6;exact cR e6
  | some l =>
   cases g3:(BT.dD us).bind BT.oF with
   | none=>rw[g1,g2,g3] at e6;exact cR e6
   | some u =>
    rw[g1,g2,g3] at e6
    simp only at e6
    obtain ⟨b,e7,e8⟩:=c6 e6
    cases e8
    refine ⟨m,s,h,x,h1,R,S,e1,fun v H1 m1 x1 R1 r1=>hl σ H1 _ ⟨m1,s,h1,l,ls,h2,R1,S.ext x1,e3,g2,fun H2 m2 x2 R2=>hh σ H2 _ ⟨m2,s,h2,u,us,h',R2,(S.ext x1).ext x2,e5,g3,fun H3 m3 x3 R3=>?_⟩⟩⟩
    exact ⟨m3,h',x,d,b,R3,(r1.ext x2).ext x3,g1,e7,fun v5 H5 m5 x5 R5 r5=>post v5 H5 m5 (((x1.trans x2).trans x3).trans x5) R5 r5⟩
end
section
theorem ua (hs:sp=spF X.prog X.w X.K (F (.f f))) (q:tD X F G (.call f as) σ H Q):xo sp [] E0 (tDs X F G as) σ H Q:=by
 subst hs
 refine j3 (k:=fun ws h=>F (.f f) ws h) (fun s h=>by simp only[BT.ev]) q fun m h xs z h' vs H1 R r e post=>?_
 rw[Pj]
 exact ⟨m,xs,h,z,h',R,r,e,post⟩
theorem jr (q:tDs X F G .nil σ H Q):xm σ H Q:=by
 obtain ⟨m,s,h,zs,h',R,S,ee,post⟩:=q
 simp only[BT.evs] at ee
 cases ee
 exact post [] H m (.refl _ _) R .nil
theorem yD (O:Ok X F G sc N) (hg:dY sc f=true) (hn:fM f=true) (hc:CEs sc N as es) (ha:PA X es (tDs X F G as)) :
 PE X (.Call (.Name f p) es [] pos) (tD X F G (.call f as)):=by
 have hst:=gR hc
 intro pins s σ H Q I q
 have q0:=q
 obtain ⟨m,s',h,z,h',R,S,ee,post⟩:=q
 simp only[BT.ev] at ee
 obtain ⟨ws,h1,e1,e2⟩:=cU ee
 obtain ⟨fa,fd,ps,k,hm,hk,hb,hr,ok⟩:=O.call _ _ _ _ e2
 cases es with
 | nil =>
  cases as with
  | cons a r=>exact (mE hc).elim
  | nil=>exact (PE.weak (xw ok hr (d7 O hg) hm hk hb .nil nN (gk hn).1) (fun σ H Q z=>jr (ua (X:=X) rfl z))) pins s σ H Q I q0
 | cons e es =>
  simp only[cX,NG] at hst
  exact (PE.weak (AJ ok hr (d7 O hg) hm hk hb .nil nN ha (gk hn).1 (cY hst.1) (dN hst.2)) (fun σ H Q z=>ua rfl z)) pins s σ H Q I q0
theorem kG {id:String} (pa:Ua T) (slot:Slot T name id)
 (hty:typeOf (.builtin id)=pure (.type "method_descriptor")) (hm:MtR X id (rMe X.prog X.w X.K me)) (hb:dB oe=true) (hl:(apos.endLine==cpos.line)=true) (hlen:es.length < 20) (ho:PE X oe (tD X F G o)) (hc:CEs sc N as es) (ha:PA X es (tDs X F G as))
 (ty:∀ (m:List NL) (h h2:BT.HH) (H:Hp) (v:V) (x:BT.W) ws r,RH X.K m H h->RW X.prog X.w X.K m H v x->BT.ni x h=true->BT.meW me x ws h2=some r->(∃ σ s,RS X.prog X.w X.K m H σ s/\∃ h0,BT.ev F G o s h0=some (x,h))->tyV X.K T v H) :
 PE X (.Call (.Attribute oe name apos) es [] cpos) (tD X F G (.me me o as)):=by
 have hst:=gR hc
 have key:∀ σ H Q,tD X F G (.me me o as) σ H Q->tBM X.K T (rMe X.prog X.w X.K me) (tD X F G o) (tDs X F G as) σ H Q:=by
  intro σ H Q q
  obtain ⟨m,s,h,z,h',R,S,ee,post⟩:=q
  simp only[BT.ev] at ee
  obtain ⟨x,h1,e1,e2⟩:=cU ee
  obtain ⟨ok,e2⟩:=tV e2
  obtain ⟨ws,h2,e3,e4⟩:=cU e2
  refine ⟨m,s,h,x,h1,R,S,e1,fun v H1 m1 x1 R1 r1=>⟨ty m1 h1 h2 H1 v x ws _ R1 r1 ok e4 ⟨σ,s,S.ext x1,h,e1⟩,m1,s,h1,ws,h2,R1,S.ext x1,e3,fun vs H2 m2 x2 R2 r2=>?_⟩⟩
  exact ⟨m2,h2,x,ws,z,h',R2,r1.ext x2,r2,e4,fun v5 H5 m5 x5 R5 r5=>post v5 H5 m5 ((x1.trans x2).trans x5) R5 r5⟩
 cases es with
 | nil =>
  cases as with
  | cons a r=>exact (mE hc).elim
  | nil =>
   refine PE.weak (Ep pa slot hty hm ho (j0 hb) hl) fun σ H Q q=>?_
   obtain ⟨m,s,h,z,h',R,S,ee,post⟩:=key σ H Q q
   exact ⟨m,s,h,z,h',R,S,ee,fun v H1 m1 x1 R1 r1=>⟨(post v H1 m1 x1 R1 r1).1,jr (post v H1 m1 x1 R1 r1).2⟩⟩
 | cons e es =>
  simp only[cX,NG] at hst
  refine PE.weak (Dl pa slot hty hm ho ha (j0 hb) ?_ hl (cY hst.1) (dN hst.2)) key
  rw[i9 (es:=e :: es) (by simp only[cX,NG];exact hst)]
  have h30:decide ((e :: es).length+([]:List Qq).length+(if ([]:List Qq).isEmpty then 0 else 1) < 30)=true:=decide_eq_true (by
   simp only[NJ,Pi,RM,if_true] at hlen ⊢;lia)
  rw[h30];rfl
theorem kU (q:tD X F G (.bi b mu as) σ H Q):tCB (rBi X.prog X.w X.K b mu) (tDs X F G as) σ H Q:=by
 refine j3 (k:=fun ws h=>BT.kBi b mu ws h) (fun s h=>by simp only[BT.ev]) q fun m h xs z h' vs H1 R r e post=>?_
 exact ⟨m,h,xs,z,h',R,r,e,post⟩
theorem Ft (O:Ok X F G sc N) (hu:gw N=true) (hb:Du b mu x=true) (hg:dY sc x=true) (hst:cX (e :: es)=true) (ha:PA X (e :: es) (tDs X F G as)) :
 PE X (.Call (.Name x p) (e :: es) [] pos) (tD X F G (.bi b mu as)):=by
 simp only[cX,NG] at hst
 have hx:ya b mu=some x:=eq_of_beq hb
 have hB:=O.blt
 cases b<;>cases mu<;>first | exact cR hx | (change some _=some _ at hx)
 all_goals (cases hx)
 ·exact PE.weak (gF Fe (d7 O hg) (hB _ (by decide)) PySem.boot_len ha (by decide) (by decide) (cY hst.1) (dN hst.2)) (fun σ H Q z=>kU z)
 ·exact PE.weak (gF Ff (d7 O hg) (hB _ (by decide)) (by decide +kernel) ha (by decide) (by decide) (cY hst.1) (dN hst.2)) (fun σ H Q z=>kU z)
 ·exact PE.weak (gc Fg (d7 O hg) (hB _ (by decide)) (by decide +kernel) ha (by decide) (by decide) (cY hst.1) (dN hst.2)) (fun σ H Q z=>kU z)
 ·exact PE.weak (gc tT (d7 O hg) (hB _ (by decide)) (by decide +kernel) ha (by decide) (by decide) (cY hst.1) (dN hst.2)) (fun σ H Q z=>kU z)
 ·exact PE.weak (gc tT (d7 O hg) (hB _ (by decide)) (by decide +kernel) ha (by decide) (by decide) (cY hst.1) (dN hst.2)) (fun σ H Q z=>kU z)
 ·exact PE.weak (gc yr (d7 O hg) (hB _ (by decide)) (by decide +kernel) ha (by decide) (by decide) (cY hst.1) (dN hst.2)) (fun σ H Q z=>kU z)
theorem vU (hb:qC b=some (c,f)):ff X (.builtin "isinstance") (fun vs H Q=>∃ v,vs=[v,.ty c]/\rBi X.prog X.w X.K b false [v] H Q):=by
 intro pins s σ H vs us Q I rus h
 obtain ⟨v,rfl,m,h,ws,z,h',R,rws,e,post⟩:=h
 obtain ⟨u,u2,rfl,ru,ru2⟩:=rus.two
 cases ru2
 obtain ⟨ds,d,e1,e2,⟨_,rfl,rfl⟩ | ⟨_,q,_⟩⟩:=jH e
 ·have rr:=fV R rws e1
  cases rr with
  | cons r t =>
   cases t
   rw[yu hb] at e2
   cases e2
   exact Bs I r ru (yv hb X.K _) fun tk=>⟨.bl _,H,I.tok tk,rfl,post.here R (.bl _)⟩
 ·exact BT.dG q
theorem yE (O:Ok X F G sc N) (hb:qC b=some (c,f)) (hg:dY sc "isinstance"=true) (hg2:dY sc (NY c)=true) (hst:noStar e=true) (ha:PE X e (tD X F G a)) :
 PE X (.Call (.Name "isinstance" p) [e,.Name (NY c) p2] [] pos) (tD X F G (.bi b false (.cons a .nil))):=by
 have hB:=O.blt
 have hc:PE X (.Name (NY c) p2) (tC (.ty c)):=by
  cases b<;>simp only[qC] at hb<;>try contradiction
  all_goals (cases hb)
  ·exact jM (d7 O hg2) (hB _ (by decide)) (u:=.type "int") (by decide +kernel) rfl (by decide) (by decide)
  ·exact jM (d7 O hg2) (hB _ (by decide)) (u:=.type "bool") (by decide +kernel) rfl (by decide) (by decide)
  ·exact jM (d7 O hg2) (hB _ (by decide)) (u:=.type "str") (by decide +kernel) rfl (by decide) (by decide)
  ·exact jM (d7 O hg2) (hB _ (by decide)) (u:=.type "tuple") (by decide +kernel) rfl (by decide) (by decide)
  ·exact jM (d7 O hg2) (hB _ (by decide)) (u:=.type "list") (by decide +kernel) rfl (by decide) (by decide)
 refine PE.weak (gF (vU hb) (d7 O hg) (hB _ (by decide)) (by decide +kernel) (gZ ha (gZ hc om) (cY hst)) (by decide) (by decide) (cY hst) rfl) fun σ H Q q=>?_
 obtain ⟨m,s,h,z,h',R,S,ee,post⟩:=q
 simp only[BT.ev,BT.evs] at ee
 obtain ⟨ws,h1,e1,e2⟩:=cU ee
 obtain ⟨x,h2,e3,e4⟩:=cU e1
 simp only[BT.mq,BT.dH,BT.iy] at e4
 cases e4
 refine ⟨m,s,h,x,h1,R,S,e3,fun v H1 m1 x1 R1 r1=>?_⟩
 exact ⟨v,rfl,m1,h1,[x],z,h',R1,.cons r1 .nil,e2,fun v5 H5 m5 x5 R5 r5=>post v5 H5 m5 (x1.trans x5) R5 r5⟩
theorem Fv (σ:L2.St) (H:Hp) (Q:VK) (q:tD X F G (.tup as) σ H Q):HK (tDs X F G as) σ H Q:=by
 refine j3 (k:=fun ws h=>BT.EJ ws h) (fun s h=>by simp only[BT.ev]) q fun m h xs z h' vs H1 R r e post=>?_
 unfold BT.EJ at e
 cases g:BT.dD xs with
 | none=>rw[g] at e;exact cR e
 | some ds =>
  rw[g] at e
  simp only at e
  obtain ⟨c,e⟩:=dh e
  cases e
  have rd:=r.pure g
  have:=fE
  have hl:=rd.length
  exact ⟨by lia,fun p hp=>jl R hp rd post⟩
theorem Fw (σ:L2.St) (H:Hp) (Q:VK) (q:tD X F G (.lst mu as) σ H Q):HL (tDs X F G as) σ H Q:=by
 refine j3 (k:=fun ws h=>BT.EK mu ws h) (fun s h=>by simp only[BT.ev]) q fun m h xs z h' vs H1 R r e post=>?_
 unfold BT.EK at e
 cases g:BT.dD xs with
 | none=>rw[g] at e;exact cR e
 | some ds =>
  rw[g] at e
  simp only at e
  split at e
  ·rename_i c
   have rd:=r.pure g
   have:=fE
   have hl:=rd.length
   have ez:BT.new mu ds h=(z,h'):=NO e
   exact ⟨by lia,fun p hp=>oS (mu:=mu) R hp rd (by rw[ez];exact post)⟩
  ·exact cR e
theorem cons_of (σ:L2.St) (H:Hp) (Q:List V->Hp->Prop) (q:tDs X F G (.cons a as) σ H Q):Di (tD X F G a) (tDs X F G as) σ H Q:=by
 obtain ⟨m,s,h,zs,h',R,S,ee,post⟩:=q
 simp only[BT.evs] at ee
 obtain ⟨x,h1,e1,e2⟩:=cU ee
 simp only[BT.mq] at e2
 obtain ⟨xs,h2,e3,e4⟩:=cU e2
 simp only[BT.iy] at e4
 cases e4
 exact ⟨m,s,h,x,h1,R,S,e1,fun v H1 m1 x1 R1 r1=>⟨m1,s,h1,xs,h',R1,S.ext x1,e3,fun vs H2 m2 x2 R2 r2=>post _ H2 m2 (x1.trans x2) R2 (.cons (r1.ext x2) r2)⟩⟩
end
section
variable {K:Nz}
theorem RFs.get:∀ {vs:List (Str×V)}{fs:List (Str×BT.W)},RFs K m H vs fs->BT.iP f fs=some x->∃ v,vs.lookup f=some v/\RA K m H v x
 | _,_,.nil,e=>by exact cR e
 | _,_,.cons (f:=g) r t,e=>by
  rw[BT.nQ] at e
  by_cases c:f=g
  ·rw[if_pos c] at e;cases e;subst c;exact ⟨_,by simp,r⟩
  ·rw[if_neg c] at e
   obtain ⟨v,h1,h2⟩:=RFs.get t e
   exact ⟨v,by rw[Pb];rw[beq_false_of_ne c];exact h1,h2⟩
theorem RFs.none:∀ {vs:List (Str×V)}{fs:List (Str×BT.W)},RFs K m H vs fs->(BT.iP f fs).isNone=true->vs.lookup f=none
 | _,_,.nil,_=>rfl
 | _,_,.cons (f:=g) r t,e=>by
  rw[BT.nQ] at e
  by_cases c:f=g
  ·rw[if_pos c] at e;exact BT.dG e
  ·rw[if_neg c] at e
   rw[Pb,beq_false_of_ne c]
   exact RFs.none t e
theorem RFs.put (q:RA K m H v x):∀ {vs:List (Str×V)}{fs:List (Str×BT.W)},RFs K m H vs fs->RFs K m H (L2.eY f v vs) (BT.eY f x fs)
 | _,_,.nil=>.cons q .nil
 | _,_,.cons (f:=g) r t=>by
  rw[L2.eY,BT.vI]
  by_cases c:f=g
  ·rw[if_pos c,if_pos c.symm];subst c;exact .cons q t
  ·rw[if_neg c,if_neg (QB c)];exact .cons r (RFs.put q t)
theorem RFs.length:∀ {vs:List (Str×V)}{fs:List (Str×BT.W)},RFs K m H vs fs->vs.length=fs.length
 | _,_,.nil=>rfl
 | _,_,.cons _ t=>by rw[NJ,NJ,RFs.length t]
end
section
theorem BB (e:BT.Be f x h=some r):∃ n c fs w,x=.o n/\BT.oat h n=some (c,fs)/\BT.iP f fs=some w/\r=(w,h):=by
 cases x with
 | o n =>
  rw[BT.EO] at e
  cases g:BT.oat h n with
  | none=>rw[g] at e;exact cR e
  | some q =>
   obtain ⟨c,fs⟩:=q
   rw[g] at e
   obtain ⟨w,e1,e2⟩:=c6 e
   exact ⟨n,c,fs,w,rfl,g,e1,e2.symm⟩
 | p d=>exact cR e
 | r n=>exact cR e
 | k q=>exact cR e
 | c _ _=>exact cR e
 | x _=>exact cR e
theorem BD {sc:Ow}{N:List Str} (hb:dB x=true) (hf:attrName f=true) (ha:PE X x (tD X F G a)):PE X (.Attribute x f p) (tD X F G (.fld a f)):=by
 refine PE.weak (Eg ha (j0 hb)) fun σ H Q q=>?_
 refine Dz (k:=BT.Be f) (fun s h=>by simp only[BT.ev]) q fun m h x z h' v H1 R r e post=>?_
 obtain ⟨n,c,fs,w,rfl,e1,e2,e3⟩:=BB e
 cases e3
 cases r with
 | o hn =>
  obtain ⟨C,dx,vs,h1,h2,h3⟩:=R.qG _ _ _ _ hn e1
  obtain ⟨u,l,ra⟩:=h3.get e2
  exact ⟨_,C,dx,vs,u,rfl,h1,h2.cls,h2.no f hf,l,post u H1 m (.refl _ _) R ra.rw⟩
theorem nW (hb:dB o=true) (hst:cX args=true) (hlen:args.length < 20) (hl:(apos.endLine==pos.line)=true) :
 eval (.Call (.Attribute o m apos) args [] pos) env=(do
  let ov ← eval o env
  S7 apos.atName
  let (f,first) ← QY [ov] (S9 ov m (do return (← importBound o env).getD true))
  callWith pos f first (Qf pos (Oc args env)) (RU pos (Qx [] env))):=by
 have hf:methodCallForm (args.length+([]:List Qq).length) (Qf pos (Oc args env)) (RU pos (Qx [] env))=true:=by
  unfold methodCallForm
  have h30:decide (args.length+([]:List Qq).length+(if (RU pos (Qx [] env)).isEmpty then 0 else 1) < 30)=true:=decide_eq_true (by
   show args.length+0+0 < 30
   lia)
  rw[h30,i9 hst];rfl
 rw[arm_eval_Call,j0 hb]
 unfold methodCall
 rw[hf]
 have hp:methodCallPos true o env apos pos=pure pos:=by
  unfold methodCallPos
  rw[hl];rfl
 rw[hp]
 rfl
theorem yF (e:BT.xN F m ea x h=some r) :
 ∃ n c fs ws g,x=.o n/\BT.oat h n=some (c,fs)/\(BT.iP m fs).isNone=true/\ea h=some (ws,g)/\F (.m c m) (.o n :: ws) g=some r:=by
 cases x with
 | o n =>
  rw[BT.Bf] at e
  cases g:BT.oat h n with
  | none=>rw[g] at e;exact cR e
  | some q =>
   obtain ⟨c,fs⟩:=q
   rw[g] at e
   simp only at e
   split at e
   ·rename_i c1
    obtain ⟨ws,g2,e1,e2⟩:=cU e
    exact ⟨n,c,fs,ws,g2,rfl,g,c1,e1,e2⟩
   ·exact cR e
 | p d=>exact cR e
 | r n=>exact cR e
 | k q=>exact cR e
 | c _ _=>exact cR e
 | x _=>exact cR e
theorem yG (O:Ok X F G sc N) (hb:dB oe=true) (hl:(apos.endLine==cpos.line)=true) (hlen:es.length < 20) (ho:PE X oe (tD X F G o)) (hc:CEs sc N as es) (ha:PA X es (tDs X F G as)) :
 PE X (.Call (.Attribute oe m apos) es [] cpos) (tD X F G (.meth o m as)):=by
 have hst:=gR hc
 intro pins s σ H Q I q
 obtain ⟨m0,s',h,z,h',R,S,ee,post⟩:=q
 simp only[BT.ev] at ee
 obtain ⟨x,h1,e1,e2⟩:=cU ee
 obtain ⟨n,c,fs,ws,g,rfl,e3,e4,e5,e6⟩:=yF e2
 obtain ⟨C,ga,fd,ps,k,hC,hM,hB,hR,ok⟩:=O.meth _ _ _ _ _ e6
 have key:xq C m (spF X.prog X.w X.K (F (.m c m))) [] E0 (tD X F G o) (tDs X F G as) σ H Q:=by
  refine ⟨m0,s',h,.o n,h1,R,S,e1,fun v H1 m1 x1 R1 r1=>?_⟩
  cases r1 with
  | @o a _ hn =>
   obtain ⟨C',dx,vs,q1,q2,q3⟩:=R1.qG _ _ _ _ hn e3
   cases q2.cn.inj hC.cn
   refine ⟨a,dx,vs,rfl,q1,q3.none e4,m1,s',h1,ws,g,R1,S.ext x1,e5,fun us H2 m2 x2 R2 r2=>?_⟩
   show spF X.prog X.w X.K (F (.m c m)) (V.ref a :: (us++[])) H2 Q E0
   rw[Pj]
   exact ⟨m2,.o n :: ws,g,z,h',R2,.cons (.o (x2.ix hn)) r2,e6,fun v5 H5 m5 x5 R5 r5=>post v5 H5 m5 ((x1.trans x2).trans x5) R5 r5⟩
 cases es with
 | nil =>
  cases as with
  | cons a r=>exact (mE hc).elim
  | nil =>
   refine xy ho hC.cls hM ok hR hB .nil nN (nW hb hst hlen hl) pins s σ H Q I ?_
   obtain ⟨m,s,h,z,h',R,S,ee,post⟩:=key
   refine ⟨m,s,h,z,h',R,S,ee,fun v H1 m1 x1 R1 r1=>?_⟩
   obtain ⟨a,dx,fs,q1,q2,q3,q4⟩:=post v H1 m1 x1 R1 r1
   exact ⟨a,dx,fs,q1,q2,q3,jr q4⟩
 | cons e es =>
  have hst':=hst
  simp only[cX,NG] at hst'
  exact AK ho hC.cls hM ok hR hB .nil nN ha (cY hst'.1) (dN hst'.2) (nW hb hst hlen hl) pins s σ H Q I key
theorem yH (O:Ok X F G sc N) (hg:dY sc c=true) (hn:fM c=true) (hc:CEs sc N as es) (ha:PA X es (tDs X F G as)) :
 PE X (.Call (.Name c p) es [] pos) (tD X F G (.make c as)):=by
 have hst:=gR hc
 intro pins s σ H Q I q
 obtain ⟨m0,s',h,z,h',R,S,ee,post⟩:=q
 simp only[BT.ev] at ee
 obtain ⟨ws,h1,e1,e2⟩:=cU ee
 rw[BT.xO] at e2
 obtain ⟨y,h2,e3,e4⟩:=cU e2
 have e5:y=.p .non/\(z,h')=(.o h1.length,h2):=by
  cases y with
  | p d=>cases d<;>simp[BT.tP] at e4;exact ⟨rfl,by rw[e4.1,e4.2]⟩
  | r n=>exact cR e4
  | k q=>exact cR e4
  | c _ _=>exact cR e4
  | x _=>exact cR e4
  | o n=>exact cR e4
 obtain ⟨rfl,e5⟩:=e5
 cases e5
 obtain ⟨C,ga,fd,ps,k,hC,hmg,hM,hB,hR,ok⟩:=O.mkc _ _ _ _ e3
 have key:xu C (spF X.prog X.w X.K (F (.m c "__init__"))) [] E0 (tDs X F G as) σ H Q:=by
  refine ⟨m0,s',h,ws,h1,R,S,e1,fun us H1 m1 x1 R1 r1 x dx nx ndx ne=>?_⟩
  rw[Pj]
  have xa:Ext m1 H1 m1 (upd H1 dx (.own x)):=gx ndx
  have Ra:RH X.K m1 (upd H1 dx (.own x)) h1:=R1.new ndx
  have nx':upd H1 dx (.own x) x=none:=by rw[dg (QB ne)];exact nx
  have xb:Ext m1 (upd H1 dx (.own x)) (m1++[x]) (upd (upd H1 dx (.own x)) x (.ins C dx [])):=jW nx'
  have Rb:RH X.K (m1++[x]) (upd (upd H1 dx (.own x)) x (.ins C dx [])) (h1++[.o c []]):=Ra.Jh nx' ⟨C,dx,[],dU,hC,.nil⟩
  have ix:(m1++[x])[h1.length]?=some x:=by rw[← R1.len];simp
  refine ⟨m1++[x],.o h1.length :: ws,h1++[.o c []],.p .non,h',Rb,.cons (.o ix) (r1.ext (xa.trans xb)),e3,fun v H2 m2 x2 R2 r2=>?_⟩
  cases r2 with
  | p r2 =>
   cases r2
   exact ⟨rfl,post _ H2 m2 (((x1.trans xa).trans xb).trans x2) R2 (.o (x2.ix ix))⟩
 cases es with
 | nil =>
  cases as with
  | cons a r=>exact (mE hc).elim
  | nil =>
   refine xA hM ok hR (d7 O hg) hmg hB .nil nN (gk hn).1 pins s σ H Q I ?_
   exact jr key
 | cons e es =>
  simp only[cX,NG] at hst
  exact AM hM ok hR (d7 O hg) hmg hB .nil nN ha (gk hn).1 (cY hst.1) (dN hst.2) pins s σ H Q I key
noncomputable def Fx (o:BT.Bin):TIp:=fun x y H Q=>∃ i j z,x=.int i/\y=.int j/\BT.lU o (.int i) (.int j)=some (.int z)/\Q (.int z) H
noncomputable def yI:BT.Bin->QK->Bool
 | .add,.Add=>true
 | .sub,.Sub=>true
 | .mul,.Mult=>true
 | _,_=>false
theorem uc (h:yI o op=true):PIp X op (Fx o):=by
 rintro pins s σ H x y u v Q I rx ry ⟨i,j,z,rfl,rfl,e,q⟩
 obtain ⟨t,rfl⟩:=(show ∃ t,u=Ri i t from rx)
 obtain ⟨t',rfl⟩:=(show ∃ t',v=Ri j t' from ry)
 cases o<;>cases op<;>cases h
 ·cases e;exact PyProof.Rows.iadd_int ⟨.int (i+j),H,I.tok _,⟨_,rfl⟩,q⟩
 ·cases e;exact PyProof.Rows.isub_int ⟨.int (i - j),H,I.tok _,⟨_,rfl⟩,q⟩
 ·rw[BT.qt] at e
  obtain ⟨c,e⟩:=dh e
  cases e
  have hc:AE i j:=by
   rcases Pk _ _ ▸ c with c | c
   ·exact .inl (oV c)
   ·exact .inr (oV c)
  exact PyProof.Rows.imul_int ⟨.int (i*j),H,I.tok _,⟨_,rfl⟩,q⟩ hc.ok
theorem ud (h:BT.lU o d e=some z):∃ i j k,d=.int i/\e=.int j/\z=.int k:=by
 cases d with
 | int i =>
  cases e with
  | int j =>
   refine ⟨i,j,?_⟩
   cases o with
   | add=>exact ⟨_,rfl,rfl,(NO h).symm⟩
   | sub=>exact ⟨_,rfl,rfl,(NO h).symm⟩
   | mul =>
    rw[BT.qt] at h
    split at h
    ·exact ⟨_,rfl,rfl,(NO h).symm⟩
    ·exact cR h
   | _=>exact cR h
  | _=>cases o<;>exact cR h
 | _=>cases o<;>exact cR h
end
section
variable {K:Nz}
end
theorem kH (r:cZ vs us):∀ l:List Nat,cZ (l.filterMap fun i=>vs[i]?) (l.filterMap fun i=>us[i]?)
 | []=>.nil
 | i :: l=>by
  rw[OI,OI]
  cases g:vs[i]? with
  | none =>
   have:us[i]?=none:=by
    have h:=r.length
    rw[SG] at g ⊢
    lia
   rw[this]
   exact kH r l
  | some d =>
   obtain ⟨v,e,q⟩:=r.get g
   rw[e]
   exact .cons q (kH r l)
noncomputable def qK (k:Int) (xs:List V):List V:=(T3 (On none none (some k) xs.length).1 (On none none (some k) xs.length).2.1 (On none none (some k) xs.length).2.2).filterMap fun i=>xs[i]?
section
theorem Fy (hk:k≠0) (he:PE X e te) (hs:PE X se (tC (.int k))) :
 PE X (.Subscript e (.Slice none none (some se) p2) pos) (fun σ H Q=>te σ H fun x H1=>∃ a xs,x=.ref a/\SqL X.K H1 a xs/\∀ p,H1 p=none->Q (.ref p) (upd H1 p (.lst (qK k xs)))):=by
 intro pins s σ H Q I h
 refine T4 (thn (he pins s σ H _ I h) fun v s1 zq=>?_)
 obtain ⟨x,H1,I1,r1,a,xs,ex,hx,q⟩:=zq
 subst ex
 cases r1
 refine wpAny_Slice ?_
 rw[RQ]
 refine wpAny_pure (wpAny_pure ?_)
 rw[Ug]
 refine thn (hs pins s1 σ H1 (fun v H'=>v=.int k/\H'=H1) I1 ⟨rfl,rfl⟩) fun vs s3 zq=>?_
 obtain ⟨y,H3,I3,r3,hy,hh⟩:=zq
 subst hy hh
 obtain ⟨t,rfl⟩:=r3
 have I4:Inv X pins σ H3 { s3 with heap:=s3.heap.push { cls:=.type "slice",data:=.fields #[.none,.none,.int k t] } }:=I3.kept (t':=s3.toks) fun b ob q=>NC _ q
 obtain ⟨its,rv,p,hz⟩:=I4.list hx
 have hg:wpAny (N5 X.prog X.w) X.A (QZ (.ref a) (.ref s3.heap.objs.size)) (EP X pins σ Q) X.xe { s3 with heap:=s3.heap.push { cls:=.type "slice",data:=.fields #[.none,.none,.int k t] } }:=by
  have hlen:=rv.length
  refine TZ p.isList (QL ..) .none .none (.int k t) (by intro z;exact hk (NO z)) ?_ (by rw[NF];lia)
  have hp:slicePick its.toArray none none (some k)=((T3 (On none none (some k) xs.length).1 (On none none (some k) xs.length).2.1 (On none none (some k) xs.length).2.2).filterMap fun i=>its[i]?).toArray:=by
   unfold slicePick
   rw[NF,← hlen]
   simp
  rw[hp]
  have hq:=kH rv (T3 (On none none (some k) xs.length).1 (On none none (some k) xs.length).2.1 (On none none (some k) xs.length).2.2)
  have hz':(qK k xs).length<=xs.length:=by
   have:=slicePick_size_le its.toArray none none (some k)
   rw[hp,NF,NF] at this
   have e:=hq.length
   unfold qK
   lia
  refine ⟨.ref (s3.heap.push { cls:=.type "slice",data:=.fields #[.none,.none,.int k t] }).objs.size,_,I4.laid (t':=s3.toks) (o:=.lst (qK k xs)) (fun b ob q=>NC _ q) (NI _) ?_,rfl,q _ (I4.hok.fresh (NI _))⟩
  exact ⟨by lia,_,0,hq,NR _ rfl⟩
 show wpAny (N5 X.prog X.w) X.A (RP e (.Slice none none (some se) p2) (.ref a) (.ref s3.heap.objs.size)) (EP X pins σ Q) X.xe { s3 with heap:=s3.heap.push { cls:=.type "slice",data:=.fields #[.none,.none,.int k t] } }
 exact SV (ops:=[.ref a,.ref s3.heap.objs.size]) p.isList.typeIs slot_list_getitem.lookup hg (by with_unfolding_all rfl)
theorem ue (h:(Bj e).bind cInt=some k):∃ a b,e=.Constant (.int k) a b:=by
 cases e with
 | Constant c a b =>
  cases c with
  | int j=>cases h;exact ⟨a,b,rfl⟩
  | _=>exact absurd (show (none:Option Int)=some _ from h) (fun z=>nomatch z)
 | _=>exact absurd (show (none:Option Int)=some _ from h) (fun z=>nomatch z)
theorem yJ (h:oQ k e=true):(∃ a b,e=.Constant (.int k) a b/\0 < k)\/∃ j a b p,e=.UnaryOp .USub (.Constant (.int j) a b) p/\k=-j/\0 < j:=by
 unfold oQ at h
 rw[Pk,NG,NG,decide_eq_true_eq,decide_eq_true_eq] at h
 rcases h with ⟨h1,h2⟩ | ⟨h1,h2⟩
 ·obtain ⟨a,b,e1⟩:=ue (eq_of_beq h1)
  exact .inl ⟨a,b,e1,h2⟩
 ·have h1:=eq_of_beq h1
  cases e with
  | UnaryOp o e p =>
   by_cases c:o=.USub
   ·subst c
    have h3:(Bj e).bind cInt=some (-k):=h1
    obtain ⟨a,b,rfl⟩:=ue h3
    exact .inr ⟨-k,a,b,p,rfl,by lia,by lia⟩
   ·have:unE (.UnaryOp o e p)=none:=if_neg c
    rw[this] at h1
    exact cR h1
  | _=>exact absurd (show (none:Option Int)=some _ from h1) (fun z=>nomatch z)
theorem BE (hk:oQ k se=true) (ha:PE X x (tD X F G a)):PE X (.Subscript x (.Slice none none (some se) p2) p) (tD X F G (.stp mu k a)):=by
 have hs:k≠0/\PE X se (tC (.int k)):=by
  rcases yJ hk with ⟨a,b,rfl,h⟩ | ⟨j,a,b,p,rfl,rfl,h⟩
  ·exact ⟨by lia,oh⟩
  ·exact ⟨by lia,PE.weak (wU rG oh) fun σ H Q q=>⟨_,rfl,q⟩⟩
 refine PE.weak (Fy hs.1 ha hs.2) fun σ H Q q=>?_
 refine Dz (k:=BT.EM mu k) (fun s h=>by simp only[BT.ev]) q fun m h x z h' v H1 R r e post=>?_
 unfold BT.EM at e
 cases g:BT.rd x h with
 | none=>rw[g] at e;exact cR e
 | some d =>
  rw[g] at e
  cases d with
  | lst xs =>
   simp only at e
   have r1:=dQ R r g
   obtain ⟨a,vs,rfl,hl,rr⟩:=r1.lst
   have ez:BT.new mu (BT.xM k xs) h=(z,h'):=NO e
   refine ⟨a,vs,rfl,hl.sq,fun p hp=>oS (mu:=mu) R hp ?_ (by rw[ez];exact post)⟩
   unfold qK BT.xM
   rw[rr.length]
   exact RDs.pick rr _
  | _=>exact cR e
theorem yK {X:Cx}{b:BT.Bi}{g:Int->Int->Int} (hb:∀ ds d,BT.biD b ds=some d->∃ i j,ds=[.int i,.int j]/\d=.int (g i j)) {id:String} (hc:ff X (.builtin id) (fun xs H Q=>∃ i j,xs=[.int i,.int j]/\Q (.int (g i j)) H)):ff X (.builtin id) (rBi X.prog X.w X.K b false):=by
 intro pins s σ H vs us Q I rus h
 obtain ⟨m,h,ws,z,h',R,rws,e,post⟩:=h
 obtain ⟨ds,d,e1,e2,⟨_,rfl,rfl⟩ | ⟨_,q,_⟩⟩:=jH e
 ·have rr:=fV R rws e1
  obtain ⟨i,j,rfl,rfl⟩:=hb _ _ e2
  cases rr with
  | cons r t =>
   cases t with
   | cons r' t' =>
    cases t'
    cases r.int
    cases r'.int
    exact hc pins s σ H _ us Q I rus ⟨i,j,rfl,post.here R (.int _)⟩
 ·exact BT.dG q
theorem BH {X:Cx}{sc:Ow}{N:List Str} (O:Ok X F G sc N) (hu:gw N=true) {b:BT.Bi}{as:BT.Es}{x:Str}{e:NH}{es:List NH}{p pos:Pos} (hb:yb b x=true) (hg:dY sc x=true) (hst:cX (e :: es)=true) (ha:PA X (e :: es) (tDs X F G as)) :
 PE X (.Call (.Name x p) (e :: es) [] pos) (tD X F G (.bi b false as)):=by
 simp only[cX,NG] at hst
 have hB:=O.blt
 cases b<;>first | exact BT.dG hb | (replace hb:=eq_of_beq hb)
 ·subst hb
  refine PE.weak (gF (yK (b:=.min2) (g:=fun i j=>if j < i then j else i) (fun ds d h=>?_) (vn (O.calm hu))) (d7 O hg) (hB _ (by decide +kernel)) (by decide +kernel) ha (by decide) (by decide) (cY hst.1) (dN hst.2)) (fun σ H Q z=>kU z)
  match ds,h with
  | [.int i,.int j],h=>exact ⟨i,j,rfl,(NO h).symm⟩
 ·subst hb
  refine PE.weak (gF (yK (b:=.max2) (g:=fun i j=>if j > i then j else i) (fun ds d h=>?_) (vm (O.calm hu))) (d7 O hg) (hB _ (by decide +kernel)) (by decide +kernel) ha (by decide) (by decide) (cY hst.1) (dN hst.2)) (fun σ H Q z=>kU z)
  match ds,h with
  | [.int i,.int j],h=>exact ⟨i,j,rfl,(NO h).symm⟩
end
section
variable {K:Nz}
noncomputable def nq (H H':Hp):Prop:=(∀ a vs,Rd H a (.tup vs)->Rd H' a (.tup vs))/\∀ a vs,Rd H a (.lst vs)->Rd H' a (.lst vs)
mutual
theorem RD.tr (q:nq H H'):∀ {v:V}{d:BT.D},RD K m H v d->RD K m H' v d
 | _,_,.non=>.non
 | _,_,.bl b=>.bl b
 | _,_,.int i=>.int i
 | _,_,.str y h=>.str y h
 | _,_,.tup h r=>.tup (h.elim (fun z=>.inl ⟨q.1 _ _ z.1,z.2⟩) .inr) (RDs.tr q r)
 | _,_,.lst h r=>.lst (h.elim (fun z=>.inl ⟨q.2 _ _ z.1,z.2⟩) .inr) (RDs.tr q r)
theorem RDs.tr (q:nq H H'):∀ {vs:List V}{ds:List BT.D},RDs K m H vs ds->RDs K m H' vs ds
 | _,_,.nil=>.nil
 | _,_,.cons r t=>.cons (RD.tr q r) (RDs.tr q t)
end
theorem RA.tr (q:nq H H') (r:RA K m H v x):RA K m H' v x:=by
 cases r with
 | p r=>exact .p (r.tr q)
 | r h=>exact .r h
 | o h=>exact .o h
theorem RFs.tr (q:nq H H') (r:RFs K m H vs fs):RFs K m H' vs fs:=by
 induction r with
 | nil=>exact .nil
 | cons r t ih=>exact .cons (r.tr q) ih
theorem RCs.tr (q:nq H H') (r:RCs K m H vs cs):RCs K m H' vs cs:=by
 induction r with
 | nil=>exact .nil
 | cons r t ih=>exact .cons (r.tr q) ih
theorem RWs.tr (q:nq H H') (r:RWs P w K m H vs ws) (n:BT.noC ws=true):RWs P w K m H' vs ws:=by
 induction r with
 | nil=>exact .nil
 | cons r t ih =>
  cases r with
  | p r=>exact .cons (.p (r.tr q)) (ih n)
  | r h=>exact .cons (.r h) (ih n)
  | k _ _=>exact BT.dG n
  | kl _ _=>exact BT.dG n
  | o h=>exact .cons (.o h) (ih n)
  | c _ _=>exact BT.dG n
  | x _=>exact BT.dG n
  | g _ _=>exact BT.dG n
theorem RCs.ws (r:RCs K m H vs cs):RWs P w K m H vs (cs.map BT.Cp.w):=by
 induction r with
 | nil=>exact .nil
 | cons r t ih=>exact .cons r.rw ih
theorem RWs.app (r:RWs P w K m H vs ws) (t:RWs P w K m H us zs):RWs P w K m H (vs++us) (ws++zs):=by
 induction r with
 | nil=>exact t
 | cons r _ ih=>exact .cons r ih
theorem RKs.tr (q:nq H H') (r:RKs K m H vs kvs):RKs K m H' vs kvs:=by
 induction r with
 | nil=>exact .nil
 | cons hk r t ih=>exact .cons (hk.tr q) (r.tr q) ih
theorem RH.tr (R:RH K m H h) (q:nq H H') (k:∀ a∈m,H' a=H a) (tb:TB K H'):RH K m H' h:=by
 refine ⟨R.nd,R.len,fun i a c e1 e2=>?_,tb⟩
 have z:=R.cl i a c e1 e2
 have e:=k a (NZ e1)
 cases c with
 | l xs=>obtain ⟨vs,h1,h2⟩:=z;exact ⟨vs,e.trans h1,h2.tr q⟩
 | o c fs=>obtain ⟨C,dx,vs,h1,h2,h3⟩:=z;exact ⟨C,dx,vs,e.trans h1,h2,h3.tr q⟩
 | d kvs=>obtain ⟨vs,h1,h2⟩:=z;exact ⟨vs,e.trans h1,h2.tr q⟩
 | z=>obtain ⟨ob,vs,h1⟩:=z;exact ⟨ob,vs,e.trans h1⟩
theorem Le.sq (q:Le H H'):nq H H':=⟨fun a vs r=>r.elim (fun z=>.inl (q _ _ z)) fun ⟨o,z⟩=>.inr ⟨o,q _ _ z⟩,fun a vs r=>r.elim (fun z=>.inl (q _ _ z)) fun ⟨o,z⟩=>.inr ⟨o,q _ _ z⟩⟩
theorem RH.le (R:RH K m H h) (q:Le H H'):RH K m H' h:=R.tr q.sq (fun a ha=>by
 obtain ⟨o,e,_⟩:=R.mu ha
 rw[e];exact q _ _ e) (q.tb R.tb)
theorem iY.le (q:Le H H') (r:iY m H cl xs vs):iY m H' cl xs vs:=by
 induction r with
 | nil=>exact .nil
 | cons h1 h2 h3 r t ih=>exact .cons h1 ⟨q _ _ h2.1,h2.2⟩ h3 r ih
theorem jV.le (q:Le H H') (h:jV m H f L vs):jV m H' f L vs:=by
 obtain ⟨bt,ps,fs,pa,be,sc,cl,pm,ctv,c',oc,os,t,ql,h0,h1,h2,h3,h4,h5,h6,h7,h8,h9,h10⟩:=h
 exact ⟨bt,ps,fs,pa,be,sc,cl,pm,ctv,c',oc,os,t,ql,h0,h1,h2,h3,h4,h5,⟨q _ _ h6.1,h6.2⟩,⟨q _ _ h7.1,h7.2⟩,h8,h9,h10.le q⟩
theorem RW.le (q:Le H H') {v:V}{x:BT.W} (r:RW P w K m H v x):RW P w K m H' v x:=by
 cases r with
 | p r=>exact .p (r.tr q.sq)
 | r h=>exact .r h
 | k h r=>exact .k h r
 | kl h r=>exact .kl ⟨q _ _ h.1,h.2⟩ (r.tr q.sq)
 | o h=>exact .o h
 | c h r=>exact .c (h.le q) (r.tr q.sq)
 | x h n xt=>exact .x (q _ _ h) n xt
 | g h r=>exact .g h r
end
noncomputable def fF (cl:List (Str×NL)) (H:Hp):Prop:=∀ x c,cl.lookup x=some c->∃ o u,H c=some (.frz o (.own 0))/\o.data=.cell u
open Classical in
noncomputable def hid (cl:List (Str×NL)) (H:Hp):Hp:=fun b=>if ∃ x,cl.lookup x=some b then none else H b
open Classical in
noncomputable def ret (cl:List (Str×NL)) (H0 H:Hp):Hp:=fun b=>if ∃ x,cl.lookup x=some b then H0 b else H b
section
theorem yL (e:cl.lookup x=some b):hid cl H b=none:=if_pos ⟨x,e⟩
theorem jt (e:¬ ∃ x,cl.lookup x=some b):hid cl H b=H b:=if_neg e
theorem gS (e:H b=none):hid cl H b=none:=by
 unfold hid;split<;>first | rfl | exact e
theorem mG (e:cl.lookup x=some b):ret cl H H' b=H b:=if_pos ⟨x,e⟩
theorem fY (e:¬ ∃ x,cl.lookup x=some b):ret cl H H' b=H' b:=if_neg e
theorem Fz (e:hid cl H b=some u):H b=some u/\¬ ∃ x,cl.lookup x=some b:=by
 unfold hid at e
 split at e
 ·exact BT.iT e
 ·rename_i c;exact ⟨e,c⟩
noncomputable def j4:HO->Bool
 | .frz o (.own _)=>match o.data with | .cell _=>true | _=>false
 | _=>false
theorem Jq {o:HO} (z:E3 o=true):j4 o=false:=by
 cases o with
 | frz ob u=>cases u<;>first | rfl | exact BT.dG z
 | _=>first | rfl | exact BT.dG z
theorem fF.out (C:fF cl H) (e:H b=some u) (n:j4 u=false):¬ ∃ x,cl.lookup x=some b:=fun ⟨x,q⟩=>by
 obtain ⟨o,v,h1,h2⟩:=C x b q
 rw[e] at h1;cases h1
 simp[j4,h2] at n
theorem fF.hid (C:fF cl H) (e:H b=some u) (n:j4 u=false):BS.hid cl H b=some u:=by rw[jt (C.out e n)];exact e
theorem fF.sq (C:fF cl H):nq H (BS.hid cl H):=⟨fun a vs r=>r.elim (fun z=>.inl (C.hid z rfl)) fun ⟨o,z⟩=>.inr ⟨o,C.hid z rfl⟩,fun a vs r=>r.elim (fun z=>.inl (C.hid z rfl)) fun ⟨o,z⟩=>.inr ⟨o,C.hid z rfl⟩⟩
theorem fF.tb (C:fF cl H) {K:Nz} (t:TB K H):TB K (BS.hid cl H):=t.mono (fun P ps e=>C.hid e rfl) fun a o vs d e=>C.hid e (by simp[j4,d])
theorem fF.rh (C:fF cl H) {K:Nz} (R:RH K m H h):RH K m (BS.hid cl H) h:=R.tr C.sq (fun a ha=>by
 obtain ⟨o,e,z⟩:=R.mu ha
 rw[e];exact C.hid e (Jq z)) (C.tb R.tb)
theorem FA (N:∀ x c,cl.lookup x=some c->H' c=none):Le H' (ret cl H H'):=fun a u e=>by
 rw[fY (fun ⟨x,q⟩=>by rw[N x a q] at e;exact BT.iT e)];exact e
theorem fF.FD (C:fF cl H) (N:∀ x c,cl.lookup x=some c->H' c=none) {K:Nz} (x:Ext m (BS.hid cl H) m' H') (R:RH K m' H' h'):Ext m H m' (ret cl H H'):=by
 obtain ⟨e,hm,he⟩:=x.pre
 refine ⟨⟨e,hm,fun a ha=>?_⟩,fun a o h n t=>?_,fun a h=>?_,fun a ob vs h=>?_⟩
 ·have z:=he a ha
  have hne:¬ ∃ y,cl.lookup y=some a:=fun ⟨y,q⟩=>by
   obtain ⟨o,e1,_⟩:=R.mu (a:=a) (by rw[hm];exact Ob _ ha)
   rw[N y a q] at e1;exact BT.iT e1
  rw[jt hne] at z;exact z
 ·by_cases c:∃ y,cl.lookup y=some a
  ·obtain ⟨y,q⟩:=c;rw[mG q];exact h
  ·rw[fY c];exact x.keep a o (by rw[jt c];exact h) n t
 ·by_cases c:∃ y,cl.lookup y=some a
  ·obtain ⟨y,q⟩:=c;rw[mG q] at h;exact h
  ·rw[fY c] at h;have z:=x.live a h;rw[jt c] at z;exact z
 ·by_cases c:∃ y,cl.lookup y=some a
  ·obtain ⟨y,q⟩:=c;rw[mG q];exact h
  ·rw[fY c];exact x.frz a ob vs (by rw[jt c];exact h)
end
theorem iY.get (r:iY m H cl fs vs):∀ {i:Nat}{x:Str},fs[i]?=some x->∃ c o u v,cl.lookup x=some c/\Tr m H c o/\o.data=.cell (some u)/\vs[i]?=some v/\RelV v u:=by
 induction r with
 | nil=>intro i x e;simp at e
 | cons h1 h2 h3 r t ih =>
  intro i x e
  cases i with
  | zero=>simp at e;subst e;exact ⟨_,_,_,_,h1,h2,h3,rfl,r⟩
  | succ i=>simpa using ih (by simpa using e)
theorem iY.len (r:iY m H cl fs vs):vs.length=fs.length:=by
 induction r with
 | nil=>rfl
 | cons h1 h2 h3 r t ih=>simp[ih]
theorem iY.cells (r:iY m H cl fs vs) (hf:∀ x c,cl.lookup x=some c->x∈fs):fF cl H:=fun x c e=>by
 obtain ⟨i,hi⟩:=O4 (hf x c e)
 obtain ⟨c',o,u,v,h1,h2,h3,_⟩:=r.get hi
 rw[e] at h1;cases h1
 exact ⟨o,_,h2.1,h3⟩
theorem BI (hp:LPa pa ps) (hl:us.length=ps.length):Uj (PySem.W.kla_fn name q pa be sc cl pm cdv ctv) ⟨us,[]⟩=pure (ps.zip us):=by
 cases hp with
 | one=>match us,hl with | [_],_=>rfl
 | two=>match us,hl with | [_,_],_=>rfl
theorem FE (hp:LPa pa ps) (nd:ps.Nodup) (hl:us.length=ps.length) {i:Nat} (e:ps[i]?=some x):∃ u,us[i]?=some u/\(ps.zip us).reverse.lookup x=some u:=by
 cases hp with
 | one =>
  match us,hl,i,e with
  | [u],_,0,e=>simp at e;subst e;exact ⟨u,rfl,by simp⟩
  | [u],_,i+1,e=>simp at e
 | two =>
  match us,hl,i,e with
  | [u,v],_,0,e =>
   simp at e;subst e
   simp at nd
   exact ⟨u,rfl,by simp[Pb,beq_false_of_ne nd]⟩
  | [u,v],_,1,e=>simp at e;subst e;exact ⟨v,rfl,by simp⟩
  | [u,v],_,i+2,e=>simp at e
structure LF (ps fs:List Str) (sc:Ow):Prop where
 kd:sc.kind=.function
 co:sc.isCoroutine=false
 ge:sc.isGenerator=false
 cell:∀ y∈sc.names,y.2≠.cell
 loc:∀ x∈ps,sc.names.lookup x=some .local
 fre:∀ x∈fs,sc.names.lookup x=some .free/\(x,OF)∈sc.names
 all:∀ y∈sc.names,y.2=.free->y.1∈fs
 nd:(ps++fs).Nodup
theorem mH:∀ {l:List Str},jE l=true->l.Nodup
 | [],_=>SE
 | x :: r,h=>by
  simp only[jE,NG,P5] at h
  refine List.nodup_cons.mpr ⟨fun z=>?_,mH h.2⟩
  have:=h.1
  simp[z] at this
theorem Mw (h:qF ps fs sc=true):LF ps fs sc:=by
 simp only[qF,NG,P5] at h
 obtain ⟨⟨⟨⟨⟨⟨⟨h1,h2⟩,h3⟩,h4⟩,h5⟩,h6⟩,h7⟩,h8⟩:=h
 rw[Oz] at h4 h5 h6 h7
 refine ⟨eq_of_beq h1,h2,h3,fun y hy e=>?_,fun x hx=>eq_of_beq (h5 x hx),fun x hx=>?_,fun y hy e=>?_,mH h8⟩
 ·have:=h4 y hy;rw[e] at this;exact BT.dG this
 ·have:=h6 x hx
  simp only[NG] at this
  exact ⟨eq_of_beq this.1,by simpa using this.2⟩
 ·have:=h7 y hy
  rw[e] at this
  simpa using this
noncomputable def yM (P:NT) (w:N7) (K:Nz) (mg:Str->Option Value) (base:Heap) (N:List Str) (q:Str) (sc:Ow) (cl:List (Str×NL)) (f c':NL) (A:Om) (outer:List Env) (s:ND) (H:Hp):Cx where
 prog:=P
 w:=w
 K:=K
 mg:=mg
 base:=base
 A:=A.deeper (Qm q sc s.heap.objs.size f (.ref c') cl)
 N:=N
 s₀:=s
 H₀:=hid cl H
 env:=Qm q sc s.heap.objs.size f (.ref c') cl
 outer:=outer
 stack:=Qm q sc s.heap.objs.size f (.ref c') cl :: outer
 ex:=[]
 calm:=true
 fn:=fun _=>false
 pn:=[]
 xe:=fun _ _=>False
theorem BJ (C:fF cl H) (ok:HOk P w H h) (k:∀ b o,h.get? b=some o->h1.get? b=some o):HOk P w (hid cl H) h1:=fun b u e=>by
 obtain ⟨e1,_⟩:=Fz e
 exact (ok b u e1).stay (fun c o _ q=>k c o q) (fun c q=>C.hid q rfl) fun c xs q=>C.hid q rfl
theorem BK {K:Nz}
 (hp:LPa pa ps) (F:LF ps fs sc) (inj:∀ x y c,cl.lookup x=some c->cl.lookup y=some c->x=y) (hfs:∀ x c,cl.lookup x=some c->x∈fs) (cp:iY m H cl fs cvs) (hd:A.handled=none) (e0:oq P w K mg base A outer s H) (r:cZ vs us) (hl:us.length=ps.length)
 (hns:h1.Ns s.heap.objs.size (fun y=>(ps.zip us).reverse.lookup y)) (hk1:∀ b o,s.heap.get? b=some o->h1.get? b=some o) :
 Inv (yM P w K mg base (ps++fs) q sc cl f c' A outer s H) [] (vs.map some++cvs.map some) (hid cl H) { s with heap:=h1,toks:=tk }:=by
 have C:=cp.cells hfs
 have lv:vs.length=ps.length:=r.length.trans hl
 have lc:=cp.len
 have noA:∀ b:NL,b∉(yM P w K mg base (ps++fs) q sc cl f c' A outer s H).ex:=fun b z=>absurd (show b∈([]:List NL) from z) (by simp)
 have cel:∀ x c,cl.lookup x=some c->∃ u,s.heap.IsCell c (some u):=fun x c e=>by
  obtain ⟨i,hi⟩:=O4 (hfs x c e)
  obtain ⟨c2,o,u,v,g1,g2,g3,_⟩:=cp.get hi
  rw[e] at g1;cases g1
  exact ⟨u,o,(e0.hok _ _ g2.1).1,g3⟩
 refine ⟨⟨e0.mod,F.kd,rfl,rfl,NI _,inj,fun x hx=>?_,fun x c z=>absurd (show false=true from z) (by decide),fun _=>hd,Tu e0.frames,.inr ⟨rfl,rfl⟩,fun b z=>absurd z (noA b),fun b o e=>⟨(e0.bs b o e).1,gS (e0.bs b o e).2⟩,e0.bsz,fun b _ _=>noA b,fun b z=>absurd z (noA b),e0.jK,fun b hb=>gS (e0.frf b hb)⟩,
  rfl,e0.bare,Un.kept hk1,⟨_,hns,fun i x v g1 g2 g3=>?_⟩,fun x c e=>?_,gS (e0.hok.fresh (NI _)),fun x c e=>yL e,fun p hp=>absurd (show p∈([]:List (NL×Obj)) from hp) (by simp),BJ C e0.hok hk1,?_⟩
 ·have hx:sc.names.lookup x=some .cell\/sc.names.lookup x=some .free:=hx
  rcases hx with hx | hx
  ·exact absurd rfl (F.cell _ (OT hx))
  ·obtain ⟨i,hi⟩:=O4 (F.all _ (OT hx) rfl)
   obtain ⟨c,_,_,_,g1,_⟩:=cp.get hi
   exact ⟨c,g1⟩
 ·have g1:(ps++fs)[i]?=some x:=g1
  by_cases c:i < ps.length
  ·rw[NQ c] at g1
   rw[NQ (by simpa [lv] using c),Og] at g2
   obtain ⟨u,g4,g5⟩:=FE hp (F.nd.sublist (List.sublist_append_left _ _)) hl g1
   obtain ⟨v',g6,g7⟩:=Option.map_eq_some_iff.mp g2
   cases g7
   obtain ⟨u',g8,rv⟩:=r.get g6
   rw[g4] at g8;cases g8
   exact ⟨u,rv,.inl ⟨F.loc x (NZ g1),g5⟩⟩
  ·rw[Oa (by lia)] at g1
   rw[Oa (by simp[lv];lia),Og] at g2
   simp only[NS,lv] at g2
   obtain ⟨c2,o,u,v2,k1,k2,k3,k4,k5⟩:=cp.get g1
   rw[k4] at g2
   cases g2
   exact ⟨u,k5,.inr ⟨.inr (F.fre x (NZ g1)).1,c2,k1,o,hk1 _ _ (e0.hok _ _ k2.1).1,k3⟩⟩
 ·obtain ⟨u,o,z1,z2⟩:=cel x c e
  exact ⟨some u,o,hk1 _ _ z1,z2⟩
 ·show _=(ps++fs).length
  simp[lv,lc]
section
end
section
open PySem.W PySem.Calls PySem.Builtin PySem.Builtin.ObjectAttr PySem.Builtin.Getset_descriptor
variable {E:Value->ND->Prop}{K:Nz}
end
section
end
section
variable {X:Cx}
theorem vV (hu:X.A.units+150 < cLine):MtR X "list.index" (rMe X.prog X.w X.K .lindex):=by
 intro pins s σ H v vs v' us Q I rv rus h
 obtain ⟨m,h,x,ws,z,h',R,rx,rws,e,post⟩:=h
 cases x with
 | r n=>cases ws with
  | nil=>(first | exact cR e | simp[BT.meW] at e)
  | cons _ _=>(first | exact cR e | simp[BT.meW] at e)
 | k kvs=>(first | exact cR e | simp[BT.meW] at e)
 | c _ _=>(first | exact cR e | simp[BT.meW] at e)
 | x _=>(first | exact cR e | simp[BT.meW] at e)
 | o kvs=>(first | exact cR e | simp[BT.meW] at e)
 | p d =>
  rw[BT.rV] at e
  cases g:BT.dD ws with
  | none=>rw[g] at e;exact cR e
  | some ds =>
   rw[g] at e
   obtain ⟨b,e1,e2⟩:=c6 e
   cases e2
   have rds:=rws.pure g
   cases d<;>first | exact cR e1 | skip
   rename_i xs
   cases ds with
   | nil=>exact cR e1
   | cons d0 dr =>
    cases dr with
    | cons _ _=>exact cR e1
    | nil =>
     rw[BT.Ex] at e1
     split at e1
     ·rename_i c
      obtain ⟨j,e3,e4⟩:=c6 e1
      subst e4
      obtain ⟨i,rfl,hi,h1,h2⟩:=jG e3
      cases rds with
      | cons r0 rn =>
       cases rn
       obtain ⟨u,rfl,ru⟩:=rus.one
       cases rx with
       | p rx =>
        obtain ⟨a,vt,rfl,ha,ra⟩:=RR.lst (.d rx)
        cases rv
        obtain ⟨zz,its,n,q1,_,ho⟩:=rdL I ha
        have sl:sizeLine=16777216:=RC
        have hl:=q1.length
        have hl2:=ra.length
        have hi':i < its.toArray.size:=by rw[NF];lia
        refine O3 F.slot_list_index ⟨_,ho,rfl⟩ F.entry_list_index (F.args_list_index_2 _ _)
         (SeqAt.list_indexAt a its.toArray n none #[] u (fh s.heap (pd d0)) i hi' (by lia) ?_ ?_) ⟨ho,?_,?_⟩
        ·rw[show its.toArray[i]=its[i]'(by lia) by simp,jq I ra q1 i (by lia) hi];exact h1
        ·intro k hk hlt
         have hk':k < its.length:=by simpa using hk
         rw[show its.toArray[k]=its[k]'hk' by simp,jq I ra q1 k hk' (by lia)];exact h2 k (by lia) hlt
        ·intro y hy
         exact gy hu I (.d r0) ru ra q1 c y (by simpa using hy)
        ·refine ⟨.int (((0+i:Nat):Nat):Int),H,I.tok _,⟨s.toks,?_⟩,post.here R (.int _)⟩
         simp
     ·exact cR e1
theorem yN (hu:X.A.units+150 < cLine):MtR X "list.count" (rMe X.prog X.w X.K .count):=by
 intro pins s σ H v vs v' us Q I rv rus h
 obtain ⟨m,h,x,ws,z,h',R,rx,rws,e,post⟩:=h
 cases x with
 | r n=>cases ws with
  | nil=>(first | exact cR e | simp[BT.meW] at e)
  | cons _ _=>(first | exact cR e | simp[BT.meW] at e)
 | k kvs=>(first | exact cR e | simp[BT.meW] at e)
 | c _ _=>(first | exact cR e | simp[BT.meW] at e)
 | x _=>(first | exact cR e | simp[BT.meW] at e)
 | o kvs=>(first | exact cR e | simp[BT.meW] at e)
 | p d =>
  rw[BT.vF] at e
  cases g:BT.dD ws with
  | none=>rw[g] at e;exact cR e
  | some ds =>
   rw[g] at e
   obtain ⟨b,e1,e2⟩:=c6 e
   cases e2
   have rds:=rws.pure g
   cases d<;>first | exact cR e1 | skip
   rename_i xs
   cases ds with
   | nil=>exact cR e1
   | cons d0 dr =>
    cases dr with
    | cons _ _=>exact cR e1
    | nil =>
     rw[BT.Ew] at e1
     obtain ⟨c,e1⟩:=dh e1
     cases e1
     cases rds with
     | cons r0 rn =>
      cases rn
      obtain ⟨u,rfl,ru⟩:=rus.one
      cases rx with
      | p rx =>
       obtain ⟨a,vt,rfl,ha,ra⟩:=RR.lst (.d rx)
       cases rv
       obtain ⟨zz,its,n,q1,_,ho⟩:=rdL I ha
       have hl:=q1.length
       have hl2:=ra.length
       have ec:its.countP (fh s.heap (pd d0))=xs.countP fun y=>BT.eqv y d0:=by
        have key:its.map (fh s.heap (pd d0))=xs.map fun y=>BT.eqv y d0:=by
         refine List.ext_getElem (by rw[NS,NS];lia) fun i h1 h2=>?_
         rw[NS] at h1 h2
         rw[List.getElem_map,List.getElem_map]
         exact jq I ra q1 i h1 h2
        have cm:∀ {α:Type} (f:α->Bool) (l:List α),l.countP f=(l.map f).countP id:=fun f l=>by rw[List.countP_map];rfl
        rw[cm,cm (fun y=>BT.eqv y d0),key]
       refine O3 F.slot_list_count ⟨_,ho,rfl⟩ F.entry_list_count (F.args_list_count_2 _ _) (SeqAt.list_countAt a its.toArray n none #[] u (fh s.heap (pd d0))) ⟨ho,?_,?_⟩
       ·intro y hy
        exact gy hu I (.d r0) ru ra q1 c y (by simpa using hy)
       ·refine ⟨.int ((xs.countP fun y=>BT.eqv y d0:Nat):Int),H,I.tok _,⟨s.toks,?_⟩,post.here R (.int _)⟩
        rw[← ec]
end
structure nu (K:Nz) (J:It) (m0:List NL) (H0:Hp) (ds:List BT.D) (C:BT.HH->Prop):Prop where
 go:∀ m H h (i:Nat),Ext m0 H0 m H->RH K m H h->C h->i < ds.length->J.go i H
 yld:∀ m H h (i:Nat) x H' d,Ext m0 H0 m H->RH K m H h->C h->ds[i]?=some d->J.yld i H x H'->Ext m H m H'/\Le H H'/\RD K m H' x d
 stop:∀ m H h,Ext m0 H0 m H->RH K m H h->C h->J.stop ds.length H
noncomputable def uf (sr:BT.Sr) (ws:List BT.W):Prop:=BT.iQ ws=true\/(sr=.seq/\∃ q,ws=[.r q])
noncomputable def o5 (ws:List BT.W) (ds:List BT.D) (h:BT.HH):Prop:=∀ q,ws=[.r q]->BT.lat h q=some ds
theorem uf.p (h:uf sr ws) (n:sr≠.seq):BT.iQ ws=true:=h.resolve_right fun z=>n z.1
theorem mJ (a:BT.iQ ws=true):o5 ws ds h:=fun q e=>by subst e;exact BT.dG a
noncomputable def Itv (K:Nz) (a:NL) (n:Nat):It :=
 ⟨fun i H=>i < n/\∃ xs,SqL K H a xs/\xs.length=n,fun i H x H'=>H'=H/\∀ xs,SqL K H a xs->xs[n - 1 - i]?=some x,fun i H=>i=n⟩
theorem yO {K:Nz} (a it:NL) (n:Nat):Turn P w K tg (Itv K a n) [it] it (fun i h=>h.IsRevIter it a ((n:Int) - 1 - i)) where
 mem:=by simp
 obj:=fun i h st b hb=>by
  have e:b=it:=by simpa using hb
  subst e
  obtain ⟨o,e,c,d⟩:=st
  exact ⟨o,e,fun v z=>by rw[d] at z;cases z⟩
 keep:=fun i h h' st k=>st.at fun o e=>k it (by simp) o e
 item:=by
  intro X hP hw hK hc i pins s σ H E I hf st hg
  subst hP hw hK
  obtain ⟨hi,xs,hq,hx⟩:=hg
  obtain ⟨its,rv,p,hz⟩:=I.list hq
  have hl:=rv.length
  have hj:n - 1 - i < xs.length:=by lia
  obtain ⟨u,hu,ru⟩:=rv.get (NN hj)
  obtain ⟨f0,f1,f2,f3,f4,f5⟩:=hf it (by simp)
  have ei:((n:Int) - 1 - (i:Int))=(((n - 1 - i:Nat)):Int):=by lia
  have st':s.heap.IsRevIter it a (((n - 1 - i:Nat)):Int):=by rw[← ei];exact st
  refine wpAny_pyNext_rev_item st' p.isList (x:=u) (by simpa using hu) fun h' st'' sb=>?_
  have I1:Inv X pins σ H { s with heap:=h' }:=I.turned (t':=s.toks) (fun b o hb e=>(sb.2 b hb).trans e) f0 f1 f3 f4 f5
  obtain ⟨o,e,c,d⟩:=id st''
  refine ⟨u,rfl,nG (s:={ s with heap:=h' }) e c d (by decide) ⟨_,H,I1,ru,⟨rfl,fun ys hy=>by rw[I.lO hy hq];exact NN hj⟩,?_,fun b hb=>(hf b hb).1⟩⟩
  have e2:(((n - 1 - i:Nat)):Int) - 1=(n:Int) - 1 - ((i+1:Nat):Int):=by lia
  rw[e2] at st''
  exact st''
 done:=by
  intro X hP hw hK hc i pins s σ H E I hf st hg
  subst hP hw hK
  have hg:i=n:=hg
  subst hg
  obtain ⟨f0,f1,f2,f3,f4,f5⟩:=hf it (by simp)
  have e1:(i:Int) - 1 - (i:Int)=-1:=by lia
  have st':s.heap.IsRevIter it a (-1):=by rw[← e1];exact st
  exact wpAny_pyNext_rev_end (I.ok.hd hc) st' fun h' eb=>⟨rfl,I.turned (t':=s.toks) (fun b o hb e=>eb b o hb e) f0 f1 f3 f4 f5⟩
 self:=fun _ _ _ _ _ st h=>wpAny_pyIter_revIter st h
theorem Inv.ug {X:Cx}{pins:List (NL×Obj)}{σ:L2.St}{H H':Hp}{s:ND}{h':Heap}{fp:List NL}{tk:Nat} (I:Inv X pins σ H s) (hf:∀ b∈fp,mZ X pins H b)
 (k:∀ b o,b∉fp->s.heap.get? b=some o->h'.get? b=some o) (hs:∀ b,b < s.heap.objs.size->H' b=H b) (hok:HOk X.prog X.w H' h'):Inv X pins σ H' { s with heap:=h',toks:=tk }:=by
 have hlt:∀ b u,H b=some u->H' b=some u:=fun b u e=>by rw[hs b (I.hok.lt e)];exact e
 refine I.step (g':=s.gens) (d':=s.drawn) (ch:=fp) (fun b hb=>?_) (fun b o _ _ hc e _=>k b o hc e) (fun b o _ _ hc e _=>⟨o.slots,k b o hc e⟩) (fun b o _ e n=>by rw[hs b (NK e)];exact n)
  (fun b o hc e=>⟨o,k b o hc e⟩) (fun b xs e=>hlt b _ e) (fun b o u e=>hlt b _ e) (fun b ps e=>⟨#[],by rw[hlt b _ e];simp⟩) (fun m hm=>?_) hok I.bare
 ·obtain ⟨_,f1,_,f3,f4,f5⟩:=hf b hb
  exact ⟨f3,f1,f4,f5⟩
 ·obtain ⟨o,es,ep,ho,r⟩:=hm
  exact ⟨o,es,ep,k _ o (fun z=>(hf _ z).2.1 rfl) ho,r⟩
inductive iD (X:Cx) (F:FT) (G:Str->Option BT.W) (sr:BT.Sr) (sa:BT.Es) (σ:L2.St) (H:Hp) (R:It->Hp->Prop):Prop where
 | mk (m:List NL) (s:BT.Sl) (h:BT.HH) (ws:List BT.W) (h':BT.HH) (ds:List BT.D) (RR:RH X.K m H h) (S:RS X.prog X.w X.K m H σ s) (e:BT.evs F G sa s h=some (ws,h')) (e2:(BT.rds ws h').bind (BT.fP sr)=some ds) (ha:uf sr ws)
  (p:∀ H' m' J,Ext m H m' H'->RH X.K m' H' h'->nu X.K J m' H' ds (o5 ws ds)->R J H'):iD X F G sr sa σ H R
theorem PI.weak (h:PI X tg e t) (q:∀ σ H R,t' σ H R->t σ H R):PI X tg e t':=fun pins s σ H R I hw=>h pins s σ H R I (q _ _ _ hw)
section
theorem BN {K:Nz} (h:(Rd H0 a (.lst vs)/\a∉m0)\/KL K a vs) (r:RDs K m0 H0 vs ds):nu K (Itl K a) m0 H0 ds C:=by
 have k:∀ {m H},Ext m0 H0 m H->SqL K H a vs:=fun x=>LL.sq (h.elim (fun q=>.inl (Rd.ext x q.1 q.2).1) .inr)
 refine ⟨fun m H hh i x _ _ hi=>?_,fun m H hh i v H' d x RR _ hd y=>?_,fun m H _ x _ _=>⟨vs,k x,by rw[r.length];exact NI _⟩⟩
 ·exact ⟨vs,_,k x,NN (by rw[r.length];exact hi)⟩
 ·obtain ⟨rfl,y⟩:=y
  obtain ⟨u,h1,h2⟩:=(r.ext x).get hd
  have:=y vs (k x)
  rw[h1] at this
  cases this
  exact ⟨.refl _ _,fun _ _ e=>e,h2⟩
theorem FF {K:Nz} (h:(Rd H0 a (.tup vs)/\a∉m0)\/KT K a vs) (r:RDs K m0 H0 vs ds):nu K (Itt K a) m0 H0 ds C:=by
 have k:∀ {m H},Ext m0 H0 m H->SqT K H a vs:=fun x=>h.elim (fun q=>.inl (Rd.ext x q.1 q.2).1) fun ⟨o,its,n,q,_⟩=>.inr ⟨o,its,n,q⟩
 refine ⟨fun m H hh i x _ _ hi=>?_,fun m H hh i v H' d x RR _ hd y=>?_,fun m H _ x _ _=>⟨vs,k x,by rw[r.length];exact NI _⟩⟩
 ·exact ⟨vs,_,k x,NN (by rw[r.length];exact hi)⟩
 ·obtain ⟨rfl,y⟩:=y
  obtain ⟨u,h1,h2⟩:=(r.ext x).get hd
  have:=y vs (k x)
  rw[h1] at this
  cases this
  exact ⟨.refl _ _,fun _ _ e=>e,h2⟩
theorem FG {K:Nz} (h:(Rd H0 a (.lst vs)/\a∉m0)\/KL K a vs) (r:RDs K m0 H0 vs ds):nu K (Itv K a ds.length) m0 H0 ds.reverse C:=by
 have k:∀ {m H},Ext m0 H0 m H->SqL K H a vs:=fun x=>LL.sq (h.elim (fun q=>.inl (Rd.ext x q.1 q.2).1) .inr)
 refine ⟨fun m H hh i x _ _ hi=>?_,fun m H hh i v H' d x RR _ hd y=>?_,fun m H _ x _ _=>by show ds.reverse.length=ds.length;simp⟩
 ·exact ⟨by simpa using hi,vs,k x,r.length⟩
 ·obtain ⟨rfl,y⟩:=y
  have hi:i < ds.length:=by
   have:=getD_some hd
   simpa using this
  have hd':ds[ds.length - 1 - i]?=some d:=by
   rw[TF hi] at hd
   exact hd
  obtain ⟨u,h1,h2⟩:=(r.ext x).get hd'
  have:=y vs (k x)
  rw[h1] at this
  cases this
  exact ⟨.refl _ _,fun _ _ e=>e,h2⟩
theorem FH {K:Nz} (lo:Int) (n:Nat):nu K (Itr lo n) m0 H0 (BT.upto lo n) C:=by
 have hl:(BT.upto lo n).length=n:=by simp[BT.upto]
 refine ⟨fun m H hh i x _ _ hi=>by rw[hl] at hi;exact hi,fun m H hh i v H' d x RR _ hd y=>?_,fun m H _ x _ _=>by rw[hl];exact NI n⟩
 obtain ⟨rfl,rfl⟩:=y
 have:d=.int (lo+i):=by
  have hi:i < n:=by
   have:=getD_some hd
   rw[hl] at this
   exact this
  simp only[BT.upto,Og] at hd
  rw[Re hi] at hd
  simpa using hd.symm
 subst this
 exact ⟨.refl _ _,fun _ _ e=>e,.int _⟩
theorem o6:∀ {ws:List BT.W},BT.iQ ws=true->∃ ds:List BT.D,ws=ds.map BT.W.p:=by
 intro ws
 induction ws with
 | nil=>exact fun _=>⟨[],rfl⟩
 | cons w ws ih =>
  intro h
  cases w with
  | p d =>
   obtain ⟨ds,rfl⟩:=ih h
   exact ⟨d :: ds,rfl⟩
  | _=>exact BT.dG h
theorem o7 (h:BT.HH) (ds:List BT.D):BT.rds (ds.map BT.W.p) h=some ds:=by
 induction ds with
 | nil=>rfl
 | cons d ds ih =>
  show (BT.rds (ds.map BT.W.p) h).map (d :: ·)=_
  rw[ih];rfl
theorem yP (hs:sr=.seq\/sr=.rev\/sr=.rng1) (e:(BT.rds ws h).bind (BT.fP sr)=some ds) (ha:BT.iQ ws=true):∃ d,ws=[.p d]/\BT.fP sr [d]=some ds:=by
 obtain ⟨xs,rfl⟩:=o6 ha
 rw[o7,ON] at e
 cases xs with
 | nil=>rcases hs with rfl | rfl | rfl<;>exact cR e
 | cons d xs =>
  cases xs with
  | nil=>exact ⟨d,rfl,e⟩
  | cons d2 xs=>rcases hs with rfl | rfl | rfl<;>cases d<;>exact cR e
theorem lE (e:BT.evs F G (.cons a .nil) s h=some (ws,h')):∃ w,ws=[w]/\BT.ev F G a s h=some (w,h'):=by
 simp only[BT.evs] at e
 obtain ⟨w,g,e1,e2⟩:=cU e
 simp only[BT.mq,BT.dH,BT.iy] at e2
 cases e2
 exact ⟨w,rfl,e1⟩
theorem BO {K:Nz} (hq:m0[q]?=some a):nu K (Itl K a) m0 H0 ds (o5 [.r q] ds):=by
 have k:∀ {m H h},Ext m0 H0 m H->RH K m H h->o5 [.r q] ds h->∃ vs,SqL K H a vs/\RDs K m H vs ds:=fun {m H h} x RR c=>by
  obtain ⟨e,rfl,_⟩:=x.pre
  have e1:(m0++e)[q]?=some a:=by rw[NQ (List.getElem?_eq_some_iff.mp hq).1];exact hq
  obtain ⟨vs,c1,c2⟩:=RR.cell q a ds e1 (c q rfl)
  exact ⟨vs,LL.sq (.inl (.inl c1)),c2⟩
 refine ⟨fun m H hh i x RR c hi=>?_,fun m H hh i v H' d x RR c hd y=>?_,fun m H hh x RR c=>?_⟩
 ·obtain ⟨vs,k1,k2⟩:=k x RR c
  exact ⟨vs,_,k1,NN (by rw[k2.length];exact hi)⟩
 ·obtain ⟨vs,k1,k2⟩:=k x RR c
  obtain ⟨rfl,y⟩:=y
  obtain ⟨u,h1,h2⟩:=k2.get hd
  have:=y vs k1
  rw[h1] at this
  cases this
  exact ⟨.refl _ _,fun _ _ e=>e,h2⟩
 ·obtain ⟨vs,k1,k2⟩:=k x RR c
  exact ⟨vs,k1,by rw[k2.length];exact NI _⟩
theorem BQ (he:PE X x (tD X F G a)):PI X tg x (iD X F G .seq (.cons a .nil)):=by
 intro pins s σ H R I q
 obtain ⟨m,s',h,ws,h',ds,RR,S,e,e2,ha,post⟩:=q
 rcases ha with ha | ⟨_,q,rfl⟩
 case inr =>
  obtain ⟨w,ew,e4⟩:=lE e
  cases ew
  have g:BT.lat h' q=some ds:=by
   simp only[BT.rds,BT.rd,Qi] at e2
   cases g:BT.lat h' q with
   | none=>rw[g] at e2;exact cR e2
   | some xs=>rw[g] at e2;cases e2;rfl
  refine tE he pins s σ H R I ⟨m,s',h,_,h',RR,S,e4,fun v H1 m1 x1 R1 r1=>?_⟩
  cases r1 with
  | @r a n hn =>
   obtain ⟨vs,c1,c2⟩:=R1.cell q a ds hn g
   exact ⟨a,rfl,⟨vs,LL.sq (.inl (.inl c1))⟩,post H1 m1 _ x1 R1 (BO hn)⟩
 obtain ⟨d,rfl,e3⟩:=yP (.inl rfl) e2 ha
 obtain ⟨w,ew,e4⟩:=lE e
 cases ew
 rw[BT.xK] at e3
 cases d<;>simp only[BT.oJ] at e3<;>try contradiction
 ·cases e3
  refine D5 he pins s σ H R I ⟨m,s',h,_,h',RR,S,e4,fun v H1 m1 x1 R1 r1=>?_⟩
  cases r1 with
  | p r1 =>
   cases r1 with
   | @tup a vs _ h r=>exact ⟨a,rfl,⟨vs,h.elim (fun q=>.inl q.1) fun ⟨o,its,n,q,_⟩=>.inr ⟨o,its,n,q⟩⟩,post H1 m1 _ x1 R1 (FF h r)⟩
 ·cases e3
  refine tE he pins s σ H R I ⟨m,s',h,_,h',RR,S,e4,fun v H1 m1 x1 R1 r1=>?_⟩
  cases r1 with
  | p r1 =>
   cases r1 with
   | @lst a vs _ h r=>exact ⟨a,rfl,⟨vs,LL.sq (h.elim (fun q=>.inl q.1) .inr)⟩,post H1 m1 _ x1 R1 (BN h r)⟩
theorem yQ (O:Ok X F G sc N) (hg:dY sc "range"=true) (hs:noStar e=true) (ha:PA X [e] (tDs X F G sa)):PI X tg (.Call (.Name "range" p) [e] [] pos) (iD X F G .rng1 sa):=by
 refine PI.weak (vh (d7 O hg) (O.blt _ (by decide)) ha (cY hs)) fun σ H R q=>?_
 obtain ⟨m,s',h,ws,h',ds,RR,S,e,e2,ha,post⟩:=q
 obtain ⟨d,rfl,e3⟩:=yP (.inr (.inr rfl)) e2 (ha.p (fun z=>by cases z))
 refine ⟨m,s',h,_,h',RR,S,e,fun vs H1 m1 x1 R1 r1=>?_⟩
 obtain ⟨j,rfl⟩:∃ j:Int,d=.int j:=by
  cases d with
  | int j=>exact ⟨j,rfl⟩
  | _=>exact absurd (show (none:Option (List BT.D))=some _ from e3) (fun z=>nomatch z)
 rw[BT.gJ] at e3
 obtain ⟨c,e3⟩:=dh e3
 simp only[NG,decide_eq_true_eq] at c
 cases e3
 cases r1 with
 | cons r t =>
  cases t
  cases r with
  | p r =>
   cases r
   exact ⟨j,rfl,by lia,by lia,post H1 m1 _ x1 R1 (FH 0 j.toNat)⟩
theorem BU (O:Ok X F G sc N) (hg:dY sc "reversed"=true) (hs:noStar e=true) (he:PE X e (tD X F G a)):PI X tg (.Call (.Name "reversed" p) [e] [] pos) (iD X F G .rev (.cons a .nil)):=by
 intro pins s σ H R I q
 obtain ⟨m,s',h,ws,h',ds,RR,S,e,e2,ha,post⟩:=q
 obtain ⟨d,rfl,e3⟩:=yP (.inr (.inl rfl)) e2 (ha.p (fun z=>by cases z))
 obtain ⟨w,ew,e4⟩:=lE e
 cases ew
 obtain ⟨xs,rfl⟩:∃ xs:List BT.D,d=.lst xs:=by
  cases d with
  | lst xs=>exact ⟨xs,rfl⟩
  | _=>exact absurd (show (none:Option (List BT.D))=some _ from e3) (fun z=>nomatch z)
 ·cases e3
  refine Call_ (jB (u:=.type "reversed") I (d7 O hg) (O.blt _ (by decide)) (by decide +kernel) (OO (thn (gZ he om (cY hs) pos pins s σ H (fun vs H1=>∃ a vt,vs=[.ref a]/\∃ m1,Ext m H m1 H1/\RH X.K m1 H1 h'/\((Rd H1 a (.lst vt)/\a∉m1)\/KL X.K a vt)/\RDs X.K m1 H1 vt xs) I ?_) fun us s1 ⟨vs,H1,I1,r1,q1⟩=>?_) (cY hs) rfl))
  ·refine ⟨m,s',h,_,h',RR,S,e4,fun v H1 m1 x1 R1 r1=>?_⟩
   cases r1 with
   | p r1 =>
    cases r1 with
    | @lst a vt _ hh r=>exact ⟨a,vt,rfl,m1,x1,R1,hh,r⟩
  ·obtain ⟨a,vt,rfl,m1,x1,R1,hh,r⟩:=q1
   obtain ⟨u,rfl,ru⟩:=vals1 r1
   cases ru
   obtain ⟨z,its,nn,rv,hl,ee⟩:=rdL I1 (hh.elim (fun q=>.inl q.1) .inr)
   have hL:s1.heap.IsList a its.toArray:=⟨_,ee,rfl,_,rfl⟩
   have hlen:=r.length
   refine call_reversed_list hL ?_
   have stt:({ s1 with heap:=s1.heap.push (revObj a ((its.toArray.size:Int) - 1)) }:ND).heap.IsRevIter s1.heap.objs.size a ((xs.length:Int) - 1 - ((0:Nat):Int)):=by
    refine ⟨_,NR _ rfl,rfl,?_⟩
    show Data.fields #[.ref a,rawInt ((its.toArray.size:Int) - 1)]=_
    rw[NF,← hl,hlen]
    simp
   refine wpAny_pyIter_revIter stt ?_
   refine ⟨s1.heap.objs.size,[s1.heap.objs.size],_,_,H1,rfl,I1.kept (t':=s1.toks) fun b o e=>NC _ e,yO a _ xs.length,stt,fun b hb=>?_,post H1 m1 _ x1 R1 (FG hh r)⟩
   have e:b=s1.heap.objs.size:=by simpa using hb
   subst e
   exact I1.rD (NI _) (I1.hok.fresh (NI _))
end
section
variable {K:Nz}
theorem RKs.any (r:RKs K m H vs kvs) (k:Key):(vs.any fun kv=>decide (kv.1=k))=kvs.any fun kv=>decide (kv.1=k):=by
 induction r with
 | nil=>rfl
 | cons _ _ _ ih=>rw[Qj,Qj,ih]
theorem RKs.snoc (r:RKs K m H vs kvs) (k:Key) (hk:RD K m H (kV k) (BT.xG k)) (q:RD K m H v d):RKs K m H (vs++[(k,v)]) (kvs++[(k,d)]):=by
 induction r with
 | nil=>exact .cons hk q .nil
 | cons h r _ ih=>exact .cons h r ih
theorem RKs.repl (r:RKs K m H vs kvs) (k:Key) (q:RD K m H v d):RKs K m H (vs.map fun kv=>if kv.1=k then (kv.1,v) else kv) (kvs.map fun kv=>if kv.1=k then (kv.1,d) else kv):=by
 induction r with
 | nil=>exact .nil
 | @cons j v1 d1 vs kvs hk r t ih =>
  rw[OJ,OJ]
  by_cases c:j=k
  ·rw[if_pos c,if_pos c];exact .cons hk q ih
  ·rw[if_neg c,if_neg c];exact .cons hk r ih
theorem RKs.put (r:RKs K m H vs kvs) (k:Key) (hk:RD K m H (kV k) (BT.xG k)) (q:RD K m H v d):RKs K m H (putK vs k v) (BT.jS kvs k d):=by
 unfold putK BT.jS
 rw[r.any k]
 split
 ·exact r.repl k q
 ·exact r.snoc k hk q
end
section
variable {X:Cx}{F:FT}{G:Str->Option BT.W}
noncomputable def Nl:V->V->V->Hp->(Hp->Prop)->Prop:=fun o i v H Q=>∃ p kvs k,o=.ref p/\i=kV k/\H p=some (.dK kvs)/\kvs.length < sizeLine/\Q (upd H p (.dK (putK kvs k v)))
end
section
variable {E:Value->ND->Prop}
end
section
variable {X:Cx}{F:FT}{G:Str->Option BT.W}
end
section
variable {X:Cx}{F:FT}{G:Str->Option BT.W}{K:Nz}{m:List NL}{H:Hp}
theorem yR:∀ {qs:List (Key×V)}{us:List (Key×Value)}{ps:List (BT.Ky×BT.D)}{ws:List (Key×V)}{vs:List (Key×Value)}{kvs:List (BT.Ky×BT.D)},KV qs us->RKs K m H qs ps->KV ws vs->RKs K m H ws kvs →
 KV (qs.foldl (fun c p=>putK c p.1 p.2) ws) (us.foldl (fun c p=>stored c p.1 p.2) vs)/\RKs K m H (qs.foldl (fun c p=>putK c p.1 p.2) ws) (ps.foldl (fun c p=>BT.jS c p.1 p.2) kvs):=by
 intro qs
 induction qs with
 | nil =>
  intro us ps ws vs kvs h1 h2 h3 h4
  cases h1
  cases h2
  exact ⟨h3,h4⟩
 | cons q qs ih =>
  intro us ps ws vs kvs h1 h2 h3 h4
  cases h1 with
  | @cons _ u _ us a b =>
   cases h2 with
   | @cons k v d _ ps hk r t =>
    obtain ⟨a1,a2⟩:=a
    have a1:k=u.1:=a1
    refine ih (ws:=putK ws k v) (vs:=stored vs u.1 u.2) (kvs:=BT.jS kvs k d) b t ?_ (h4.put k hk r)
    rw[← a1]
    exact h3.put k a2
theorem qL:∀ (qs:List (Key×V)) (ws:List (Key×V)),(qs.foldl (fun c p=>putK c p.1 p.2) ws).length<=ws.length+qs.length
 | [],ws=>NI _
 | q :: qs,ws=>by
  have h1:=qL qs (putK ws q.1 q.2)
  have h2:=qm ws q.1 q.2
  simp only[List.foldl_cons,NJ]
  lia
end
section
variable {F:FT}{G:Str->Option BT.W}
end
section
variable {F:FT}{G:Str->Option BT.W}
end
section
variable {X:Cx}{F:FT}{G:Str->Option BT.W}
noncomputable def MtX (X:Cx) (id:String) (k:BT.Tx):Prop:=∀ (pins:List (NL×Obj)) (s:ND) (σ:L2.St) (H:Hp) (v:V) (vs:List V) (v':Value) (us:List Value) (Q:VK) (m:List NL) (h:BT.HH) (x:BT.W) (ws:List BT.W) (z:BT.W) (h':BT.HH),
 Inv X pins σ H s->RelV v v'->cZ vs us->RH X.K m H h->RW X.prog X.w X.K m H v x->RWs X.prog X.w X.K m H vs ws->BT.kTx k (x :: ws) h=some (z,h')->Post X.prog X.w X.K m H z h' Q →
 wpAny (N5 X.prog X.w) X.A (call (.builtin id) (v' :: us)) (EP X pins σ Q) X.xe s
noncomputable def TyX (X:Cx) (T:String) (k:BT.Tx):Prop:=∀ (pins:List (NL×Obj)) (s:ND) (σ:L2.St) (H:Hp) (v:V) (v':Value) (m:List NL) (x:BT.W) (ws:List BT.W) (h:BT.HH) (r:BT.W×BT.HH),
 Inv X pins σ H s->RelV v v'->RW X.prog X.w X.K m H v x->BT.kTx k (x :: ws) h=some r->s.TypeIs v' T/\∀ a,v'=.ref a->∃ ob,s.heap.get? a=some ob/\ob.dict=none
theorem o8 {k:BT.Tx}{T id:String}{name:Str}{o:BT.E}{as:BT.Es}{oe e:NH}{es:List NH}{apos cpos:Pos} (pa:Ua T) (slot:Slot T name id) (hty:typeOf (.builtin id)=pure (.type "method_descriptor")) (ty:TyX X T k) (hm:MtX X id k)
 (hb:dB oe=true) (hl:(apos.endLine==cpos.line)=true) (hst:cX (e :: es)=true) (hlen:(e :: es).length < 20) (ho:PE X oe (tD X F G o)) (ha:PA X (e :: es) (tDs X F G as)):PE X (.Call (.Attribute oe name apos) (e :: es) [] cpos) (tD X F G (.tx k (.cons o as))):=by
 intro pins s σ H Q I q
 obtain ⟨m,sl,h,z,h',R,S,ee,post⟩:=q
 simp only[BT.ev,BT.evs] at ee
 obtain ⟨xs,h1,e1,e2⟩:=cU ee
 obtain ⟨x,h2,e3,e4⟩:=cU e1
 obtain ⟨ws,h3,e5,e6⟩:=cU e4
 simp only[BT.iy] at e6
 cases e6
 have hs2:noStar e=true/\cX es=true:=by simpa only[cX,NG] using hst
 have few:((Qf cpos (Oc (e :: es) X.env)).all (fun x=>!x.1)&&(RU cpos (Qx [] X.env)).all (fun x=>x.1.isSome)
 &&decide ((e :: es).length+([]:List Qq).length+(if ([]:List Qq).isEmpty then 0 else 1) < 30))=true:=by
  rw[i9 hst]
  have h30:decide ((e :: es).length+([]:List Qq).length+(if ([]:List Qq).isEmpty then 0 else 1) < 30)=true:=decide_eq_true (by
   simp only[NJ,Pi,RM,if_true] at hlen ⊢;lia)
  rw[h30];rfl
 refine wpAny_Call_method_late (j0 hb) few hl rfl (thn (ho pins s σ H (fun v H1=>∃ m1,Ext m H m1 H1/\RH X.K m1 H1 h2/\RW X.prog X.w X.K m1 H1 v x) I ⟨m,sl,h,x,h2,R,S,e3,fun v H1 m1 x1 R1 r1=>⟨m1,x1,R1,r1⟩⟩) fun v s1 zq=>?_)
 obtain ⟨xv,H1,I1,r1,m1,x1,R1,w1⟩:=zq
 obtain ⟨t1,t2⟩:=ty pins s1 σ H1 xv v m1 x ws h1 _ I1 r1 w1 e2
 refine ⟨T,id,pa,slot,hty,t1,t2,?_⟩
 have hA:=ha cpos pins s1 σ H1 (fun vs H2=>∃ m2,Ext m1 H1 m2 H2/\RH X.K m2 H2 h1/\RWs X.prog X.w X.K m2 H2 vs ws) I1 ⟨m1,sl,h2,ws,h1,R1,S.ext x1,e5,fun vs H2 m2 x2 R2 r2=>⟨m2,x2,R2,r2⟩⟩
 rw[cY hs2.1] at hA ⊢
 refine QN (by show (false||(Qf cpos (Oc es X.env)).any (·.1))=false;rw[dN hs2.2];rfl) (TL ?_)
 refine thn hA fun us s2 zq=>?_
 obtain ⟨vs,H2,I2,r2,m2,x2,R2,w2⟩:=zq
 exact hm pins s2 σ H2 xv vs v us Q m2 h1 x ws z h' I2 r1 r2 R2 (w1.ext x2) w2 e2 fun v5 H5 m5 x5 R5 r5=>post v5 H5 m5 ((x1.trans x2).trans x5) R5 r5
theorem iE {k:BT.Tx}{ws:List BT.W}{h:BT.HH}{z:BT.W}{h':BT.HH} (hk:k≠.dget) (e:BT.kTx k ws h=some (z,h')):∃ ds d,BT.rds ws h=some ds/\BT.txD k ds=some d/\z=.p d/\h'=h:=by
 have e:((BT.rds ws h).bind fun ds=>(BT.txD k ds).map fun d=>(BT.W.p d,h))=some (z,h'):=by
  cases k with
  | dget=>exact absurd rfl hk
  | _=>exact e
 obtain ⟨ds,e1,e2⟩:=Option.bind_eq_some_iff.mp e
 obtain ⟨d,e3,e4⟩:=c6 e2
 cases e4
 exact ⟨ds,d,e1,e3,rfl,rfl⟩
theorem yS {β:Type}{c:Prop} [Decidable c] {a:Option β}{b:β} (h:(if c then a else none)=some b):c/\a=some b:=by
 by_cases z:c
 ·rw[if_pos z] at h;exact ⟨z,h⟩
 ·rw[if_neg z] at h;exact cR h
theorem qM {ds:List BT.D}{d:BT.D} (e:BT.txD .join ds=some d):∃ x ys ts,ds=[.str x,.lst ys]/\BT.strsOf ys=some ts/\(ts.length<=1000/\x.length<=10/\∀ t∈ts,t.length<=1000)/\d=.str (P1 x ts):=by
 match ds,e with
 | [.str x,.lst ys],e =>
  obtain ⟨ts,e1,e2⟩:=Option.bind_eq_some_iff.mp (show ((BT.strsOf ys).bind fun ts=>if ts.length<=1000/\x.length<=10/\∀ t∈ts,t.length<=1000 then some (BT.D.str (P1 x ts)) else none)=some d from e)
  obtain ⟨c,e3⟩:=dh e2
  exact ⟨x,ys,ts,rfl,e1,c,e3.symm⟩
theorem nX {ds:List BT.D}{d:BT.D} (e:BT.txD .split ds=some d):∃ x y,ds=[.str x,.str y]/\(y.length=1/\x.length<=BT.lim)/\d=.lst ((Txt.split x y).map .str):=by
 match ds,e with
 | [.str x,.str y],e =>
  obtain ⟨c,e3⟩:=dh (show (if y.length=1/\x.length<=BT.lim then some (BT.D.lst ((Txt.split x y).map .str)) else none)=some d from e)
  exact ⟨x,y,rfl,c,e3.symm⟩
theorem kI {w:BT.W}{h:BT.HH}{x:Str} (e:BT.rd w h=some (.str x)):w=.p (.str x):=by
 cases w with
 | p d=>exact congrArg BT.W.p (NO e)
 | r n=>obtain ⟨_,_,q⟩:=c6 (show (BT.lat h n).map BT.D.lst=some (.str x) from e);cases q
 | _=>exact cR e
theorem gm {w:BT.W}{ws:List BT.W}{h:BT.HH}{ds:List BT.D} (e:BT.rds (w :: ws) h=some ds):∃ d r,ds=d :: r/\BT.rd w h=some d/\BT.rds ws h=some r:=by
 cases g:BT.rd w h with
 | none=>simp[BT.rds,g] at e
 | some d =>
  cases g2:BT.rds ws h with
  | none=>simp[BT.rds,g,g2] at e
  | some r=>simp[BT.rds,g,g2] at e;exact ⟨d,r,e.symm,rfl,rfl⟩
theorem BV {K:Nz}{m:List NL}{H:Hp}:∀ {vs:List V}{ys:List BT.D}{ts:List Str}{us:List Value},RDs K m H vs ys->cZ vs us->BT.strsOf ys=some ts->∃ l:List (Str×Tok),us=strValues l/\l.map (·.1)=ts/\∀ t∈ts,PyData.strOk t=true:=by
 intro vs
 induction vs with
 | nil =>
  intro ys ts us r rv e
  cases r
  cases rv
  cases e
  exact ⟨[],rfl,rfl,fun t ht=>absurd ht (by simp)⟩
 | cons v vs ih =>
  intro ys ts us r rv e
  cases r with
  | @cons _ d _ ys r t =>
   cases rv with
   | @cons _ u _ us ru tv =>
    cases d with
    | str x =>
     obtain ⟨ts',e1,e2⟩:=c6 (show (BT.strsOf ys).map (x :: ·)=some ts from e)
     subst e2
     obtain ⟨l,q1,q2,q3⟩:=ih t tv e1
     cases r with
     | str _ ok =>
      obtain ⟨tk,rfl⟩:=ru
      refine ⟨(x,tk) :: l,by rw[q1];rfl,by simp[q2],fun y hy=>?_⟩
      rcases List.mem_cons.mp hy with rfl | hy
      ·exact ok
      ·exact q3 y hy
    | _=>exact cR e
theorem BW (x:Str):∀ (ts:List Str),PyData.strOk x=true->(∀ t∈ts,PyData.strOk t=true)->PyData.strOk (P1 x ts)=true:=by
 have ap:∀ a b:Str,PyData.strOk a=true->PyData.strOk b=true->PyData.strOk (a++b)=true:=by
  intro a b ha hb
  unfold PyData.strOk at *
  show (a.cps++b.cps).all _=true
  rw[RL,ha,hb];rfl
 intro ts hx
 induction ts with
 | nil=>intro _;unfold P1 PyData.strOk;simp[Str.empty]
 | cons t r ih =>
  intro h
  cases r with
  | nil=>exact h t NV
  | cons u r =>
   show PyData.strOk (t++x++P1 x (u :: r))=true
   exact ap _ _ (ap _ _ (h t NV) hx) (ih fun y hy=>h y (NP _ hy))
theorem BY {x:Str}{ts:List Str} (c:ts.length<=1000/\x.length<=10/\∀ t∈ts,t.length<=1000):JoinOk x ts=true:=by
 unfold JoinOk
 have:=StrLaws.joinFits (sep:=x) (texts:=ts) (B:=1000) c.2.2 (by
  have h1:=SO c.1 (NI 1000)
  have h2:=SO c.1 c.2.1
  lia)
 rw[this];rfl
theorem ty_str {k:BT.Tx} (hk:k≠.dget) (h:∀ ds d,BT.txD k ds=some d->∃ x r,ds=.str x :: r):TyX X "str" k:=by
 intro pins s σ H v v' m x ws hh r I rv rw0 e
 obtain ⟨ds,d,e1,e2,_,_⟩:=iE hk e
 obtain ⟨y,r,rfl⟩:=h _ _ e2
 obtain ⟨d0,r0,q1,q2,_⟩:=gm e1
 cases q1
 have ew:=kI q2
 subst ew
 cases rw0 with
 | p r =>
  cases r with
  | str _ ok =>
   obtain ⟨t,rfl⟩:=rv
   exact ⟨typeIs_str s y t,fun _ e=>nomatch e⟩
theorem BZ:MtX X "str.join" .join:=by
 intro pins s σ H v vs v' us Q m h x ws z h' I rv rus R w1 w2 e post
 obtain ⟨ds,d,e1,e2,rfl,rfl⟩:=iE (k:=.join) (fun q=>nomatch q) e
 obtain ⟨sx,ys,ts,rfl,e3,c,rfl⟩:=qM e2
 obtain ⟨d0,r0,q1,q2,q3⟩:=gm e1
 cases q1
 have ew:=kI q2
 subst ew
 have rr:=fV R w2 q3
 obtain ⟨v2,rfl,r⟩:=rr.one
 obtain ⟨a,vt,rfl,ha,ra⟩:=r.lst
 obtain ⟨u,rfl,ru⟩:=vals1 rus
 cases ru
 cases w1 with
 | p r1 =>
  cases r1 with
  | str _ ok =>
   obtain ⟨t,rfl⟩:=rv
   obtain ⟨its,q4,p,hz⟩:=I.list ha.sq
   obtain ⟨l,rfl,hl,hs⟩:=BV ra q4 e3
   refine PySem.SC.join p.isList hl (BY c) fun t' tk=>?_
   rw[show Txt.join sx ts=P1 sx ts from StrLaws.glued_eq_join sx ts]
   refine ⟨.str _,H,I.tok tk,⟨t',rfl⟩,?_⟩
   exact post.here R (.str _ (BW sx ts ok hs))
theorem yT {a b:Str} (h:PyData.strOk (a++b)=true):PyData.strOk a=true/\PyData.strOk b=true:=by
 unfold PyData.strOk at *
 have h:(a.cps++b.cps).all _=true:=h
 rw[RL,NG] at h
 exact h
theorem qN (y:Str):∀ (ts:List Str),PyData.strOk (P1 y ts)=true->∀ t∈ts,PyData.strOk t=true
 | [],_,t,ht=>absurd ht (by simp)
 | [x],h,t,ht=>by
  have:t=x:=by simpa using ht
  subst this;exact h
 | x :: u :: r,h,t,ht=>by
  have h:PyData.strOk (x++y++P1 y (u :: r))=true:=h
  obtain ⟨h1,h2⟩:=yT h
  rcases List.mem_cons.mp ht with rfl | ht
  ·exact (yT h1).1
  ·exact qN y (u :: r) h2 t ht
theorem nY {y:Str} (hy:y.length=1):∀ (ts:List Str),ts.length<=(P1 y ts).length+1
 | []=>Qo _
 | [x]=>by simp
 | x :: u :: r=>by
  have ih:=nY hy (u :: r)
  have e:(P1 y (x :: u :: r)).length=x.length+y.length+(P1 y (u :: r)).length:=by
   show (x++y++P1 y (u :: r)).length=_
   rw[Str.length_append,Str.length_append]
  simp only[NJ] at ih ⊢
  lia
theorem mK {pins:List (NL×Obj)}{σ:L2.St}{H:Hp}{s:ND}{m:List NL}{h:BT.HH}{Q:VK}{l:List (Str×Tok)}{ts:List Str}{tk:Nat} (I:Inv X pins σ H s) (R:RH X.K m H h) (hl:l.map (·.1)=ts) (hs:∀ t∈ts,PyData.strOk t=true) (hn:ts.length<=200000) (post:Post X.prog X.w X.K m H (.p (.lst (ts.map .str))) h Q) :
 EP X pins σ Q (.ref s.heap.objs.size) { s with heap:=s.heap.push { cls:=.type "list",data:=.seq (strValues l).toArray },toks:=tk }:=by
 subst hl
 have rv:∀ l:List (Str×Tok),cZ ((l.map (·.1)).map V.str) (strValues l):=by
  intro l
  induction l with
  | nil=>exact .nil
  | cons p l ih=>exact .cons ⟨p.2,rfl⟩ ih
 have rd:∀ l:List Str,(∀ t∈l,PyData.strOk t=true)->RDs X.K m H (l.map V.str) (l.map BT.D.str):=by
  intro l
  induction l with
  | nil=>intro _;exact .nil
  | cons t l ih=>intro h;exact .cons (.str t (h t NV)) (ih fun y hy=>h y (NP _ hy))
 have sl:sizeLine=16777216:=RC
 have hr:=rv l
 rw[NS] at hn
 refine ⟨.ref _,_,I.laid (a:=s.heap.objs.size) (o:=.lst ((l.map (·.1)).map V.str)) (t':=tk) (fun b u q=>NC _ q) (NI _) ⟨by rw[NS,NS];lia,strValues l,0,hr,NR _ rfl⟩,rfl,jm R (I.hok.fresh (NI _)) (rd _ hs) post⟩
theorem yU:MtX X "str.split" .split:=by
 intro pins s σ H v vs v' us Q m h x ws z h' I rv rus R w1 w2 e post
 obtain ⟨ds,d,e1,e2,rfl,rfl⟩:=iE (k:=.split) (fun q=>nomatch q) e
 obtain ⟨sx,sy,rfl,c,rfl⟩:=nX e2
 obtain ⟨d0,r0,q1,q2,q3⟩:=gm e1
 cases q1
 have ew:=kI q2
 subst ew
 obtain ⟨d1,r1,q4,q5,q6⟩:=gm (w:=ws.headD (.p .non)) (ws:=ws.tail) (h:=h') (ds:=[BT.D.str sy]) (by
  cases ws with
  | nil=>cases q3
  | cons a b=>exact q3)
 cases ws with
 | nil=>cases q3
 | cons wy ws =>
  cases q4
  have ey:=kI q5
  have ey:wy=.p (.str sy):=ey
  subst ey
  cases w2 with
  | cons ry t2 =>
   have:ws=[]:=by
    cases ws with
    | nil=>rfl
    | cons a b =>
     obtain ⟨_,_,q7,_,_⟩:=gm (show BT.rds (a :: b) h'=some [] from q6)
     cases q7
   subst this
   cases t2
   obtain ⟨u,rfl,ru⟩:=vals1 rus
   cases w1 with
   | p rx =>
    cases rx with
    | str _ ok =>
     cases ry with
     | p ry =>
      cases ry with
      | str _ ok2 =>
       obtain ⟨t,rfl⟩:=rv
       obtain ⟨u,rfl⟩:=ru
       have hy:(sy.length==0)=false:=by rw[c.1];rfl
       have js:=StrLaws.join_split sx sy
       have hs:=qN sy (Txt.split sx sy) (by rw[js];exact ok)
       have hm:=nY c.1 (Txt.split sx sy)
       rw[js] at hm
       have cl:sx.length<=100000:=c.2
       have hn:(Txt.split sx sy).length<=200000:=by lia
       have sl:sizeLine=16777216:=RC
       cases g1:(decide (sx.length < sy.length)||decide (Su sx < Su sy)) with
       | true =>
        have es:Txt.split sx sy=[sx]:=if_pos g1
        refine O3 F.slot_str_split (typeIs_str _ _ _) F.entry_str_split (F.args_str_split_2 _ _) (meets_str_split_cannot_occur sx sy t u g1) ?_
        exact mK (l:=[(sx,t)]) (tk:=s.toks) I R (ts:=Txt.split sx sy) (by rw[es];rfl) hs hn post
       | false =>
        cases g2:(O2 sx sy 0 sx.length (sx.length+1)).isEmpty with
        | true =>
         have es:Txt.split sx sy=[sx]:=(if_neg (by rw[g1];exact N8)).trans (if_pos g2)
         refine O3 F.slot_str_split (typeIs_str _ _ _) F.entry_str_split (F.args_str_split_2 _ _) (meets_str_split_not_found sx sy t u g1 hy g2) ?_
         exact mK (l:=[(sx,t)]) (tk:=s.toks) I R (ts:=Txt.split sx sy) (by rw[es];rfl) hs hn post
        | false =>
         have es:Txt.split sx sy=Builtin.Str.partsBetween sx (O2 sx sy 0 sx.length (sx.length+1)) sy.length:=(if_neg (by rw[g1];exact N8)).trans (if_neg (by rw[g2];exact N8))
         refine O3 F.slot_str_split (typeIs_str _ _ _) F.entry_str_split (F.args_str_split_2 _ _) (meets_str_split_sep sx sy t u g1 hy g2 (by lia) (by rw[← es];lia)) ?_
         rw[← es,strsFrom_eq]
         exact mK (l:=numbered s.toks (Txt.split sx sy)) I R (ts:=Txt.split sx sy) (numbered_texts _ _) hs hn post
inductive rTx (P:NT) (w:N7) (K:Nz) (k:BT.Tx) (vs:List V) (H:Hp) (Q:VK):Prop where
 | mk (m:List NL) (h:BT.HH) (ws:List BT.W) (z:BT.W) (h':BT.HH) (R:RH K m H h) (rs:RWs P w K m H vs ws) (e:BT.kTx k ws h=some (z,h')) (p:Post P w K m H z h' Q):rTx P w K k vs H Q
theorem yV {k:BT.Tx}{as:BT.Es}{σ:L2.St}{H:Hp}{Q:VK} (q:tD X F G (.tx k as) σ H Q):tCB (rTx X.prog X.w X.K k) (tDs X F G as) σ H Q:=by
 refine j3 (k:=fun ws h=>BT.kTx k ws h) (fun s h=>by simp only[BT.ev]) q fun m h xs z h' vs H1 R r e post=>?_
 exact ⟨m,h,xs,z,h',R,r,e,post⟩
theorem FI (x:String):PyData.strOk (NY x)=true:=by
 rw[QS]
 unfold PyData.strOk
 rw[Array.all_eq_true]
 intro i hi
 rw[decide_eq_true_eq]
 have hc:∀ c:Char,c.toNat < 0x110000:=fun c=>by
  rcases c.valid with h | h
  ·exact Q4 h (by decide)
  ·exact h.2
 simpa using hc _
theorem FJ:ff X (.type "str") (rTx X.prog X.w X.K .str):=by
 intro pins s σ H vs us Q I rus h
 obtain ⟨m,h,ws,z,h',R,rws,e,post⟩:=h
 obtain ⟨ds,d,e1,e2,rfl,rfl⟩:=iE (k:=.str) (fun q=>nomatch q) e
 have rr:=fV R rws e1
 match ds,e2 with
 | [.int i],e2 =>
  obtain ⟨c,e3⟩:=dh (show (if BT.big i=true then some (BT.D.str (toString i)) else none)=some d from e2)
  subst e3
  obtain ⟨v,rfl,r⟩:=rr.one
  cases r.int
  have hb:i.natAbs < 2 ^ 64:=of_decide_eq_true c
  refine oi pins s σ H _ us Q I rus ⟨i,rfl,?_,post.here R (.str _ (FI _))⟩
  have:=Nat.log2_lt (n:=i.natAbs) (k:=64)
  by_cases z:i.natAbs=0
  ·rw[z];decide
  ·have:=(Nat.log2_lt z).mpr hb
   lia
 | [.str x],e2 =>
  cases e2
  obtain ⟨v,rfl,r⟩:=rr.one
  obtain ⟨rfl,ok⟩:=r.str
  obtain ⟨u,rfl,ru⟩:=vals1 rus
  obtain ⟨t,rfl⟩:=ru
  exact PySem.P.str_of_str ⟨.str x,H,I,⟨t,rfl⟩,post.here R (.str x ok)⟩
theorem FL:ff X (.type "int") (rTx X.prog X.w X.K .intS):=by
 intro pins s σ H vs us Q I rus h
 obtain ⟨m,h,ws,z,h',R,rws,e,post⟩:=h
 obtain ⟨ds,d,e1,e2,rfl,rfl⟩:=iE (k:=.intS) (fun q=>nomatch q) e
 have rr:=fV R rws e1
 match ds,e2 with
 | [.str x],e2 =>
  obtain ⟨c,e3⟩:=yS (show (if x.length<=640 then (PySem.intText? x).map BT.D.int else none)=some d from e2)
  obtain ⟨n,e4,e5⟩:=c6 e3
  subst e5
  obtain ⟨v,rfl,r⟩:=rr.one
  obtain ⟨rfl,ok⟩:=r.str
  obtain ⟨u,rfl,ru⟩:=vals1 rus
  obtain ⟨t,rfl⟩:=ru
  exact PySem.W.KIN.call_text e4 c ⟨.int n,H,I.tok _,⟨_,rfl⟩,post.here R (.int _)⟩
theorem yW {K:Nz}{m:List NL}{H:Hp}:∀ {vs:List V}{xs:List BT.D}{us:List Value}{bs:List Bool},RDs K m H vs xs->cZ vs us->BT.boolsOf xs=some bs->us=bs.map Qz:=by
 intro vs
 induction vs with
 | nil=>intro xs us bs r rv e;cases r;cases rv;cases e;rfl
 | cons v vs ih =>
  intro xs us bs r rv e
  cases r with
  | @cons _ d _ xs r t =>
   cases rv with
   | @cons _ u _ us ru tv =>
    cases d with
    | bl b =>
     obtain ⟨bs',e1,e2⟩:=c6 (show (BT.boolsOf xs).map (b :: ·)=some bs from e)
     subst e2
     rw[ih t tv e1]
     cases r
     cases ru
     rfl
    | _=>exact cR e
theorem FM (hc:X.calm=true):ff X (.builtin "all") (rTx X.prog X.w X.K .all):=by
 intro pins s σ H vs us Q I rus h
 obtain ⟨m,h,ws,z,h',R,rws,e,post⟩:=h
 obtain ⟨ds,d,e1,e2,rfl,rfl⟩:=iE (k:=.all) (fun q=>nomatch q) e
 have rr:=fV R rws e1
 match ds,e2 with
 | [.lst xs],e2 =>
  obtain ⟨bs,e3,e4⟩:=c6 (show (BT.boolsOf xs).map (fun bs=>BT.D.bl (bs.all id))=some d from e2)
  subst e4
  obtain ⟨v,rfl,r⟩:=rr.one
  obtain ⟨a,vt,rfl,ha,ra⟩:=r.lst
  obtain ⟨u,rfl,ru⟩:=vals1 rus
  cases ru
  obtain ⟨its,q4,p,hz⟩:=I.list ha.sq
  have ei:=yW ra q4 e3
  subst ei
  have lt:a < s.heap.objs.size:=by
   obtain ⟨o,ho,_⟩:=p.isList
   exact NK ho
  have hh:X.A.in1.handled=none:=I.ok.hd hc
  refine call_all_walk (Sh p.isList ⟨s.heap.objs.size,[s.heap.objs.size,a],[s.heap.objs.size],_,_,_,fun i=>(bs[i]?).getD true,rfl,Walks.list hh s.heap.objs.size a (N1 lt) (bs.map Qz).toArray,⟨⟨_,NR _ rfl,rfl,rfl⟩,p.isList.at fun o e=>NC _ e⟩,?_,fun h' tk hk=>?_⟩)
  ·intro i v s' Q' E' hv hq
   have hv:((bs.map Qz).toArray)[i]?=some v:=hv
   rw[Tz,Og] at hv
   obtain ⟨b,g1,g2⟩:=c6 hv
   subst g2
   have hq:Q' ((bs[i]?).getD true) s':=hq
   rw[g1] at hq
   exact OM hq
  ·have es:((OR (bs.map Qz).toArray.size).all fun i=>(bs[i]?).getD true)=bs.all id:=by
    rw[NF,NS,QX,Oz,Oz]
    constructor
    ·intro q b hb
     obtain ⟨i,hi,rfl⟩:=List.mem_iff_getElem.mp hb
     have:=q i (List.mem_range.mpr hi)
     rw[NN hi] at this
     exact this
    ·intro q i hi
     rw[NN (List.mem_range.mp hi)]
     exact q _ (QM _)
   rw[es]
   refine ⟨.bl _,H,I.kept (t':=tk) fun b o e=>hk b o ?_ (NC _ e),rfl,post.here R (.bl _)⟩
   have:=NK e
   simp
   exact N1 this
noncomputable def oTx (k:BT.Tx) (x y:BT.W) (h:BT.HH):Option (BT.W×BT.HH):=BT.kTx k [x,y] h
theorem yX {k:BT.Tx}{a b:BT.E} (σ:L2.St) (H:Hp) (Q:VK) (q:tD X F G (.tx k (.cons a (.cons b .nil))) σ H Q):tOp (rOp X.prog X.w X.K (oTx k)) (tD X F G a) (tD X F G b) σ H Q:=by
 obtain ⟨m,s,h,z,h',R,S,ee,post⟩:=q
 simp only[BT.ev,BT.evs] at ee
 obtain ⟨xs,h1,e1,e2⟩:=cU ee
 obtain ⟨x,h2,e3,e4⟩:=cU e1
 obtain ⟨ws,h3,e5,e6⟩:=cU e4
 obtain ⟨y,h4,e7,e8⟩:=cU e5
 simp only[BT.mq,BT.dH,BT.iy] at e8
 cases e8
 simp only[BT.iy] at e6
 cases e6
 refine ⟨m,s,h,x,h2,R,S,e3,fun v H1 m1 x1 R1 r1=>?_⟩
 refine ⟨m1,s,h2,y,h1,R1,S.ext x1,e7,fun u H2 m2 x2 R2 r2=>?_⟩
 exact ⟨m2,h1,x,y,z,h',R2,r1.ext x2,r2,e2,fun w' H3 m3 x3 R3 r3=>post w' H3 m3 ((x1.trans x2).trans x3) R3 r3⟩
theorem B0 {w1 w2:BT.W}{h:BT.HH}{ds:List BT.D}{x y:Str} (e:BT.rds [w1,w2] h=some ds) (q:ds=[.str x,.str y]):w1=.p (.str x)/\w2=.p (.str y):=by
 subst q
 obtain ⟨d0,r0,q1,q2,q3⟩:=gm e
 cases q1
 obtain ⟨d1,r1,q4,q5,q6⟩:=gm q3
 cases q4
 exact ⟨kI q2,kI q5⟩
theorem FN {k:BT.Tx} (hk:k=.inS\/k=.ninS) {ds:List BT.D}{d:BT.D} (e:BT.txD k ds=some d):∃ x y,ds=[.str x,.str y]:=by
 rcases hk with rfl | rfl
 ·match ds,e with
  | [.str x,.str y],_=>exact ⟨x,y,rfl⟩
 ·match ds,e with
  | [.str x,.str y],_=>exact ⟨x,y,rfl⟩
theorem DA:OpR X (Oq .In) (rOp X.prog X.w X.K (oTx .inS)):=by
 intro pins s σ H v u v' u' Q I rv ru h
 obtain ⟨m,h,x,y,z,h',R,rx,ry,e,post⟩:=h
 obtain ⟨ds,d,e1,e2,rfl,rfl⟩:=iE (k:=.inS) (fun q=>nomatch q) e
 obtain ⟨sx,sy,q⟩:=FN (.inl rfl) e2
 obtain ⟨rfl,rfl⟩:=B0 e1 q
 subst q
 cases e2
 cases rx with
 | p rx =>
  cases rx with
  | str _ ok =>
   cases ry with
   | p ry =>
    cases ry with
    | str _ ok2 =>
     obtain ⟨t,rfl⟩:=rv
     obtain ⟨t2,rfl⟩:=ru
     exact PySem.SB.contains ⟨.bl _,H,I,rfl,post.here R (.bl _)⟩
inductive DB (X:Cx) (m:List NL) (H:Hp) (s:ND) (a:NL) (o:Option BT.D) (k:Key):Prop where
 | mk (vs:List (Key×Value)) (dd:s.heap.DictOf (c8 X.prog X.w) a vs) (n:(a==O9)=false) (h:(o=none/\valueAt vs k=none)\/∃ x v u,o=some x/\valueAt vs k=some u/\RelV v u/\RD X.K m H v x):DB X m H s a o k
theorem Jr {K:Nz}{m:List NL}{H:Hp}{vs:List (Key×Value)}{k:Str}:∀ {es:List (Str×V)}{kvs:List (Str×BT.D)},RDk K es kvs->KV (es.map fun q=>((Sum.inr q.1:Key),q.2)) vs->(BT.ef k kvs=none/\valueAt vs (Sum.inr k)=none)\/∃ x v u,BT.ef k kvs=some x/\valueAt vs (Sum.inr k)=some u/\RelV v u/\RD K m H v x:=by
 intro es
 induction es generalizing vs with
 | nil =>
  intro kvs r q
  cases r
  cases q
  exact .inl ⟨rfl,rfl⟩
 | cons p es ih =>
  intro kvs r q
  cases r with
  | @cons x v dd _ kvs r t =>
   cases q with
   | @cons p z l1 l2 q1 q2 =>
    obtain ⟨z1,z2⟩:=z
    obtain ⟨q11,q12⟩:=q1
    simp only at q11 q12
    subst q11
    rw[BT.ef]
    by_cases c:k=x
    ·subst c
     rw[if_pos rfl]
     exact .inr ⟨dd,v,z2,rfl,by simp[valueAt],q12,r m H⟩
    ·rw[if_neg c]
     have ne:¬ ((Sum.inr x:Key)=Sum.inr k):=fun z=>c (Sum.inr.inj z).symm
     have:=ih t q2
     simp only[valueAt] at this ⊢
     rw[QO (by simpa using ne)]
     exact this
noncomputable def kdG:BT.Kd->Str->Option BT.D
 | .t kvs,x=>BT.ef x kvs
 | .l kvs,x=>BT.fq kvs (.inr x)
theorem yY {pins:List (NL×Obj)}{σ:L2.St}{H:Hp}{s:ND}{m:List NL}{q:BT.Kd}{v:V}{u:Value} (I:Inv X pins σ H s) (r:RW X.prog X.w X.K m H v (.k q)) (rv:RelV v u) (x:Str) :
 ∃ a,u=.ref a/\DB X m H s a (kdG q x) (.inr x):=by
 cases r with
 | @k a es kvs kd rk =>
  cases rv
  obtain ⟨hm,vs,kv,dd⟩:=kd
  exact ⟨a,rfl,vs,dd s.heap I.kIn,hm,Jr rk kv⟩
 | @kl a ob ws kvs hh rk =>
  cases rv
  refine ⟨a,rfl,?_⟩
  cases su I (.inr ⟨_,hh.1⟩) rk (.inr x) with
  | no vs dd n g1 g2=>exact ⟨vs,dd,n,.inl ⟨g1,g2⟩⟩
  | is vs dd n y v1 u1 g1 g2 g3 g4=>exact ⟨vs,dd,n,.inr ⟨y,v1,u1,g1,g2,g3,g4⟩⟩
theorem qO {x:BT.W}{ws:List BT.W}{h:BT.HH}{z:BT.W}{h':BT.HH} (e:BT.kTx .dget (x :: ws) h=some (z,h')):∃ q y,x=.k q/\h'=h/\((ws=[.p .non]/\z=.p .non/\∃ kvs,q=.t kvs)\/(ws=[.p (.str y)]/\z=.p ((kdG q y).getD .non))\/∃ d,ws=[.p (.str y),.p d]/\z=.p ((kdG q y).getD d)):=by
 have no:∀ (o:Option (List BT.D)),(o.bind fun ds=>(BT.txD .dget ds).map fun d=>(BT.W.p d,h))=some (z,h')->False:=by
  intro o e
  obtain ⟨ds,_,e2⟩:=Option.bind_eq_some_iff.mp e
  obtain ⟨d,e3,_⟩:=c6 e2
  exact cR (P:=False) (show (none:Option BT.D)=some d from by rw[← e3];unfold BT.txD;rfl)
 cases x with
 | k q =>
  cases q with
  | t kvs =>
   have e:BT.xT kvs ws h=some (z,h'):=e
   unfold BT.xT at e
   split at e
   ·cases e;exact ⟨_,"",rfl,rfl,.inl ⟨rfl,rfl,_,rfl⟩⟩
   ·cases e;exact ⟨_,_,rfl,rfl,.inr (.inl ⟨rfl,rfl⟩)⟩
   ·cases e;exact ⟨_,_,rfl,rfl,.inr (.inr ⟨_,rfl,rfl⟩)⟩
   ·exact cR e
  | l kvs =>
   have e:BT.rY kvs ws h=some (z,h'):=e
   unfold BT.rY at e
   split at e
   ·cases e;exact ⟨_,_,rfl,rfl,.inr (.inl ⟨rfl,rfl⟩)⟩
   ·cases e;exact ⟨_,_,rfl,rfl,.inr (.inr ⟨_,rfl,rfl⟩)⟩
   ·exact cR e
 | p d=>exact (no (BT.rds (.p d :: ws) h) e).elim
 | r n=>exact (no (BT.rds (.r n :: ws) h) e).elim
 | o n=>exact (no (BT.rds (.o n :: ws) h) e).elim
 | c f cs=>exact (no (BT.rds (.c f cs :: ws) h) e).elim
 | x c=>exact (no (BT.rds (.x c :: ws) h) e).elim
theorem ty_dict:TyX X "dict" .dget:=by
 intro pins s σ H v v' m x ws hh r I rv rw0 e
 obtain ⟨z,h'⟩:=r
 obtain ⟨q,y,rfl,_,_⟩:=qO e
 obtain ⟨a,rfl,vs,dd,n,_⟩:=yY I rw0 rv y
 refine ⟨dd.typeIs,fun b eb=>?_⟩
 cases eb
 obtain ⟨o,es,ep,ho,hx,_⟩:=dd
 exact ⟨o,ho,hx.2.1⟩
theorem yZ:MtX X "dict.get" .dget:=by
 intro pins s σ H v vs v' us Q m h x ws z h' I rv rus R w1 w2 e post
 obtain ⟨q,y,rfl,rfl,hz⟩:=qO e
 obtain ⟨a,rfl,vs',dd,n,hg⟩:=yY I w1 rv y
 rcases hz with ⟨rfl,rfl,kvs,rfl⟩ | ⟨rfl,rfl⟩ | ⟨d,rfl,rfl⟩
 ·cases w2 with
  | cons ry t =>
   cases t
   obtain ⟨u,rfl,ru⟩:=vals1 rus
   cases ry with
   | p ry =>
    cases ry
    cases ru
    obtain ⟨f,mo,fn⟩:=map_none dd
    refine call_meetsIn Pd dd.typeIs QF (So _ _) (meets_dict_get (optKind X.prog X.w) (k:=none) a rfl n) ⟨_,mo,?_⟩
    rw[fn]
    exact ⟨.non,H,I.tok _,rfl,post.here R .non⟩
 ·cases w2 with
  | cons ry t =>
   cases t
   obtain ⟨u,rfl,ru⟩:=vals1 rus
   cases ry with
   | p ry =>
    cases ry with
    | str _ ok =>
     obtain ⟨t,rfl⟩:=ru
     refine call_meetsIn Pd dd.typeIs QF (So _ _) (meets_dict_get (c8 X.prog X.w) a (d9 _ _ y t) n) ⟨_,dd.mapOf,?_⟩
     rcases hg with ⟨g1,g2⟩ | ⟨x,v1,u1,g1,g2,g3,g4⟩
     ·rw[g1] at post
      rw[g2]
      exact ⟨.non,H,I.tok _,rfl,post.here R .non⟩
     ·rw[g1] at post
      rw[g2]
      exact ⟨v1,H,I.tok _,g3,post.here R g4⟩
 ·cases w2 with
  | cons ry t =>
   cases t with
   | cons rd t =>
    cases t
    obtain ⟨u,u2,rfl,ru,ru2⟩:=rus.two
    cases ry with
    | p ry =>
     cases rd with
     | p rd =>
      cases ry with
      | str _ ok =>
       obtain ⟨t,rfl⟩:=ru
       refine call_meetsIn Pd dd.typeIs QF (PySem.F.args_dict_get_3 _ _ _) (meets_dict_get_default (c8 X.prog X.w) a (d9 _ _ y t) n u2) ⟨_,dd.mapOf,?_⟩
       rcases hg with ⟨g1,g2⟩ | ⟨x,v1,u1,g1,g2,g3,g4⟩
       ·rw[g1] at post
        rw[g2]
        exact ⟨_,H,I.tok _,ru2,post.here R rd⟩
       ·rw[g1] at post
        rw[g2]
        exact ⟨v1,H,I.tok _,g3,post.here R g4⟩
end
section
end
section
variable {F:FT}{G:Str->Option BT.W}
end
end BS
end
section
namespace BX
open PySem PyProof.Rows
section
variable {prog:NT}{w:N7}{A:Om}{E:Value->ND->Prop}{s:ND}{R:Result->ND->Prop}
end
section
variable {E:Value->ND->Prop}
end
end BX
namespace BS
open PySem PySem.Spec PyProof.Rows L2
section
end
end BS
end
section
namespace BS
open PySem PySem.Spec PyProof.Rows L2
section
end
noncomputable def mL (sc:Ow) (x:Str):Bool:=match sc.names.lookup x with
 | some .local=>true
 | some .cell=>true
 | _=>false
inductive CTs (sc:Ow) (N:List Str):List (Nat×Str)->List NH->Prop where
 | nil:CTs sc N [] []
 | cons {i:Nat}{x:Str}{p:Pos}{tg:List (Nat×Str)}{es:List NH} (h1:N[i]?=some x) (h2:mL sc x=true) (r:CTs sc N tg es):CTs sc N ((i,x) :: tg) (.Name x p :: es)
inductive CT (sc:Ow) (N:List Str):List (Nat×Str)->NH->Prop where
 | one {i:Nat}{x:Str}{p:Pos} (h1:N[i]?=some x) (h2:mL sc x=true):CT sc N [(i,x)] (.Name x p)
 | tup {tg:List (Nat×Str)}{es:List NH}{p:Pos}{k:Nat} (hl:Nat.ble 2 tg.length=true) (h:CTs sc N tg es):CT sc N tg (.Tuple es k p)
section
theorem RS.set {K:Nz} (S:RS P w K m H σ s) (r:RW P w K m H v z):RS P w K m H (σ.set i (some v)) (s.set i (some z)):=by
 refine ⟨by simp[S.len],fun j y e=>?_⟩
 by_cases c:i=j
 ·subst c
  have hl:i < s.length:=by
   rcases OA i s.length with q | q
   ·exact q
   ·rw[N3 (by simpa using q)] at e;exact cR e
  rw[OX hl] at e
  cases e
  exact ⟨v,by rw[OX (by rw[S.len];exact hl)],r⟩
 ·rw[Pu c] at e
  obtain ⟨u,h1,h2⟩:=S.get j y e
  exact ⟨u,by rw[Pu c];exact h1,h2⟩
theorem mO (O:Ok X F G sc N) (h:mL sc x=true):L2.Loc X.env.scope x:=by
 rw[O.hsc]
 unfold mL at h
 unfold L2.Loc
 cases e:sc.names.lookup x with
 | none=>rw[e] at h;exact BT.dG h
 | some k=>rw[e] at h;cases k<;>first | (exact .inl rfl) | (exact .inr rfl) | exact BT.dG h
theorem uh (h:jD e=true):∀ x,foldedSetIterable e env x=pure x:=by
 intro x
 cases e<;>first | rfl | exact BT.dG h
noncomputable def GOk (X:Cx) (tg:List (Nat×Str)) (g:TG):Prop:=∀ (m:List NL) (H:Hp) (σ:L2.St) (s:BT.Sl) (x:V) (d:BT.D) (ds:List BT.D) (Q:L2.St->Hp->Prop),RS X.prog X.w X.K m H σ s->RD X.K m H x d->BT.target tg.length d=some ds →
 (∀ σ',RS X.prog X.w X.K m H σ' (BT.sets tg ds s)->Q σ' H)->g x σ H Q
noncomputable def Mx (K:Nz) (n:Nat) (t:TGs):TG:=fun v σ H Q=>∃ a xs,v=.ref a/\(SqT K H a xs\/LL K H a xs)/\xs.length=n/\t xs σ H Q
theorem FO {X:Cx}{es:List NH}{k:Nat}{t:TGs}{n:Nat}{pos:Pos} (hc:X.calm=true) (h:PGs X es t) (hn:(Py es X.env).length=n) (hst:(Py es X.env).findIdx? (·.1)=none):PG X (.Tuple es k pos) (Mx X.K n t):=by
 intro pins s σ H v u Q I r hw
 obtain ⟨a,xs,rfl,hq | hq,hl,hw⟩:=hw
 ·exact D0 hc h hn hst pins s σ H _ u Q I r ⟨a,xs,rfl,hq,hl,hw⟩
 ·cases r
  obtain ⟨z,its,n2,rv,hz,e⟩:=rdL I hq
  rw[assign_Tuple]
  refine NB (RN ?_)
  unfold unpack
  rw[hn,hst]
  refine NB (P7 ?_)
  have sz:n=its.toArray.size:=by rw[NF,← hl];exact hz
  rw[sz]
  refine PySem.W.kun_itemsOf (I.ok.hd hc) ⟨_,e,rfl,_,rfl⟩ fun h' hx=>?_
  have I1:Inv X pins σ H { s with heap:=h' }:=I.kept (t':=s.toks) fun b o e=>hx b o (N1 (NK e)) e
  exact h pins _ σ H xs _ Q I1 (by simpa using rv) hw
inductive GsO (X:Cx) (tg:List (Nat×Str)) (es:List NH):Prop where
 | mk (gs:TGs) (h:PGs X es gs) (hn:(Py es X.env).length=tg.length) (hs:(Py es X.env).findIdx? (·.1)=none)
  (ok:∀ (m:List NL) (H:Hp) (σ:L2.St) (s:BT.Sl) (vs:List V) (ds:List BT.D) (Q:L2.St->Hp->Prop),RS X.prog X.w X.K m H σ s->RDs X.K m H vs ds->ds.length=tg.length->(∀ σ',RS X.prog X.w X.K m H σ' (BT.sets tg ds s)->Q σ' H)->gs vs σ H Q):GsO X tg es
theorem Mz {X:Cx}{sc:Ow}{N:List Str} (O:Ok X F G sc N) {tg:List (Nat×Str)}{es:List NH} (h:CTs sc N tg es) (hf:∀ q∈tg,X.fn q.2=true\/X.env.scope.names.lookup q.2=some .local):GsO X tg es:=by
 induction h with
 | nil =>
  refine ⟨Hs,AB,rfl,rfl,fun m H σ s vs ds Q S r hl q=>?_⟩
  cases r with
  | nil=>exact ⟨rfl,q _ S⟩
  | cons _ _=>cases hl
 | @cons i x p tg es h1 h2 r ih =>
  obtain ⟨gs,hg,hn,hs,ok⟩:=ih fun q hq=>hf q (NP _ hq)
  refine ⟨_,wK (tw (i:=i) O.nd (by rw[O.hN];exact h1) (mO O h2) (hf (i,x) (by simp))) hg,congrArg (·+1) hn,?_,fun m H σ s vs ds Q S r hl q=>?_⟩
  ·show ((false,Sy (.Name x p) X.env) :: Py es X.env).findIdx? (·.1)=none
   rw[List.findIdx?_cons]
   show (if false=true then _ else _)=_
   rw[if_neg (by decide),hs];rfl
  ·cases r with
   | nil=>cases hl
   | @cons v d vs ds ra t=>exact ⟨v,vs,rfl,ok m H (σ.set i (some v)) (s.set i (some (.p d))) vs ds Q (S.set (.p ra)) t (Nat.succ.inj hl) q⟩
theorem sCT (O:Ok X F G sc N) (hc:X.calm=true) (h:CT sc N tg te) (hf:∀ q∈tg,X.fn q.2=true\/X.env.scope.names.lookup q.2=some .local):∃ g,PG X te g/\GOk X tg g:=by
 cases h with
 | @one i x p h1 h2 =>
  refine ⟨_,tw (i:=i) O.nd (by rw[O.hN];exact h1) (mO O h2) (hf (i,x) (by simp)),?_⟩
  intro m H σ s v d ds Q S r e q
  simp only[NJ,Pi,Nat.zero_add,BT.qy] at e
  cases e
  exact q _ (S.set (.p r))
 | @tup tg es p k hl h =>
  obtain ⟨gs,hg,hn,hs,ok⟩:=Mz O h hf
  refine ⟨_,FO (n:=tg.length) hc hg hn hs,?_⟩
  intro m H σ s v d ds Q S r e q
  have h2:=TV hl
  unfold BT.target at e
  rw[if_neg (by lia)] at e
  cases r with
  | @tup a vs dd h r =>
   rw[BT.qx] at e
   obtain ⟨c,e⟩:=dh e
   subst e
   exact ⟨a,vs,rfl,.inl (h.elim (fun q=>.inl q.1) fun ⟨o,its,n,q,_⟩=>.inr ⟨o,its,n,q⟩),by rw[r.length];exact c,ok m H σ s vs _ Q S r c q⟩
  | @lst a vs dd h r =>
   rw[BT.qw] at e
   obtain ⟨c,e⟩:=dh e
   subst e
   exact ⟨a,vs,rfl,.inr (h.elim (fun q=>.inl q.1) .inr),by rw[r.length];exact c,ok m H σ s vs _ Q S r c q⟩
  | _=>exact cR e
end
end BS
end
section
namespace BC
open PySem
section
theorem vW {target:NH} (I:Nat->ND->Prop)
 (turn:∀ n s,I n s->wpAny (N5 prog w) A (pyNext it) (fun r s₁=>match r with
  | none=>R (.ok .next) s₁
  | some v=>wpAny (N5 prog w) A (Qw target it v) (fun _ s₀=>wpAny (N5 prog w) A (Sy target env v) (fun _ s₂ =>
   wpAny (N5 prog w) A (forIn ifs true fun c r=>if r=true then do let ok ← isTrue c env (eval c env);pure (QH ok) else pure (QH r)) (fun ok s₃ =>
    if ok=true then wpAny (N5 prog w) A (eval elt env) (fun x s₄ =>
     wpAny (N5 prog w) A (call (.builtin "list.append") [acc,x]) (fun _ s₅=>∃ m,m < n/\I m s₅) (fun _ _=>False) s₄) (fun _ _=>False) s₃
    else ∃ m,m < n/\I m s₃) (fun _ _=>False) s₂) (fun _ _=>False) s₀) (fun _ _=>False) s₁) (fun _ _=>False) s)
 (n:Nat) (h:I n s):codeAny (N5 prog w) A (.compLoop (.ListComp elt [⟨target,iter,ifs,0⟩] scope pos) 0 it acc env) R s:=by
 refine codeAny_loop rfl I (fun n s hI=>?_) n h
 show wpAny _ A ((compTurn (.ListComp elt [⟨target,iter,ifs,0⟩] scope pos) 0 it acc env).onRaise (fun x=>do noteFrame x env;theTreesLotGoes x)) _ _ s
 refine wpAny_noted ?_
 rw[compTurn_list]
 refine NB (RN (NB (Px (turn n s hI) (fun r s₁ h₁=>?_) fun _ _ h'=>h'.elim)))
 cases r with
 | none=>exact wpAny_pure h₁
 | some v =>
  refine NB (Px h₁ (fun _ s₀ h₀'=>?_) fun _ _ h'=>h'.elim)
  refine NB (Px h₀' (fun _ s₂ h₂=>NB (Px h₂ (fun ok s₃ h₃=>?_) fun _ _ h'=>h'.elim)) fun _ _ h'=>h'.elim)
  cases ok with
  | false=>exact wpAny_pure ⟨rfl,h₃⟩
  | true =>
   exact NB (NB (Px h₃ (fun x s₄ h₄=>NB (Px h₄ (fun _ s₅ h₅=>wpAny_pure (wpAny_pure ⟨rfl,h₅⟩)) fun _ _ h'=>h'.elim)) fun _ _ h'=>h'.elim))
end
noncomputable def gT (cells:List (Str×NL)):List (Str×P9)->List (Str×NL)->List (Str×NL)
 | [],acc=>acc
 | (n,k) :: r,acc=>if k==.free then (match cells.lookup n with | some c=>gT cells r ((n,c) :: acc) | none=>gT cells r acc) else gT cells r acc
noncomputable def sA (cells:List (Str×NL)) (names:List (Str×P9)):Prop:=∀ x∈names,x.2=.free->∃ c,cells.lookup x.1=some c
theorem mP:∀ (names:List (Str×P9)) (acc:List (Str×NL)),sA env.cells names →
 (forIn names acc fun x (r:List (Str×NL))=>(if x.2==.free then do let c ← cellOf env x.1;pure (QH ((x.1,c) :: r)) else pure (QH r):Sem (ForInStep (List (Str×NL)))))=pure (gT env.cells names acc)
 | [],acc,_=>rfl
 | (n,k) :: r,acc,h=>by
  have ih:=fun acc=>mP (env:=env) r acc fun x hx=>h x (NP _ hx)
  rw[Sd]
  by_cases c:k=.free
  ·subst c
   obtain ⟨a,e⟩:=h (n,.free) NV rfl
   have e:env.cells.lookup n=some a:=e
   simp only[gT,e]
   show (cellOf env n >>= _) >>= _=_
   unfold cellOf
   rw[e]
   exact ih _
  ·have cb:(k==OF)=false:=by simpa using c
   simp only[gT,cb]
   exact ih _
theorem kJ {α β:Type}{m m':Sem α}{f:α->Sem β} (h:m=m'):(m >>= f)=(m' >>= f):=by rw[h]
theorem sC {scope:Ow}{env:Env} (h:sA env.cells scope.names):closureFor scope env=pure (gT env.cells scope.names []):=by
 have:=mP (env:=env) scope.names [] h
 unfold closureFor
 exact (kJ this).trans rfl
theorem o9:∀ {names:List (Str×P9)}{acc:List (Str×NL)},(∀ x c,acc.lookup x=some c->cells.lookup x=some c)->∀ x c,(gT cells names acc).lookup x=some c->cells.lookup x=some c
 | [],acc,h,x,c,e=>h x c e
 | (n,k) :: r,acc,h,x,c,e=>by
  rw[gT] at e
  split at e
  ·split at e
   ·rename_i a ea
    refine o9 (fun y b q=>?_) x c e
    rw[Pb] at q
    split at q
    ·rename_i hy
     have:y=n:=by simpa using hy
     subst this
     cases q;exact ea
    ·exact h y b q
   ·exact o9 h x c e
  ·exact o9 h x c e
theorem lF:∀ {names:List (Str×P9)}{acc:List (Str×NL)},(∃ c,acc.lookup x=some c)->∃ c,(gT cells names acc).lookup x=some c
 | [],acc,h=>h
 | (n,k) :: r,acc,h=>by
  rw[gT]
  split
  ·split
   ·refine lF ?_
    rw[Pb]
    split
    ·exact ⟨_,rfl⟩
    ·exact h
   ·exact lF h
  ·exact lF h
theorem pq:∀ {names:List (Str×P9)}{acc:List (Str×NL)},(x,OF)∈names->(∃ c,cells.lookup x=some c)->∃ c,(gT cells names acc).lookup x=some c
 | [],acc,h,_=>nomatch h
 | (n,k) :: r,acc,h,q=>by
  rw[gT]
  rcases List.mem_cons.mp h with e | e
  ·cases e
   obtain ⟨c,ec⟩:=q
   rw[if_pos (by rfl),ec]
   refine lF ?_
   exact ⟨c,by simp⟩
  ·split
   ·split
    ·exact pq e q
    ·exact pq e q
   ·exact pq e q
end BC
end
section
namespace BS
open PySem PySem.Spec PyProof.Rows L2
noncomputable def mQ (F:FT) (G:Str->Option BT.W) (sc:Ow) (N:List Str) (cond:BT.Es) (ifs:List NH):Prop :=
 (cond=.nil/\ifs=[])\/∃ c c',cond=.cons c .nil/\ifs=[c']/\∀ X',Ok X' F G sc N->PT X' c' (tDT X' F G c)
structure qP (sc:Ow) (N tg:List Str) (fv:List (Nat×Str)) (scope:Ow):Prop where
 k1:scope.kind=.function
 k2:sc.kind=.function
 cell:∀ y∈scope.names,y.2≠.cell
 loc:∀ y∈scope.names,y.2=.local->scope.names.lookup y.1=some .local
 free:∀ y∈scope.names,y.2=.free->sc.names.lookup y.1=some .cell
 fvs:∀ q∈fv,N[q.1]?=some q.2/\(q.2,OF)∈scope.names/\sc.names.lookup q.2=some .cell/\(dW scope sc).names.lookup q.2=some .cell
 nd:(tg++fv.map (·.2)).Nodup
theorem nZ:∀ {l:List Str},jE l=true->l.Nodup
 | [],_=>SE
 | x :: r,h=>by
  simp only[jE,NG,P5] at h
  refine List.nodup_cons.mpr ⟨fun z=>?_,nZ h.2⟩
  have:=h.1
  simp[z] at this
theorem Js (h:jF sc N tg fv scope=true):qP sc N tg fv scope:=by
 simp only[jF,NG] at h
 obtain ⟨⟨⟨⟨⟨⟨h1,h2⟩,h3⟩,h4⟩,h5⟩,h6⟩,h7⟩:=h
 rw[Oz] at h3 h4 h5 h6
 refine ⟨eq_of_beq h1,eq_of_beq h2,fun y hy e=>?_,fun y hy e=>?_,fun y hy e=>?_,fun q hq=>?_,nZ h7⟩
 ·have:=h3 y hy
  rw[e] at this;simp at this
 ·have:=h4 y hy
  rw[e] at this;simpa using this
 ·have:=h5 y hy
  rw[e] at this;simpa using this
 ·have:=h6 q hq
  simp only[NG] at this
  obtain ⟨⟨⟨a,b⟩,c⟩,d⟩:=this
  exact ⟨by simpa using a,by simpa using b,by simpa using c,by simpa using d⟩
theorem jI {sc:Ow}{x:Str}{k:P9} (hk:k=.cell\/k=.free):∀ {names:List (Str×P9)},(∀ y∈names,y.2≠.cell) →
 (names.map fun (n,k)=>if (k==OF&&sc.kind==.function&&sc.names.lookup n==some .cell) then (n,Q6) else (n,k)).lookup x=some k->(x,OF)∈names
 | [],_,h=>by simp at h
 | (n,q) :: r,hc,h=>by
  have ih:=jI (sc:=sc) (x:=x) hk (names:=r) fun y hy=>hc y (NP _ hy)
  replace h:PD x ((if (q==OF&&sc.kind==.function&&sc.names.lookup n==some .cell)=true then (n,Q6) else (n,q)) :: (r.map fun (n,k)=>if (k==OF&&sc.kind==.function&&sc.names.lookup n==some .cell) then (n,Q6) else (n,k)))=some k:=h
  have go:∀ (q':P9),(q'=q\/(q'=.cell/\q=.free))->PD x ((n,q') :: (r.map fun (n,k)=>if (k==OF&&sc.kind==.function&&sc.names.lookup n==some .cell) then (n,Q6) else (n,k)))=some k->(x,OF)∈(n,q) :: r:=by
   intro q' hq gl
   rw[Pb] at gl
   split at gl
   ·rename_i hx
    have hx:x=n:=by simpa using hx
    subst hx
    have e:q'=k:=NO gl
    have hqf:q=.free:=by
     rcases hq with rfl | ⟨_,e2⟩
     ·rcases hk with z | z
      ·exact absurd (e.trans z) (hc (x,q') NV)
      ·exact e.trans z
     ·exact e2
    rw[hqf];exact NV
   ·exact NP _ (ih gl)
  by_cases c:(q==OF&&sc.kind==.function&&sc.names.lookup n==some .cell)=true
  ·rw[if_pos c] at h
   refine go .cell (.inr ⟨rfl,?_⟩) h
   simp only[NG] at c
   exact eq_of_beq c.1.1
  ·rw[if_neg c] at h
   exact go q (.inl rfl) h
noncomputable def blk (X:Cx) (N':List Str) (s2:ND) (H1:Hp) (scope:Ow) (C:NL) (fp:List NL):Cx :=
 { X with N:=N',s₀:=s2,H₀:=H1,env:=Uh scope (BC.gT X.env.cells scope.names []) C X.env,outer:=X.stack,stack:=X.stack,ex:=fp,fn:=fun _=>false,pn:=[],xe:=fun _ _=>False }
section
variable {X:Cx}{F:FT}{G:Str->Option BT.W}{sc:Ow}{N:List Str}{pins:List (NL×Obj)}{σ:L2.St}{H1:Hp}{s2:ND}
theorem kW {scope:Ow}{x:Str}{c:NL} (e:(BC.gT X.env.cells scope.names []).lookup x=some c):X.env.cells.lookup x=some c :=
 BC.o9 (fun _ _ z=>by simp at z) x c e
theorem qQ (hsc:X.env.scope=sc) (x:Str):(Uh scope (BC.gT X.env.cells scope.names []) C X.env).kindOf x=(dW scope sc).names.lookup x:=by
 subst hsc;rfl
theorem um (I1:Inv X pins σ H1 s2) (hsc:X.env.scope=sc) (cf:qP sc N tg fv scope) (hx:(x,OF)∈scope.names):∃ c,(BC.gT X.env.cells scope.names []).lookup x=some c:=by
 refine BC.pq hx (I1.ok.has x (.inl ?_))
 have:=cf.free _ hx rfl
 rw[← hsc] at this
 exact this
theorem FP (I1:Inv X pins σ H1 s2) (hsc:X.env.scope=sc) {scope:Ow}{tg:List Str}{fv:List (Nat×Str)} (cf:qP sc N tg fv scope) {N':List Str}{C:NL}{fp:List NL} (hC:C=s2.heap.objs.size+1)
 (hf:∀ b∈fp,mZ X pins H1 b) (hlt:∀ b∈fp,b < s2.heap.objs.size):(blk X N' s2 H1 scope C fp).Ok where
 mod:=I1.ok.mod
 kind:=cf.k1
 glob:=I1.ok.glob
 blt:=I1.ok.blt
 above:=by show s2.heap.objs.size<=C;rw[hC];exact Qp _
 inj:=fun x y c a b=>I1.ok.inj x y c (kW a) (kW b)
 has:=fun x hx=>by
  refine um I1 hsc cf ?_
  have hx':(dW scope sc).names.lookup x=some .cell\/(dW scope sc).names.lookup x=some .free:=by
   rw[← qQ hsc (C:=C)];exact hx
  rcases hx' with e | e
  ·exact jI (.inl rfl) cf.cell e
  ·exact jI (.inr rfl) cf.cell e
 cab:=fun x c z=>by cases z
 hd:=I1.ok.hd
 frames:=I1.ok.frames
 stk:=.inl rfl
 exf:=fun b hb=>⟨fun z=>by
  have l:=hlt b hb
  have z:b=C:=z
  rw[z,hC] at l
  exact absurd l (Nat.not_lt.mpr (Qp _)),fun x c e=>(hf b hb).2.2.2.2.1 x c (kW e)⟩
 bs:=I1.bs
 bsz:=Ol I1.ok.bsz I1.sz
 noex:=fun b o e hb=>by
  have q:=(I1.ok.bs b o e).1
  rcases (hf b hb).2.2.2.1 with z | z
  ·exact I1.ok.noex b o e z
  ·exact absurd (NK q) (Nat.not_lt.mpr z)
 exfs:=fun b hb z=>by
  rcases List.mem_cons.mp (I1.n9 b z) with e | e
  ·exact (hf b hb).2.1 e
  ·exact (hf b hb).2.2.1 e
 jK:=I1.stack
 frf:=I1.sW
end
noncomputable def lobj (us:List Value) (n:Nat):Obj:={ cls:=.type "list",data:=.seq us.toArray n }
section
variable {X:Cx}{F:FT}{G:Str->Option BT.W}{sc:Ow}{N:List Str}{pins:List (NL×Obj)}{σ:L2.St}{H1:Hp}{s2:ND}
noncomputable def jJ (n:Nat) (σ:L2.St) (fv:List (Nat×Str)):L2.St:=NX n none++fv.map fun q=>(σ[q.1]?).getD none
theorem B3 (I1:Inv X pins σ H1 s2) (hsc:X.env.scope=sc) (hN:X.N=N) (cf:qP sc N tg fv scope) (hC:C=s2.heap.objs.size+1)
 (hf:∀ b∈fp,mZ X pins H1 b) (hlt:∀ b∈fp,b < s2.heap.objs.size) (old:∀ b o,s2.heap.get? b=some o->h1.get? b=some o) (hns:h1.Ns C m) (hD:h1.get? s2.heap.objs.size=some (lobj [] 0)) :
 Inv (blk X (tg++fv.map (·.2)) s2 H1 scope C fp) [(s2.heap.objs.size,lobj [] 0)] (jJ tg.length σ fv) H1 { s2 with heap:=h1,toks:=tk } where
 ok:=FP I1 hsc cf hC hf hlt
 os:=rfl
 bare:=I1.bare
 base:=Un.kept old
 loc:=by
  refine ⟨m,hns,fun i x v e1 e2 e3=>?_⟩
  have e1:(tg++fv.map (·.2))[i]?=some x:=e1
  unfold jJ at e2
  by_cases c:i < tg.length
  ·rw[NQ (by simpa using c),PY,if_pos c] at e2
   cases e2
  ·rw[Oa (by simpa using c)] at e2
   rw[Oa (by simpa using c)] at e1
   simp only[Qd,Og] at e1 e2
   cases g:fv[i - tg.length]? with
   | none=>rw[g] at e1;exact cR e1
   | some q =>
    rw[g] at e1 e2
    simp only[Qi,PN] at e1 e2
    subst e1
    obtain ⟨f1,f2,f3,f4⟩:=cf.fvs q (NZ g)
    have e2':σ[q.1]?=some (some v):=by
     cases gg:σ[q.1]? with
     | none=>rw[gg] at e2;exact cR e2
     | some o=>rw[gg] at e2;simp only[Um] at e2;rw[e2]
    obtain ⟨m0,hn0,hl0⟩:=I1.loc
    obtain ⟨u,ru,lk⟩:=hl0 q.1 q.2 v (by rw[hN];exact f1) e2' (by rw[hsc];exact .inr (.inl f3))
    refine ⟨u,ru,?_⟩
    have kc:X.env.kindOf q.2=some .cell:=by
     show X.env.scope.names.lookup q.2=_
     rw[hsc];exact f3
    rcases lk with ⟨k,_⟩ | ⟨k,c,ec,o,ho,hd⟩
    ·rw[kc] at k;cases k
    ·obtain ⟨c',ec'⟩:=um I1 hsc cf f2
     have:=kW ec'
     rw[ec] at this
     cases this
     refine .inr ⟨.inl ?_,c,ec',o,old c o ho,hd⟩
     show (Uh scope (BC.gT X.env.cells scope.names []) C X.env).kindOf q.2=_
     rw[qQ hsc];exact f4
 cell:=fun x c e=>by
  obtain ⟨v,o,ho,hd⟩:=I1.cell x c (kW e)
  exact ⟨v,o,old c o ho,hd⟩
 free:=I1.hok.fresh (by show s2.heap.objs.size<=C;rw[hC];exact Qp _)
 freeC:=fun x c e=>I1.freeC x c (kW e)
 pin:=fun p hp=>by
  have e:p=(s2.heap.objs.size,lobj [] 0):=by
   have:p∈[]++[(s2.heap.objs.size,lobj [] 0)]:=hp
   simpa using this
  subst e
  refine ⟨hD,I1.hok.fresh (NI _),?_,?_,fun v z=>by cases (show Data.seq _ _=Data.cell v from z)⟩
  ·show s2.heap.objs.size≠C
   rw[hC];exact N1 (PC _)
  ·intro z
   obtain ⟨_,o,ho,_⟩:=I1.stack.mem z
   exact absurd (NK ho) (Pa _)
 hok:=I1.hok.kept old
 len:=by
  show (jJ tg.length σ fv).length=(tg++fv.map (·.2)).length
  simp[jJ]
end
noncomputable def tgF:Nat->List Str->List (Nat×Str)
 | _,[]=>[]
 | k,x :: r=>(k,x) :: tgF (k+1) r
noncomputable abbrev tgI (tg:List Str):List (Nat×Str):=tgF 0 tg
theorem pA:∀ (tg:List Str) (k:Nat),(tgF k tg).length=tg.length
 | [],_=>rfl
 | _ :: r,k=>congrArg (·+1) (pA r (k+1))
theorem uq {q:Nat×Str}:∀ {tg:List Str}{k:Nat},q∈tgF k tg->q.2∈tg
 | x :: r,k,h=>by
  rcases List.mem_cons.mp h with rfl | h
  ·exact NV
  ·exact NP _ (uq h)
theorem ur (h:nmE te=some x):∃ p,te=.Name x p:=by
 cases te with
 | Name y p=>cases h;exact ⟨p,rfl⟩
 | _=>exact absurd (show (none:Option Str)=some _ from h) (fun z=>nomatch z)
theorem y9 (h:E2 te=a :: l):∃ k p,te=.Tuple (a :: l) k p:=by
 cases te with
 | Tuple xs k p=>cases h;exact ⟨k,p,rfl⟩
 | _=>exact absurd (show ([]:List NH)=_ :: _ from h) (fun z=>nomatch z)
theorem za {sc:Ow}{fs:List Str}:∀ (tg:List Str) {pre:List Str}{es:List NH},tg.map some=es.map nmE->(∀ x∈tg,mL sc x=true)->CTs sc (pre++(tg++fs)) (tgF pre.length tg) es
 | [],pre,es,e,_=>by
  cases es with
  | nil=>exact .nil
  | cons _ _=>cases e
 | x :: r,pre,es,e,h=>by
  cases es with
  | nil=>cases e
  | cons a es =>
   obtain ⟨p,rfl⟩:=ur (SX e).symm
   have q:=za (fs:=fs) r (pre:=pre++[x]) (List.tail_eq_of_cons_eq e) fun y hy=>h y (NP _ hy)
   rw[Pr,NW] at q
   exact .cons (by simp) (h x NV) q
theorem B4 (h:qE sc tg te=true):CT sc (tg++fs) (tgI tg) te/\(tgI tg).length=tg.length/\∀ q∈tgI tg,sc.names.lookup q.2=some .local:=by
 have st:∀ {x:Str},sc.names.lookup x=some .local->mL sc x=true:=fun e=>by unfold mL;rw[e]
 unfold qE at h
 rw[NG,Pk,NG,Oz] at h
 obtain ⟨h,ha⟩:=h
 have lo:∀ {x},x∈tg->sc.names.lookup x=some .local:=fun {x} hx=>eq_of_beq (ha x hx)
 rcases h with h | ⟨h1,h2⟩
 ·have e:=eq_of_beq h
  cases tg with
  | nil=>exact absurd (congrArg Sb e) (by simp)
  | cons x r =>
   cases r with
   | cons _ _=>exact absurd (congrArg Sb e) (by simp)
   | nil =>
    obtain ⟨p,rfl⟩:=ur (SX e).symm
    have l:sc.names.lookup x=some .local:=lo NV
    exact ⟨.one rfl (st l),rfl,fun q hq=>by rw[List.mem_singleton.mp hq];exact l⟩
 ·have e:=eq_of_beq h2
  cases g:E2 te with
  | nil=>rw[g] at e;cases tg with
   | nil=>exact BT.dG h1
   | cons _ _=>cases e
  | cons a l =>
   rw[g] at e
   obtain ⟨k,p,rfl⟩:=y9 g
   exact ⟨.tup (by rw[pA];exact h1) (za (pre:=[]) tg e fun x hx=>st (lo hx)),pA _ _,fun q hq=>lo (uq hq)⟩
theorem uv:∀ (tg:List Str) (k:Nat) (ds:List BT.D) (sl:BT.Sl),ds.length=tg.length->k+tg.length<=sl.length->BT.sets (tgF k tg) ds sl=sl.take k++(ds.map BT.gD++sl.drop (k+tg.length))
 | [],k,ds,sl,h,_=>by
  cases List.length_eq_zero_iff.mp h
  exact (List.take_append_drop k sl).symm
 | x :: r,k,ds,sl,h,hl=>by
  cases ds with
  | nil=>cases h
  | cons d ds =>
   rw[NJ] at hl
   have kl:k < sl.length:=by lia
   show BT.sets (tgF (k+1) r) ds (sl.set k (some (.p d)))=_
   rw[uv r (k+1) ds _ (Nat.succ.inj h) (by rw[List.length_set];lia),List.drop_set_of_lt (by lia),List.take_succ,OX kl,List.take_set,List.set_eq_of_length_le (by rw[OP];lia),Pr,show k+1+r.length=k+(x :: r).length by rw[NJ];lia]
   rfl
theorem sD {n:Nat}{d:BT.D}{ds:List BT.D} (h:BT.target n d=some ds):ds.length=n:=by
 unfold BT.target at h
 by_cases c:n=1
 ·rw[if_pos c] at h;cases h;exact c.symm
 ·rw[if_neg c] at h
  cases d with
  | tup xs=>rw[BT.qx] at h;obtain ⟨c,h⟩:=dh h;rw[← h];exact c
  | lst xs=>rw[BT.qw] at h;obtain ⟨c,h⟩:=dh h;rw[← h];exact c
  | _=>exact cR h
theorem B5 (h:(tgI tg).length=tg.length) (h0:tg≠[]) (hd:BT.target tg.length d0=some ds) (hl:sl.length=tg.length+fs.length) (hr:sl.drop tg.length=fs) :
 BT.sets (tgI tg) ds sl=ds.map BT.gD++fs/\(ds.map BT.gD++fs).length=tg.length+fs.length/\(ds.map BT.gD++fs).drop tg.length=fs:=by
 have hn:=sD hd
 have g:=uv tg 0 ds sl hn (by lia)
 rw[Nat.zero_add,hr] at g
 have le:(ds.map BT.gD).length=tg.length:=by rw[NS];exact hn
 exact ⟨g,by rw[NW,le],by rw[← le];exact List.drop_left⟩
theorem kK:∀ {fv:List (Nat×Str)}{fs:BT.Sl},BT.frees s fv=some fs->fs.length=fv.length/\∀ (i:Nat) (q:Nat×Str),fv[i]?=some q->fs[i]?=s[q.1]?
 | [],fs,e=>by simp[BT.frees] at e;subst e;exact ⟨rfl,fun i q z=>by simp at z⟩
 | q :: r,fs,e=>by
  simp only[BT.frees] at e
  cases g:s[q.1]? with
  | none=>rw[g] at e;exact cR e
  | some w =>
   rw[g] at e
   obtain ⟨fs',e1,e2⟩:=c6 e
   subst e2
   obtain ⟨h1,h2⟩:=kK e1
   refine ⟨by simp[h1],fun i p z=>?_⟩
   cases i with
   | zero=>simp at z;subst z;simp[g]
   | succ i=>simpa using h2 i p (by simpa using z)
theorem vX {K:Nz} (S:RS P w K m H σ s) (hf:BT.frees s fv=some fs):RS P w K m H (jJ n σ fv) (NX n none++fs):=by
 obtain ⟨h1,h2⟩:=kK hf
 refine ⟨by simp[jJ,h1],fun i y e=>?_⟩
 by_cases c:i < n
 ·rw[NQ (by simpa using c),PY,if_pos c] at e
  cases e
 ·rw[Oa (by simpa using c)] at e
  simp only[Qd] at e
  have hi:i - n < fv.length:=by
   rw[← h1]
   rcases OA (i - n) fs.length with z | z
   ·exact z
   ·rw[N3 z] at e;exact cR e
  have g:=NN hi
  rw[h2 _ _ g] at e
  obtain ⟨v,hv,r⟩:=S.get _ _ e
  refine ⟨v,?_,r⟩
  unfold jJ
  rw[Oa (by simpa using c)]
  simp only[Qd,Og,g,Qi,hv,Um]
theorem B6 {rest:List BT.D} (e:BT.dm f n (d :: r) h=some (rest,h2)) :
 ∃ xs o hA rest',BT.target n d=some xs/\f xs h=some (o,hA)/\BT.dm f n r hA=some (rest',h2)/\rest=(match o with | some x=>x :: rest' | none=>rest'):=by
 rw[BT.dm] at e
 cases g:BT.target n d with
 | none=>rw[g] at e;exact cR e
 | some xs =>
  rw[g] at e
  obtain ⟨o,hA,e1,e2⟩:=cU e
  unfold BT.qz at e2
  obtain ⟨rest',h3,e3,e4⟩:=cU e2
  unfold BT.tO at e4
  cases e4
  exact ⟨xs,o,hA,rest',rfl,e1,e3,rfl⟩
theorem Un.behind (u:Un fs ex H H' h h1) (a:∀ b,b < h.objs.size->H2 b=H' b) (lt:∀ b o,H b=some o->b < h.objs.size) (k:∀ b o,b < h.objs.size->h1.get? b=some o->h2.get? b=some o):Un fs ex H H2 h h2 where
 keep:=fun b o e n c d=>k b o (NK e) (u.keep b o e n c d)
 slot:=fun b o e n c d=>by obtain ⟨sl,q⟩:=u.slot b o e n c d;exact ⟨sl,k b _ (NK e) q⟩
 free:=fun b o e n d=>by rw[a b (NK e)];exact u.free b o e n d
 there:=fun b o e d=>by obtain ⟨o',q⟩:=u.there b o e d;exact ⟨o',k b o' (NK e) q⟩
 tups:=fun b xs e=>by rw[a b (lt b _ e)];exact u.tups b xs e
 frzs:=fun b o w e=>by rw[a b (lt b _ e)];exact u.frzs b o w e
 tbls:=fun b ps e=>by rw[a b (lt b _ e)];exact u.tbls b ps e
section
theorem FQ (O:Ok X F G sc N) (hu:gw N=true) (cf:qP sc N tg fv scope) :
 Ok (blk X (tg++fv.map (·.2)) s2 H1 scope C fp) F G (dW scope sc) (tg++fv.map (·.2)) where
 hsc:=by have:=O.hsc;subst this;rfl
 hN:=rfl
 nd:=cf.nd
 calm:=fun _=>O.calm hu
 hu:=O.hu
 own:=Rt
 glob:=O.glob
 call:=O.call
 meth:=O.meth
 mkc:=O.mkc
 blt:=O.blt
 lam:=O.lam
 lamx:=fun h=>absurd (show false=true from h "") (by decide)
theorem zb (e:BT.nR mu sr n (some fs) ec ee ws h=some z) (g:(BT.rds ws h).bind (BT.fP sr)=some ds) :
 uf sr ws/\∃ f',(∀ xs h r,f' xs h=some r->BT.dX ec ee fs xs h=some r/\o5 ws ds r.2)/\o5 ws ds h/\BT.bnd (BT.dm f' n ds h) (BT.gK mu)=some z:=by
 unfold BT.nR at e
 rw[g] at e
 simp only at e
 by_cases ca:BT.iQ ws=true
 ·rw[if_pos ca] at e
  exact ⟨.inl ca,_,fun xs h r q=>⟨q,mJ ca⟩,mJ ca,e⟩
 ·rw[if_neg ca] at e
  have two:sr=.seq/\∃ q,ws=[.r q]:=by
   unfold BT.rX at e
   split at e
   ·exact ⟨rfl,_,rfl⟩
   ·exact cR e
  obtain ⟨rfl,q,rfl⟩:=two
  rw[BT.xP] at e
  have gl:BT.lat h q=some ds:=by
   simp only[BT.rds,BT.rd,Qi] at g
   cases g1:BT.lat h q with
   | none=>rw[g1] at g;exact cR g
   | some xs=>rw[g1] at g;cases g;rfl
  refine ⟨.inr ⟨rfl,q,rfl⟩,_,fun xs h r q=>?_,fun q' e'=>by cases e';exact gl,e⟩
  unfold BT.chk at q
  cases g2:BT.dX ec ee fs xs h with
  | none=>rw[g2] at q;exact cR q
  | some r2 =>
   rw[g2] at q
   simp only at q
   split at q
   ·rename_i c
    cases q
    exact ⟨rfl,fun q' e'=>by cases e';exact c⟩
   ·exact cR q
inductive LI (X:Cx) (F:FT) (G:Str->Option BT.W) (scope:Ow) (tg:List Str) (fv:List (Nat×Str)) (cond:BT.Es) (elt:BT.E) (s2:ND) (H1:Hp) (C:NL) (fp:List NL) (tn:Nat->Heap->Prop) (m1:List NL) (ds outs:List BT.D) (fs:BT.Sl) (h2:BT.HH) (f':List BT.D->BT.HH->Option (Option BT.D×BT.HH)) (Cc:BT.HH->Prop) (n:Nat) (s:ND):Prop where
 | mk (i:Nat) (σ':L2.St) (H':Hp) (m':List NL) (hh:BT.HH) (out rest:List BT.D) (vs:List V) (us:List Value) (nn:Nat) (sl:BT.Sl) (p0:i<=ds.length) (p1:n=ds.length - i) (p2:Inv (blk X (tg++fv.map (·.2)) s2 H1 scope C fp) [(s2.heap.objs.size,lobj us nn)] σ' H' s) (p3:tn i s.heap) (p4:(∀ b∈fp,H' b=none)) (p5:Ext m1 H1 m' H') (p6:RH X.K m' H' hh) (p7:RS X.prog X.w X.K m' H' σ' sl) (p8:sl.length=tg.length+fs.length) (p9:sl.drop tg.length=fs) (p10:cZ vs us) (p11:RDs X.K m' H' vs out) (p12:BT.dm f' tg.length (ds.drop i) hh=some (rest,h2)) (p13:out++rest=outs) (p14:Cc hh):LI X F G scope tg fv cond elt s2 H1 C fp tn m1 ds outs fs h2 f' Cc n s
structure Apart (X:Cx) (pins:List (NL×Obj)) (H:Hp) (C:NL):Prop where
 fr:H C=none
 lo:C≠X.env.locals
 ab:X.s₀.heap.objs.size<=C
 ce:∀ x c,X.env.cells.lookup x=some c->c≠C
 pi:∀ p∈X.pn++pins,p.1≠C
theorem n5 (O:Ok X F G sc N) (hu:gw N=true) {cond:BT.Es}
 (hk:jF sc N tg fv scope=true) (ht:qE (dW scope sc) tg te=true) (hset:jD iter=true) (hI:PI X te iter (iD X F G sr sa)) (hC:mQ F G (dW scope sc) (tg++fv.map (·.2)) cond ifs)
 (hE:∀ X',Ok X' F G (dW scope sc) (tg++fv.map (·.2))->PE X' elt' (tD X' F G elt)):∀ (pins:List (NL×Obj)) (s:ND) (σ:L2.St) (H:Hp) (Q:VK) (use:Option (Value->Sem Unit)) (Q':Value->ND->Prop),Inv X pins σ H s->tD X F G (.comp mu sr sa tg fv cond elt) σ H Q →
 (∀ (s6:ND) (H6:Hp) (C D:NL) (m:Str->Option Value),Inv X pins σ H6 s6->s6.heap.Ns C m->Apart X pins H6 C->Q (.ref D) H6->compPost (N5 X.prog X.w) X.A X.xe use Q' (.ref D) C (.ok .next) s6) →
 wpAny (N5 X.prog X.w) X.A (comprehension (.ListComp elt' [⟨te,iter,ifs,0⟩] scope pos) scope X.env (firstIterPos [⟨te,iter,ifs,0⟩] pos) (newList []) false (eval iter X.env) use) Q' X.xe s:=by
 have cf:=Js hk
 obtain ⟨ct,tl,tloc⟩:=B4 (fs:=fv.map (·.2)) ht
 have t0:tg≠[]:=by
  rintro rfl
  simp[qE] at ht
 intro pins s σ H Q use Q' I q hfin
 obtain ⟨m,s',h,z,h',R,S,ee,post⟩:=q
 simp only[BT.ev] at ee
 obtain ⟨ws,h1,e1,e2⟩:=cU ee
 cases g1:(BT.rds ws h1).bind (BT.fP sr) with
 | none=>unfold BT.nR at e2;rw[g1] at e2;exact cR e2
 | some ds =>
  cases g2:BT.frees s' fv with
  | none=>unfold BT.nR at e2;rw[g1,g2] at e2;exact cR e2
  | some fs =>
   rw[g2] at e2
   obtain ⟨ca,f',hf',c1,e2⟩:=zb e2 g1
   obtain ⟨outs,h2,e3,e4⟩:=cU e2
   unfold BT.gK at e4
   by_cases cl:outs.length<=BT.lim
   case neg=>rw[if_neg cl] at e4;exact cR e4
   rw[if_pos cl] at e4
   have ez:BT.new mu outs h2=(z,h'):=NO e4
   have hfree:BC.sA X.env.cells scope.names:=fun x hx e=>I.ok.has x.1 (.inl (by
    have:=cf.free x hx e
    show X.env.scope.names.lookup x.1=_
    rw[O.hsc];exact this))
   refine wpAny_comprehension_free (use:=use) rfl (uh hset) (BC.sC hfree) cf.k1 cf.loc
    (thn (hI pins s σ H (fun J H1=>∃ m1,Ext m H m1 H1/\RH X.K m1 H1 h1/\nu X.K J m1 H1 ds (o5 ws ds)) I ⟨m,s',h,ws,h1,ds,R,S,e1,g1,ca,fun H1 m1 J x1 R1 it=>⟨m1,x1,R1,it⟩⟩) fun v s1 hv=>thn hv fun itv s2 h2'=>?_)
   obtain ⟨it,fp,tn,J,H1,rfl,I1,T,st,hf,m1,x1,R1,ito⟩:=h2'
   have hlt:∀ b∈fp,b < s2.heap.objs.size:=fun b hb=>by
    obtain ⟨o,ho,_⟩:=T.obj 0 _ st b hb
    exact NK ho
   refine Oo (wpAny_newFunctionEnv cf.cell (by intro y hy;simp at hy) (fun h3 hns hsb=>?_) cf.k1)
   dsimp only at hns hsb ⊢
   generalize hH2:s2.heap.push { cls:=.type "list",dict:=none,data:=.seq ([]:List Value).toArray }=H2 at hns hsb ⊢
   have hCs:H2.objs.size=s2.heap.objs.size+1:=by rw[← hH2,Pw]
   have old:∀ b o,s2.heap.get? b=some o->h3.get? b=some o:=fun b o e=>hsb.extBut b o (by rw[hCs];exact N1 (Nat.lt_succ_of_lt (NK e))) (NC _ (hH2 ▸ NC _ e))
   have hacc:h3.get? s2.heap.objs.size=some (lobj [] 0):=hsb.extBut _ _ (by rw[hCs];exact N1 (PC _)) (NC _ (hH2 ▸ NR _ rfl))
   have I4:=B3 (tk:=s2.toks+([]:List (Str×Value)).length) I1 O.hsc O.hN cf hCs hf hlt old hns hacc
   have O':=FQ (s2:=s2) (H1:=H1) (C:=H2.objs.size) (fp:=fp) O hu cf
   obtain ⟨g,hg1,hg2⟩:=sCT O' (O.calm hu) ct fun q hq=>.inr (by rw[O'.hsc];exact tloc q hq)
   have hfl:fs.length=fv.length:=(kK g2).1
   have stat:∀ {H':Hp}{o:Obj},(∀ b∈fp,H' b=none)->∀ b∈fp,mZ (blk X (tg++fv.map (·.2)) s2 H1 scope H2.objs.size fp) [(s2.heap.objs.size,o)] H' b:=fun {H' o} hn b hb=>by
    refine ⟨hn b hb,?_,?_,.inl hb,fun x c e=>(hf b hb).2.2.2.2.1 x c (kW e),fun p hp=>?_⟩
    ·show b≠H2.objs.size
     rw[hCs];exact N1 (Nat.lt_succ_of_lt (hlt b hb))
    ·intro zz
     rcases List.mem_cons.mp (I1.n9 b zz) with e | e
     ·exact (hf b hb).2.1 e
     ·exact (hf b hb).2.2.1 e
    ·have hp':p=(s2.heap.objs.size,o):=by
      have:p∈[]++[(s2.heap.objs.size,o)]:=hp
      simpa using this
     rw[hp']
     show s2.heap.objs.size≠b
     exact Qu (hlt b hb)
   have loop:∀ s4:ND,s4={ s2 with heap:=h3,toks:=s2.toks+([]:List (Str×Value)).length } →
    codeAny (N5 X.prog X.w) X.A (.compLoop (.ListComp elt' [⟨te,iter,ifs,0⟩] scope pos) 0 (.ref it) (.ref s2.heap.objs.size) (Uh scope (BC.gT X.env.cells scope.names []) H2.objs.size X.env))
     (compPost (N5 X.prog X.w) X.A X.xe use Q' (.ref s2.heap.objs.size) H2.objs.size) s4:=by
    rintro s4 rfl
    refine BC.vW (LI X F G scope tg fv cond elt s2 H1 H2.objs.size fp tn m1 ds outs fs h2 f' (o5 ws ds)) ?_
     ds.length ⟨0,_,H1,m1,h1,[],outs,[],[],0,_,Qo _,rfl,I4,T.keep 0 _ _ st (fun b hb o e=>old b o e),fun b hb=>(hf b hb).1,.refl _ _,R1,vX (S.ext x1) g2,by simp,by simp,.nil,.nil,by rw[List.drop_zero];exact e3,rfl,c1⟩
    rintro n s5 ⟨i,σ5,H5,m5,hh,out,rest,vs,us,nn,sl,hi,rfl,I5,st5,fr5,x5,R5,S5,sl1,sl2,rv5,rd5,go5,ou5,cc5⟩
    by_cases c:i < ds.length
    ·rw[SH c] at go5
     obtain ⟨xs,o,hA,rest',eT,eF,eG,eR⟩:=B6 go5
     obtain ⟨eF,cA⟩:=hf' _ _ _ eF
     refine thn (T.item (blk X (tg++fv.map (·.2)) s2 H1 scope H2.objs.size fp) rfl rfl rfl (O.calm hu) i _ s5 σ5 H5 _ I5 (stat fr5) st5 (ito.go m5 H5 hh i x5 R5 cc5 c)) fun r s6 hr=>?_
     obtain ⟨u,rfl,hr⟩:=hr
     refine thn hr fun _ s7 zq=>?_
     obtain ⟨x,H7,I7,r7,y7,st7,fr7⟩:=zq
     obtain ⟨x7,k7,rd7⟩:=ito.yld m5 H5 hh i x H7 ds[i] x5 R5 cc5 (NN c) y7
     have R7:=R5.ext x7 k7
     have I7':=I7.pinned (stat fr7) (T.obj _ _ st7)
     obtain ⟨sq1,sq2,sq3⟩:=B5 tl t0 eT sl1 sl2
     refine thn (hg1 _ s7 σ5 H7 x u (fun σ8 H8=>H8=H7/\RS X.prog X.w X.K m5 H7 σ8 (xs.map BT.gD++fs)) I7' r7 (hg2 m5 H7 σ5 sl x ds[i] xs _ (S5.ext x7) rd7 (by rw[tl];exact eT) fun σ8 S8=>⟨rfl,by rw[← sq1];exact S8⟩)) fun _ s8 h8=>?_
     obtain ⟨σ8,H8,I8,rfl,S8⟩:=h8
     have kept:∀ {s9:ND}{σ9:L2.St}{H9:Hp},Inv (blk X (tg++fv.map (·.2)) s2 H1 scope H2.objs.size fp) ([(s2.heap.objs.size,lobj us nn)]++ko fp s7.heap) σ9 H9 s9->tn (i+1) s9.heap/\∀ b∈fp,H9 b=none:=fun {s9 σ9 H9} I9=>by
      refine ⟨T.keep _ _ _ st7 fun b hb o e=>(I9.pin (b,o) (Ob _ (Ob _ (gY hb e)))).1,fun b hb=>?_⟩
      obtain ⟨o,e,_⟩:=T.obj _ _ st7 b hb
      exact (I9.pin (b,o) (Ob _ (Ob _ (gY hb e)))).2.1
     have elem:∀ {s9:ND}{H9:Hp}{m9:List NL}{h9:BT.HH}{w:BT.W}{hB:BT.HH}{d:BT.D},Inv (blk X (tg++fv.map (·.2)) s2 H1 scope H2.objs.size fp) ([(s2.heap.objs.size,lobj us nn)]++ko fp s7.heap) σ8 H9 s9->Ext m5 H8 m9 H9->RH X.K m9 H9 h9 →
      BT.ev F G elt (xs.map BT.gD++fs) h9=some (w,hB)->BT.kC w hB=some (some d,hA)->o=some d →
      wpAny (N5 X.prog X.w) X.A (eval elt' (Uh scope (BC.gT X.env.cells scope.names []) H2.objs.size X.env)) (fun x s₄ =>
       wpAny (N5 X.prog X.w) X.A (call (.builtin "list.append") [.ref s2.heap.objs.size,x]) (fun _ s₅=>∃ m,m < ds.length - i/\LI X F G scope tg fv cond elt s2 H1 H2.objs.size fp tn m1 ds outs fs h2 f' (o5 ws ds) m s₅) (fun _ _=>False) s₄) (fun _ _=>False) s9:=by
      intro s9 H9 m9 h9 w hB d I9 x9 R9 eE eK eO
      have ew:w=.p d/\hB=hA:=by
       unfold BT.kC at eK
       cases w with
       | p d'=>cases eK;exact ⟨rfl,rfl⟩
       | r _=>exact cR eK
       | k _=>exact cR eK
       | c _ _=>exact cR eK
       | x _=>exact cR eK
       | o _=>exact cR eK
      obtain ⟨rfl,rfl⟩:=ew
      refine thn (hE _ O' _ s9 σ8 H9 (fun v Ha=>∃ ma,Ext m9 H9 ma Ha/\RH X.K ma Ha hB/\RD X.K ma Ha v d) I9 ⟨m9,_,h9,_,hB,R9,S8.ext x9,eE,fun v Ha ma xa Ra ra=>by
       cases ra with | p ra=>exact ⟨ma,xa,Ra,ra⟩⟩) fun u10 s10 ⟨v10,H10,I10,r10,m10,x10,R10,rd10⟩=>?_
      obtain ⟨pD,nD,neD,nfD,_⟩:=I10.pin (s2.heap.objs.size,lobj us nn) (by simp)
      have lus:=rv5.length
      have lvs:=rd5.length
      have lou:out.length<=outs.length:=by rw[← ou5];simp
      have lle:=fE
      have cl':outs.length<=BT.lim:=cl
      refine wpAny_list_append_plain ⟨nn,pD⟩ (fun h11 hp11 sb11=>?_) (by rw[NF];lia)
      obtain ⟨nn',hp11⟩:=hp11
      have hp11:h11.get? s2.heap.objs.size=some (lobj (us++[u10]) nn'):=by rw[hp11];simp[lobj]
      have sb11:Oh s2.heap.objs.size s10.heap h11:=sb11
      obtain ⟨st10,fr10⟩:=kept I10
      have I11:Inv (blk X (tg++fv.map (·.2)) s2 H1 scope H2.objs.size fp) [] σ8 H10 { s10 with heap:=h11 } :=
       Inv.turned (t':=s10.toks) (I10.lq (fun p hp=>by cases hp)) (fun b o hb e=>(sb11.2 b hb).trans e) nD neD (.inr (NI _)) (fun x c e zz=>by
        obtain ⟨v,o,ho,_⟩:=I1.cell x c (kW e)
        have:=NK ho
        rw[zz] at this
        exact absurd this (Pa _)) fun p hp=>by cases hp
      have I12:Inv (blk X (tg++fv.map (·.2)) s2 H1 scope H2.objs.size fp) [(s2.heap.objs.size,lobj (us++[u10]) nn')] σ8 H10 { s10 with heap:=h11 }:=I11.lq fun p hp=>by
       simp only[List.mem_singleton] at hp
       subst hp
       exact ⟨hp11,nD,neD,nfD,fun v zz=>by cases (show Data.seq _ _=Data.cell v from zz)⟩
      have xt:Ext m5 H5 m10 H10:=(x7.trans x9).trans x10
      refine ⟨ds.length - (i+1),by lia,i+1,σ8,H10,m10,hB,out++[d],rest',vs++[v10],us++[u10],nn',_,c,rfl,I12,?_,fr10,x5.trans xt,R10,(S8.ext x9).ext x10,sq2,sq3,rv5.append (.cons r10 .nil),(rd5.ext xt).append (.cons rd10 .nil),eG,?_,cA⟩
      ·refine T.keep _ _ _ st10 fun b hb o' e=>(sb11.2 b ?_).trans e
       exact N1 (hlt b hb)
      ·rw[← ou5,eR,eO,Pr];rfl
     unfold BT.dX at eF
     obtain ⟨cs,hc,eC,eK⟩:=cU eF
     rcases hC with ⟨rfl,rfl⟩ | ⟨cc,cc',rfl,rfl,hCC⟩
     ·simp only[BT.evs] at eC
      cases eC
      have eK:=(show BT.bnd _ BT.kC=_ from eK)
      obtain ⟨w,hB,eE,eL⟩:=cU eK
      refine wpAny_tests_nil ?_
      rw[if_pos rfl]
      have:∃ d,o=some d:=by
       unfold BT.kC at eL
       cases w with
       | p d'=>cases eL;exact ⟨_,rfl⟩
       | r _=>exact cR eL
       | k _=>exact cR eL
       | c _ _=>exact cR eL
       | x _=>exact cR eL
       | o _=>exact cR eL
      obtain ⟨d,rfl⟩:=this
      exact elem I8 (.refl _ _) R7 eE eL rfl
     ·simp only[BT.evs] at eC
      obtain ⟨wc,hc2,eC1,eC2⟩:=cU eC
      simp only[BT.mq,BT.dH,BT.iy] at eC2
      cases eC2
      have hb:∃ b,wc=.p (.bl b):=by
       cases wc with
       | p d =>
        cases d<;>first | exact ⟨_,rfl⟩ | exact cR eK
       | r _=>exact cR eK
       | k _=>exact cR eK
       | c _ _=>exact cR eK
       | x _=>exact cR eK
       | o _=>exact cR eK
      obtain ⟨b,rfl⟩:=hb
      refine wpAny_tests_one (thn (hCC _ O' _ s8 σ8 H8 (fun b' Ha=>b'=b/\∃ ma,Ext m5 H8 ma Ha/\RH X.K ma Ha hc) I8 ⟨m5,_,hh,b,hc,R7,S8,eC1,fun Ha ma xa Ra=>⟨rfl,ma,xa,Ra⟩⟩) fun b' s9 zq=>?_)
      obtain ⟨H9,I9,hbb,m9,x9,R9⟩:=zq
      subst hbb
      cases b' with
      | false =>
       have eK:=(show some ((none:Option BT.D),hc)=some _ from eK)
       cases eK
       rw[if_neg (by decide)]
       obtain ⟨st9,fr9⟩:=kept I9
       have xt:Ext m5 H5 m9 H9:=x7.trans x9
       refine ⟨ds.length - (i+1),by lia,i+1,σ8,H9,m9,hA,out,rest',vs,us,nn,_,c,rfl,I9.jN,st9,fr9,x5.trans xt,R9,S8.ext x9,sq2,sq3,rv5,rd5.ext xt,eG,?_,cA⟩
       rw[← ou5,eR]
      | true =>
       have eK:=(show BT.bnd _ BT.kC=_ from eK)
       rw[if_pos rfl]
       obtain ⟨w,hB,eE,eL⟩:=cU eK
       have:∃ d,o=some d:=by
        unfold BT.kC at eL
        cases w with
        | p d'=>cases eL;exact ⟨_,rfl⟩
        | r _=>exact cR eL
        | k _=>exact cR eL
        | c _ _=>exact cR eL
        | x _=>exact cR eL
        | o _=>exact cR eL
       obtain ⟨d,rfl⟩:=this
       exact elem I9 x9 R9 eE eL rfl
    ·have ei:i=ds.length:=by lia
     subst ei
     rw[List.drop_length,BT.dm] at go5
     cases go5
     rw[Pj] at ou5
     subst ou5
     refine thn (T.done (blk X (tg++fv.map (·.2)) s2 H1 scope H2.objs.size fp) rfl rfl rfl (O.calm hu) _ _ s5 σ5 H5 _ I5 (stat fr5) st5 (ito.stop m5 H5 _ x5 R5 cc5)) fun r s6 zq=>?_
     obtain ⟨hr,I6⟩:=zq
     subst hr
     obtain ⟨mm,hmm,_⟩:=I6.loc
     obtain ⟨pD,nD,neD,nfD,_⟩:=I6.pin (s2.heap.objs.size,lobj us nn) (by simp)
     have neD:s2.heap.objs.size≠H2.objs.size:=neD
     have hos:s6.os=s2.os:=I6.os
     have lus:=rv5.length
     have lvs:=rd5.length
     have lle:=fE
     have cl':out.length<=BT.lim:=cl
     have hok:HOk X.prog X.w (upd H5 s2.heap.objs.size (.lst vs)) s6.heap:=fun b u e=>by
      by_cases eb:b=s2.heap.objs.size
      ·subst eb
       rw[dU] at e
       cases e
       exact ⟨by lia,us,nn,rv5,pD⟩
      ·rw[dg eb] at e
       refine (I6.hok b u e).stay (fun c v hc q=>q) (fun c q=>?_) fun c l q=>?_
       ·rw[dg (fun zz=>by rw[zz,nD] at q;exact cR q)];exact q
       ·rw[dg (fun zz=>by rw[zz,nD] at q;exact cR q)];exact q
     have u7:Un (frs X.stack) fp H1 (upd H5 s2.heap.objs.size (.lst vs)) s2.heap s6.heap:=Un.behind (h1:=s6.heap) I6.base (fun b hb=>dg (N1 hb)) (fun b o e=>I1.hok.lt e) fun b o hb e=>e
     have I7:=I1.call (g':=s6.gens) (t':=s6.toks) (d':=s6.drawn) (ch:=fp) u7 hok I6.bare fun b hb=>⟨(hf b hb).2.2.2.1,(hf b hb).2.1,(hf b hb).2.2.2.2.1,(hf b hb).2.2.2.2.2⟩
     have fr6:H5 H2.objs.size=none:=I6.free
     have ltC:s2.heap.objs.size < H2.objs.size:=by rw[hCs];exact PC _
     have ap:Apart X pins (upd H5 s2.heap.objs.size (.lst vs)) H2.objs.size:=by
      refine ⟨by rw[dg (QB neD)];exact fr6,?_,?_,fun x c e zz=>?_,fun p hp zz=>?_⟩
      ·exact Qu (Q4 I1.lt ltC)
      ·exact Ol I1.sz (PR ltC)
      ·obtain ⟨v,o,ho,_⟩:=I1.cell x c e
       have l:=NK ho
       rw[zz] at l
       exact absurd (Q4 l ltC) (Pa _)
      ·have l:=NK (I1.pin p hp).1
       rw[zz] at l
       exact absurd (Q4 l ltC) (Pa _)
     refine hfin s6 _ _ _ mm ?_ hmm ap (oS (mu:=mu) R5 nD rd5 (by rw[ez];exact fun v' H' m' xx RR rr=>post v' H' m' ((x1.trans x5).trans xx) RR rr))
     obtain ⟨hp6,g6,d6,t6,os6⟩:=s6
     have hos:os6=s2.os:=hos
     subst hos
     exact I7
   exact codeAny_compStart_list (loop _ rfl) (T.self _ 0 _ _ _ (T.keep 0 _ _ st (fun b hb o e=>old b o e)) (loop _ rfl))
theorem B7 (O:Ok X F G sc N) (hu:gw N=true) {cond:BT.Es}
 (hk:jF sc N tg fv scope=true) (ht:qE (dW scope sc) tg te=true) (hset:jD iter=true) (hI:PI X te iter (iD X F G sr sa)) (hC:mQ F G (dW scope sc) (tg++fv.map (·.2)) cond ifs)
 (hE:∀ X',Ok X' F G (dW scope sc) (tg++fv.map (·.2))->PE X' elt' (tD X' F G elt)):PE X (.ListComp elt' [⟨te,iter,ifs,0⟩] scope pos) (tD X F G (.comp mu sr sa tg fv cond elt)):=by
 intro pins s σ H Q I q
 rw[eval_ListComp]
 refine n5 O hu hk ht hset hI hC hE pins s σ H Q none _ I q fun s6 H6 C D m I6 hn ap hq=>?_
 refine ⟨m,hn,fun h7 sb7=>?_⟩
 have sb7:Oh C s6.heap h7:=sb7
 exact ⟨.ref D,H6,Inv.turned (t':=s6.toks) I6 (fun b o hb e=>(sb7.2 b hb).trans e) ap.fr ap.lo (.inr ap.ab) ap.ce ap.pi,rfl,hq⟩
theorem B8 (O:Ok X F G sc N) (hu:gw N=true) {cond:BT.Es}
 (hk:jF sc N tg fv scope=true) (ht:qE (dW scope sc) tg te=true) (hset:jD iter=true) (hI:PI X te iter (iD X F G sr sa)) (hC:mQ F G (dW scope sc) (tg++fv.map (·.2)) cond ifs)
 (hE:∀ X',Ok X' F G (dW scope sc) (tg++fv.map (·.2))->PE X' elt' (tD X' F G elt)) (hy:N[i]?=some y) (hl:sc.names.lookup y=some .local)
 (hsw:Qv (.ListComp elt' [⟨te,iter,ifs,0⟩] scope pos) (some (.Name y py)) spos.line X.env=pure true) :
 PS X (.Assign [.Name y py] (.ListComp elt' [⟨te,iter,ifs,0⟩] scope pos) spos) (wL (tD X F G (.comp mu sr sa tg fv cond elt)) (sZ i)):=by
 intro pins s σ H D I q
 rw[exec_Assign_Name_used _ _ _ _ hsw]
 refine NB (RN (NB ?_))
 show wpAny _ X.A (do let _ ← comprehension (.ListComp elt' [⟨te,iter,ifs,0⟩] scope pos) scope X.env _ (newList []) false (eval iter X.env) (some (Sy (.Name y py) X.env))) _ _ s
 refine NB (thn (n5 O hu hk ht hset hI hC hE pins s σ H _ (some (Sy (.Name y py) X.env)) (fun _ s'=>SP X pins D .next s') I q fun s6 H6 C D' m I6 hn ap hq=>?_) fun _ s' hq=>wpAny_pure (wpAny_pure hq))
 show wpAny _ X.A (Sy (.Name y py) X.env (.ref D')) _ _ _
 refine wpAny_assign_Name (nE I6 O.nd (by rw[O.hN];exact hy) (.inl (by rw[O.hsc];exact hl)) (v:=.ref D') rfl (fun s7 I7 hs=>?_) (.inr (by rw[O.hsc];exact hl)))
 obtain ⟨a,sb,ha⟩:=hs
 have neC:C≠a:=by
  rcases ha with rfl | ha
  ·exact ap.lo
  ·exact fun z=>ap.ce y a ha z.symm
 refine ⟨m,hn.sameBut sb neC,fun h8 sb8=>?_⟩
 have sb8:Oh C s7.heap h8:=sb8
 exact ⟨_,H6,Inv.turned (t':=s7.toks) I7 (fun b o hb e=>(sb8.2 b hb).trans e) ap.fr ap.lo (.inr ap.ab) ap.ce ap.pi,hq⟩
end
section
variable {E:Value->ND->Prop}
end
section
end
end BS
end
section
namespace L2
open PySem PySem.Spec PyProof.Rows
noncomputable def B9 (lo:Int) (n:Nat):It:=⟨fun i _=>i < n,fun i H x H'=>H'=H/\x=.int (lo - i),fun i _=>n<=i⟩
theorem qR {P:NT}{w:N7}{K:Nz}{tg:Qk} (it:NL) (lo:Int) (n:Nat):Turn P w K tg (B9 lo n) [it] it (fun i h=>Tj h it (lo+(i:Nat)*(-1)) ((n:Int) - (i:Nat)) (-1)) where
 mem:=by simp
 obj:=fun i h st b hb=>by
  have e:b=it:=by simpa using hb
  subst e
  exact ⟨_,st,fun v z=>by
   have z':Data.fields _=Data.cell v:=z
   cases z'⟩
 keep:=fun i h h' st k=>k it (by simp) _ st
 item:=by
  intro X hP hw hK hc i pins s σ H E I hf st hg
  subst hP hw hK
  obtain ⟨f0,f1,f2,f3,f4,f5⟩:=hf it (by simp)
  have W:=Walks.range (prog:=X.prog) (w:=X.w) (I.ok.hd hc) it lo (-1) n
  refine W.item i s _ _ hg st fun v h' tk hv st' kk=>?_
  obtain ⟨t,rfl⟩:=hv
  have I1:Inv X pins σ H { s with heap:=h',toks:=tk }:=I.turned (fun b o hb e=>kk b o (by simpa using hb) e) f0 f1 f3 f4 f5
  refine ⟨_,rfl,nG (s:={ s with heap:=h',toks:=tk }) (n:="range_iterator") st' rfl rfl (by decide) ⟨.int (lo - i),H,I1,⟨t,?_⟩,⟨rfl,rfl⟩,st',fun b hb=>(hf b hb).1⟩⟩
  rw[show lo+(i:Int)*-1=lo - (i:Int) by lia]
 done:=by
  intro X hP hw hK hc i pins s σ H E I hf st hg
  subst hP hw hK
  obtain ⟨f0,f1,f2,f3,f4,f5⟩:=hf it (by simp)
  exact wpAny_pyNext_range_end (I.ok.hd hc) st (by have:n<=i:=hg;lia) fun h' eb=>⟨rfl,I.turned (t':=s.toks) (fun b o hb e=>eb b o hb e) f0 f1 f3 f4 f5⟩
 self:=fun _ _ _ _ _ st h=>wpAny_pyIter_rangeiter st h
section
variable {X:Cx}{tg:Qk}
theorem vY {pins:List (NL×Obj)}{σ:St}{H:Hp}{s:ND}{R:It->Hp->Prop}{E:Value->ND->Prop}{lo hi:Int}{t u v:Tok}{tk:Nat} (I:Inv X pins σ H s) (h1:-(2 ^ 62)<=lo) (h2:lo < 2 ^ 62) (h3:-(2 ^ 62)<=hi) (h4:hi < 2 ^ 62)
 (q:R (B9 lo (lo - hi).toNat) H):wpAny (N5 X.prog X.w) X.A (pyIter (.ref s.heap.objs.size)) (PIE X pins σ tg R) E { s with heap:=s.heap.push { cls:=.type "range",data:=.fields #[.int lo t,.int hi u,.int (-1) v] },toks:=tk }:=by
 refine wpAny_pyIter_range (IsRange.new ..) (PySem.W.small_down h1 h2 h3 h4) ?_
 have I1:Inv X pins σ H { s with heap:=s.heap.push { cls:=.type "range",data:=.fields #[.int lo t,.int hi u,.int (-1) v] },toks:=tk }:=I.kept fun b o e=>NC _ e
 refine ⟨(s.heap.push { cls:=.type "range",data:=.fields #[.int lo t,.int hi u,.int (-1) v] }).objs.size,[(s.heap.push { cls:=.type "range",data:=.fields #[.int lo t,.int hi u,.int (-1) v] }).objs.size],_,_,H,rfl,
  I1.kept (t':=tk) fun b o e=>NC _ e,qR _ lo (lo - hi).toNat,?_,fun b hb=>?_,q⟩
 ·have e1:lo+((0:Nat):Int)*(-1)=lo:=by simp
  have e2:(((lo - hi).toNat:Nat):Int) - ((0:Nat):Int)=Rv lo hi (-1):=by rw[PySem.W.rangeSize_downNat];simp
  show Tj _ _ (lo+((0:Nat):Int)*(-1)) ((((lo - hi).toNat:Nat):Int) - ((0:Nat):Int)) (-1)
  rw[e1,e2]
  exact NR _ rfl
 ·have e:b=(s.heap.push { cls:=.type "range",data:=.fields #[.int lo t,.int hi u,.int (-1) v] }).objs.size:=by simpa using hb
  subst e
  exact I1.rD (NI _) (I1.hok.fresh (NI _))
end
end L2
namespace BS
open PySem PySem.Spec PyProof.Rows L2
section
variable {F:FT}{G:Str->Option BT.W}
theorem Ca {C:BT.HH->Prop}{K:Nz}{m0:List NL}{H0:Hp} (lo:Int) (n:Nat):nu K (B9 lo n) m0 H0 (BT.down lo n) C:=by
 have hl:(BT.down lo n).length=n:=by simp[BT.down]
 refine ⟨fun m H hh i x _ _ hi=>by rw[hl] at hi;exact hi,fun m H hh i v H' d x RR _ hd y=>?_,fun m H _ x _ _=>by rw[hl];exact NI n⟩
 obtain ⟨rfl,rfl⟩:=y
 have hi:i < n:=by
  have:=getD_some hd
  rw[hl] at this
  exact this
 have:d=.int (lo - i):=by
  unfold BT.down at hd
  rw[Og,Re hi] at hd
  exact (NO hd).symm
 subst this
 exact ⟨.refl _ _,fun _ _ e=>e,.int _⟩
theorem zc {X:Cx}{sc:Ow}{N:List Str} (O:Ok X F G sc N) {tg x y z:NH}{sa:BT.Es}{p pos:Pos} (hg:dY sc "range"=true) (hs:noStar x=true) (hs2:noStar y=true) (hs3:noStar z=true) (hA:PA X [x,y,z] (tDs X F G sa)):PI X tg (.Call (.Name "range" p) [x,y,z] [] pos) (iD X F G .rng3 sa):=by
 intro pins s σ H R I q
 obtain ⟨m,s',h,ws,h',ds,RR,S,e,e2,ha,post⟩:=q
 obtain ⟨xs,rfl⟩:=o6 (ha.p (fun z=>by cases z))
 rw[o7,ON] at e2
 have hx:∃ i j c:Int,xs=[.int i,.int j,.int c]:=by
  match xs,e2 with
  | [.int i,.int j,.int c],_=>exact ⟨i,j,c,rfl⟩
 obtain ⟨i,j,c,rfl⟩:=hx
 rw[BT.vH] at e2
 obtain ⟨⟨rfl,c1,c2,c3,c4⟩,e3⟩:=dh e2
 subst e3
 refine Call_ (jB (u:=.type "range") I (d7 O hg) (O.blt _ (by decide)) (by decide +kernel) (OO (thn (hA pos pins s σ H (fun vs H1=>vs=[.int i,.int j,.int (-1)]/\R (B9 i (i - j).toNat) H1) I ⟨m,s',h,_,h',RR,S,e,fun vs H1 m1 x1 R1 r1=>?_⟩) fun us s1 ⟨vs,H1,I1,r1,q1⟩=>?_) (cY hs) (dN (by simp[cX,hs2,hs3]))))
 ·cases r1 with
  | cons r t =>
   cases t with
   | cons r2 t2 =>
    cases t2 with
    | cons r3 t3 =>
     cases t3
     cases r with
     | p r =>
      cases r2 with
      | p r2 =>
       cases r3 with
       | p r3 =>
        cases r;cases r2;cases r3
        exact ⟨rfl,post H1 m1 _ x1 R1 (Ca i (i - j).toNat)⟩
 ·obtain ⟨rfl,q1⟩:=q1
  obtain ⟨u,u2,u3,rfl,eu,eu2,eu3⟩:∃ u u2 u3,us=[u,u2,u3]/\RelV (.int i) u/\RelV (.int j) u2/\RelV (.int (-1)) u3:=by
   cases r1 with
   | cons q t=>obtain ⟨u2,u3,rfl,k1,k2⟩:=vals2 t;exact ⟨_,_,_,rfl,q,k1,k2⟩
  obtain ⟨t,rfl⟩:=eu
  obtain ⟨t2,rfl⟩:=eu2
  obtain ⟨t3,rfl⟩:=eu3
  exact call_range_3 (by decide) (vY I1 (by lia) (by lia) (by lia) (by lia) q1) (.inl (SA (by lia)))
end
end BS
end
section
namespace BS
open PySem PySem.Spec PyProof.Rows L2
section
variable {E:Value->ND->Prop}
theorem nv (hit:s.heap.IsTupleIter it t i) (ht:s.heap.IsTuple t items) (hx:items[i]?=some x)
 (hQ:∀ h',h'.IsTupleIter it t (i+1)->Oh it s.heap h'->Q x { s with heap:=h' }) :
 wpAny (N5 prog w) A (N6 (.ref it)) Q E s:=by
 obtain ⟨o,ho,hc,hd⟩:=id hit
 obtain ⟨ol,hol,_,nl,hdl⟩:=ht
 unfold N6
 refine NB (OD (name:=NY "__next__") hit.typeIs F.slot_tuple_iterator_next
  (Pe F.slot_tuple_iterator_next hit.typeIs F.entry_tuple_iterator_next ?_ (F.args_tuple_iterator_next_1 _)))
 show wpAny _ _ (field (.ref it) 0 >>= _) _ _ s
 refine NB (Os ho hd (x:=.ref t) rfl ?_)
 show wpAny _ _ (if (OS t==Pz)=true then _ else _) _ _ s
 rw[if_neg (show ¬ ((OS t==Pz)=true) from N8)]
 show wpAny _ _ (field (.ref it) 1 >>= _) _ _ s
 refine NB (Os ho hd (x:=.int i 0) rfl ?_)
 show wpAny _ _ (seqItems? (.ref t) >>= _) _ _ s
 refine NB (Ph hol hdl ?_)
 simp only[OU,hx]
 refine NB (wpAny_setField ho hd (by simp) (wpAny_pure ⟨x,rfl,wpAny_pure (hQ _ ?_ (Se ..))⟩))
 exact ⟨_,TH _ ho (Obj.isFreed_of_fields (Obj.data_mapFields hd _)),(Obj.cls_mapFields ..).trans hc,by
  rw[Obj.data_mapFields hd];simp[rawInt]⟩
theorem pB (hh:A.handled=none) (hit:s.heap.IsTupleIter it t i) (ht:s.heap.IsTuple t items) (hx:items[i]?=none)
 (hE:∀ h' e,Heap.ExtBut it s.heap h'->(∃ o,h'.get? e=some o/\o.cls=.type "StopIteration")->E (.ref e) { s with heap:=h' }) :
 wpAny (N5 prog w) A (N6 (.ref it)) Q E s:=by
 obtain ⟨o,ho,hc,hd⟩:=id hit
 obtain ⟨ol,hol,_,nl,hdl⟩:=ht
 unfold N6
 refine NB (OD (name:=NY "__next__") hit.typeIs F.slot_tuple_iterator_next
  (Pe F.slot_tuple_iterator_next hit.typeIs F.entry_tuple_iterator_next ?_ (F.args_tuple_iterator_next_1 _)))
 show wpAny _ _ (field (.ref it) 0 >>= _) _ _ s
 refine NB (Os ho hd (x:=.ref t) rfl ?_)
 show wpAny _ _ (if (OS t==Pz)=true then _ else _) _ _ s
 rw[if_neg (show ¬ ((OS t==Pz)=true) from N8)]
 show wpAny _ _ (field (.ref it) 1 >>= _) _ _ s
 refine NB (Os ho hd (x:=.int i 0) rfl ?_)
 show wpAny _ _ (seqItems? (.ref t) >>= _) _ _ s
 refine NB (Ph hol hdl ?_)
 simp only[OU,hx]
 refine NB (TY (NB (wpAny_setField ho hd (by simp) ?_)))
 show wpAny _ _ (newExc (.type "StopIteration") [] >>= _) _ _ _
 refine NB ?_
 simp only[newExc,newTuple]
 refine NB (Oo ?_ (by size_fits))
 refine NB (m:=firstArgMember _ _) (wpAny_of_eq (a:=Pz) (by first | rfl | (simp only[firstArgMember];rfl)) ?_)
 refine Oo ?_ (by size_fits)
 simp only[raiseNew]
 refine NB (wpAny_handled ?_)
 first | rw[show A.in1.handled=none from hh] | rw[hh]
 refine NB (wpAny_pure (wpAny_throw ?_))
 exact hE _ _ (((Se ..).extBut.push _).push _) ⟨_,NR _ rfl,rfl⟩
end
section
variable {prog:NT}{w:N7}{A:Om}{s:ND}{R:Result->ND->Prop}{xs ys:Array Value}{z TI TO i1 i2 l1 l2 S:NL}
end
section
variable {prog:NT}{w:N7}{A:Om}{E:Value->ND->Prop}{s:ND}{R:Result->ND->Prop}{xs ys:Array Value}{z TI TO i1 i2 l1 l2 S:NL}
end
section
variable {E:Value->ND->Prop}
end
section
end
inductive ZK where
 | l (a:NL) | t (a:NL) | s (x:Str) (k:Tok)
noncomputable def ZK.ty:ZK->String
 | .l _=>"list_iterator"
 | .t _=>"tuple_iterator"
 | .s x _=>N2 x
noncomputable def ZK.val:ZK->Value
 | .l a=>.ref a
 | .t a=>.ref a
 | .s x k=>.str x k
noncomputable def ZK.at (q:ZK) (it:NL) (i:Nat) (h:Heap):Prop:=match q with
 | .l a=>h.IsListIter it a i
 | .t a=>h.IsTupleIter it a i
 | .s x k=>h.IsStrIter it (N2 x) x k i
noncomputable def ZK.item (q:ZK) (i:Nat) (h:Heap) (u:Value):Prop:=match q with
 | .l a=>∃ us:List Value,h.IsList a us.toArray/\us[i]?=some u
 | .t a=>∃ us:List Value,h.IsTuple a us.toArray/\us[i]?=some u
 | .s x _=>∃ c t,x.cps[i]?=some c/\u=.str ⟨#[c]⟩ t
noncomputable def ZK.done (q:ZK) (i:Nat) (h:Heap):Prop:=match q with
 | .l a=>∃ us:List Value,h.IsList a us.toArray/\us.length<=i
 | .t a=>∃ us:List Value,h.IsTuple a us.toArray/\us.length<=i
 | .s x _=>x.cps.size<=i
noncomputable def ZK.off (q:ZK) (b:NL):Prop:=match q with
 | .l a=>a≠b
 | .t a=>a≠b
 | .s _ _=>True
theorem ZK.there {q:ZK}{it i:Nat}{h:Heap} (z:q.at it i h):∃ o,h.get? it=some o/\∀ v,o.data≠.cell v:=by
 cases q with
 | l a=>obtain ⟨o,e,c,d⟩:=z;exact ⟨o,e,fun v q=>by rw[d] at q;cases q⟩
 | t a=>obtain ⟨o,e,c,d⟩:=z;exact ⟨o,e,fun v q=>by rw[d] at q;cases q⟩
 | s x k=>obtain ⟨o,e,c,d⟩:=z;exact ⟨o,e,fun v q=>by rw[d] at q;cases q⟩
theorem ZK.stay {q:ZK}{it i:Nat}{h h':Heap} (z:q.at it i h) (k:∀ o,h.get? it=some o->h'.get? it=some o):q.at it i h':=by
 cases q with
 | l a=>obtain ⟨o,e,r⟩:=z;exact ⟨o,k o e,r⟩
 | t a=>obtain ⟨o,e,r⟩:=z;exact ⟨o,k o e,r⟩
 | s x t=>obtain ⟨o,e,r⟩:=z;exact ⟨o,k o e,r⟩
theorem ZK.gU {q:ZK}{i:Nat}{h h':Heap}{u:Value}{b:NL} (z:q.item i h u) (n:q.off b) (k:∀ c o,c≠b->h.get? c=some o->h'.get? c=some o):q.item i h' u:=by
 cases q with
 | l a=>obtain ⟨us,p,e⟩:=z;exact ⟨us,p.at fun o g=>k a o n g,e⟩
 | t a=>obtain ⟨us,p,e⟩:=z;exact ⟨us,p.at fun o g=>k a o n g,e⟩
 | s x t=>exact z
theorem ZK.ju {q:ZK}{i:Nat}{h h':Heap}{b:NL} (z:q.done i h) (n:q.off b) (k:∀ c o,c≠b->h.get? c=some o->h'.get? c=some o):q.done i h':=by
 cases q with
 | l a=>obtain ⟨us,p,e⟩:=z;exact ⟨us,p.at fun o g=>k a o n g,e⟩
 | t a=>obtain ⟨us,p,e⟩:=z;exact ⟨us,p.at fun o g=>k a o n g,e⟩
 | s x t=>exact z
theorem ZK.jv {q:ZK}{i:Nat}{h h':Heap}{u:Value}{b:NL} (z:q.item i h' u) (n:q.off b) (k:Oh b h h'):q.item i h u:=by
 cases q with
 | l a=>obtain ⟨us,⟨o,p,r⟩,e⟩:=z;exact ⟨us,⟨o,(k.2 a n).symm.trans p,r⟩,e⟩
 | t a=>obtain ⟨us,⟨o,p,r⟩,e⟩:=z;exact ⟨us,⟨o,(k.2 a n).symm.trans p,r⟩,e⟩
 | s x t=>exact z
section
variable {prog:NT}{w:N7}{A:Om}{E:Value->ND->Prop}{s:ND}
theorem pC {q:ZK}{it:NL}{i:Nat}{Q:Value->ND->Prop} (hit:q.at it i s.heap) (hv:∃ u,q.item i s.heap u) (hQ:∀ u h' tk,q.item i s.heap u->q.at it (i+1) h'->Oh it s.heap h'->Q u { s with heap:=h',toks:=tk }) :
 wpAny (N5 prog w) A (N6 (.ref it)) Q E s:=by
 obtain ⟨u,hv⟩:=hv
 cases q with
 | l a =>
  obtain ⟨us,p,e⟩:=hv
  exact wpAny_nextOf_list_item hit p (by simpa using e) fun h' a1 a2=>hQ u h' s.toks ⟨us,p,e⟩ a1 a2
 | t a =>
  obtain ⟨us,p,e⟩:=hv
  exact nv hit p (by simpa using e) fun h' a1 a2=>hQ u h' s.toks ⟨us,p,e⟩ a1 a2
 | s x t =>
  obtain ⟨c,t2,e,_⟩:=hv
  have hit:s.heap.IsStrIter it (N2 x) x t i:=hit
  cases ha:x.cps.all (· < 128) with
  | true =>
   have ey:N2 x="str_ascii_iterator":=by unfold N2;rw[if_pos ha]
   rw[ey] at hit
   exact wpAny_nextOf_ascii_item hit e fun h' a1 a2=>hQ _ h' _ ⟨c,_,e,rfl⟩ (by show h'.IsStrIter it (N2 x) x t (i+1);rw[ey];exact a1) a2
  | false =>
   have ey:N2 x="str_iterator":=by unfold N2;rw[if_neg (by rw[ha];decide)]
   rw[ey] at hit
   exact wpAny_nextOf_wide_item hit e fun h' a1 a2=>hQ _ h' _ ⟨c,_,e,rfl⟩ (by show h'.IsStrIter it (N2 x) x t (i+1);rw[ey];exact a1) a2
theorem uw {q:ZK}{it:NL}{i:Nat}{Q:Value->ND->Prop} (hh:A.handled=none) (hit:q.at it i s.heap) (hv:q.done i s.heap) (hE:∀ h' e,Heap.ExtBut it s.heap h'->(∃ o,h'.get? e=some o/\o.cls=.type "StopIteration")->E (.ref e) { s with heap:=h' }) :
 wpAny (N5 prog w) A (N6 (.ref it)) Q E s:=by
 cases q with
 | l a =>
  obtain ⟨us,p,e⟩:=hv
  exact wpAny_nextOf_list_end hh hit p (by simp;lia) hE
 | t a =>
  obtain ⟨us,p,e⟩:=hv
  exact pB hh hit p (by simp;lia) hE
 | s x t =>
  have hit:s.heap.IsStrIter it (N2 x) x t i:=hit
  have hv:x.cps.size<=i:=hv
  cases ha:x.cps.all (· < 128) with
  | true =>
   have ey:N2 x="str_ascii_iterator":=by unfold N2;rw[if_pos ha]
   rw[ey] at hit
   exact wpAny_nextOf_ascii_end hh hit (by simpa using hv) hE
  | false =>
   have ey:N2 x="str_iterator":=by unfold N2;rw[if_neg (by rw[ha];decide)]
   rw[ey] at hit
   exact wpAny_nextOf_wide_end hh hit (by simpa using hv) hE
structure ZA (z TI TO i1 i2:NL) (q1 q2:ZK):Prop where
 TIz:TI≠z
 TOz:TO≠z
 i1z:i1≠z
 i2z:i2≠z
 TITO:TI≠TO
 TIi1:TI≠i1
 TIi2:TI≠i2
 TOi1:TO≠i1
 TOi2:TO≠i2
 i12:i1≠i2
 f1:q1.off z/\q1.off TO/\q1.off i1/\q1.off i2
 f2:q2.off z/\q2.off TO/\q2.off i1/\q2.off i2
theorem Cb {z TI TO i1 i2:NL}{q1 q2:ZK}{k:Nat}{a b:Value}{Q:Value->ND->Prop} (D:ZA z TI TO i1 i2 q1 q2)
 (hz:R6 s.heap z TI TO .none) (hTI:PV s.heap TI (.ref i1) (.ref i2)) (hTO:PV s.heap TO a b) (h1:q1.at i1 k s.heap) (h2:q2.at i2 k s.heap) (e1:∃ u,q1.item k s.heap u) (e2:∃ u,q2.item k s.heap u)
 (hQ:∀ h' tk x y,q1.item k s.heap x->q2.item k s.heap y->R6 h' z TI TO (rawInt s.heap.objs.size)->PV h' TO x y->q1.at i1 (k+1) h'->q2.at i2 (k+1) h'->PV h' s.heap.objs.size x y →
  (∀ c o,c≠z->c≠TO->c≠i1->c≠i2->s.heap.get? c=some o->h'.get? c=some o)->Q (.ref s.heap.objs.size) { s with heap:=h',toks:=tk }) :
 wpAny (N5 prog w) A (Builtin.«zip.__next__» ⟨[.ref z],[]⟩) (fun fin s'=>∃ v,fin=.done (.ret v)/\Q v s') E s:=by
 show wpAny _ _ (field (.ref z) 2 >>= _) _ _ _
 refine NB (Os hz rfl (x:=.bool false) rfl ?_)
 show wpAny _ _ (field (.ref z) 3 >>= _) _ _ _
 refine NB (Os hz rfl (x:=.ref TI) rfl ?_)
 refine NB (Ph hTI rfl ?_)
 show wpAny _ _ (OL (.ref z) >>= _) _ _ _
 refine NB ?_
 unfold OL
 refine NB (Os hz rfl (x:=.none) rfl (wpAny_pure ?_))
 simp only[if_true]
 refine NB (TY ?_)
 refine NB (Os hz rfl (x:=.ref TO) rfl ?_)
 refine NB (Pn hz (by simp) fun g1 z1 s1=>?_)
 replace z1:R6 g1 z TI TO .ellipsis:=z1
 replace s1:Oh z s.heap g1:=s1
 refine NB ?_
 simp only[List.zipIdx_cons,List.zipIdx_nil,Sd,List.forIn_nil]
 refine NB (NB (RO ?_))
 show wpAny _ _ (N6 (.ref i1) >>= _) _ _ _
 refine NB (pC (q:=q1) (i:=k) (ZK.stay h1 fun o e=>s1.extBut _ o D.i1z e) (e1.imp fun u hu=>ZK.gU hu D.f1.1 s1.extBut) fun x g2 t2 ex a2 s2=>wpAny_pure ?_)
 replace s2:Oh i1 g1 g2:=s2
 replace ex:q1.item k s.heap x:=ZK.jv ex D.f1.1 s1
 have TO2:PV g2 TO a b:=s2.extBut _ _ D.TOi1 (s1.extBut _ _ D.TOz hTO)
 refine NB (Ph TO2 rfl ?_)
 refine NB (Rp TO2 fun g3 TO3 s3=>?_)
 replace TO3:PV g3 TO x b:=TO3
 replace s3:Oh TO g2 g3:=s3
 refine NB (wpAny_letGo (wpAny_pure ?_))
 refine NB (NB (RO ?_))
 show wpAny _ _ (N6 (.ref i2) >>= _) _ _ _
 refine NB (pC (q:=q2) (i:=k) (ZK.stay h2 fun o e=>s3.extBut _ o D.TOi2.symm (s2.extBut _ o D.i12.symm (s1.extBut _ o D.i2z e))) (e2.imp fun u hu=>ZK.gU (ZK.gU (ZK.gU hu D.f2.1 s1.extBut) D.f2.2.2.1 s2.extBut) D.f2.2.1 s3.extBut) fun y g4 t4 ey a4 s4=>wpAny_pure ?_)
 replace s4:Oh i2 g3 g4:=s4
 replace ey:q2.item k s.heap y:=ZK.jv (ZK.jv (ZK.jv ey D.f2.2.1 s3) D.f2.2.2.1 s2) D.f2.1 s1
 have TO4:PV g4 TO x b:=s4.extBut _ _ D.TOi2 TO3
 refine NB (Ph TO4 rfl ?_)
 refine NB (Rp TO4 fun g5 TO5 s5=>?_)
 replace TO5:PV g5 TO x y:=TO5
 replace s5:Oh TO g4 g5:=s5
 refine NB (wpAny_letGo (wpAny_pure (wpAny_pure ?_)))
 refine NB (Ph TO5 rfl ?_)
 refine NB (wpAny_newTuple ?_)
 have sz:g5.objs.size=s.heap.objs.size:=by rw[s5.1,s4.1,s3.1,s2.1,s1.1]
 have z5:R6 g5 z TI TO .ellipsis:=s5.extBut _ _ D.TOz.symm (s4.extBut _ _ D.i2z.symm (s3.extBut _ _ D.TOz.symm (s2.extBut _ _ D.i1z.symm z1)))
 have k5:∀ c o,c≠z->c≠TO->c≠i1->c≠i2->s.heap.get? c=some o->g5.get? c=some o:=fun c o c1 c2 c3 c4 e =>
  s5.extBut _ _ c2 (s4.extBut _ _ c4 (s3.extBut _ _ c2 (s2.extBut _ _ c3 (s1.extBut _ _ c1 e))))
 have b1:q1.at i1 (k+1) g5:=ZK.stay a2 fun o e=>s5.extBut _ o D.TOi1.symm (s4.extBut _ o D.i12 (s3.extBut _ o D.TOi1.symm e))
 have b2:q2.at i2 (k+1) g5:=ZK.stay a4 fun o e=>s5.extBut _ o D.TOi2.symm e
 have lz:z < g5.objs.size:=NK z5
 show wpAny _ _ (Qs (.ref z) (.ref g5.objs.size) >>= _) _ _ _
 refine NB ?_
 unfold Qs
 have z6:R6 (g5.push { cls:=.type "tuple",data:=.seq #[x,y] }) z TI TO .ellipsis:=NC _ z5
 refine NB (Pn z6 (by simp) fun g7 z7 s7=>?_)
 replace z7:R6 g7 z TI TO (rawInt g5.objs.size):=z7
 refine Pn z7 (by simp) fun g8 z8 s8=>?_
 replace z8:R6 g8 z TI TO (rawInt g5.objs.size):=z8
 have up:∀ c o,c≠z->g5.get? c=some o->g8.get? c=some o:=fun c o c1 e=>s8.extBut _ _ c1 (s7.extBut _ _ c1 (NC _ e))
 have T8:PV g8 g5.objs.size x y:=s8.extBut _ _ (Qu lz) (s7.extBut _ _ (Qu lz) (NR _ rfl))
 rw[sz] at z8 T8
 refine wpAny_pure ⟨_,rfl,?_⟩
 show Q (.ref g5.objs.size) _
 rw[sz]
 exact hQ g8 _ x y ex ey z8 (up _ _ D.TOz TO5) (ZK.stay b1 fun o e=>up _ o D.i1z e) (ZK.stay b2 fun o e=>up _ o D.i2z e) T8 fun c o c1 c2 c3 c4 e=>up c o c1 (k5 c o c1 c2 c3 c4 e)
theorem FU {z TI TO i1 i2:NL}{q1 q2:ZK}{k:Nat}{a b:Value}{Q:Fin->ND->Prop} (hh:A.handled=none) (D:ZA z TI TO i1 i2 q1 q2)
 (hz:R6 s.heap z TI TO .none) (hTI:PV s.heap TI (.ref i1) (.ref i2)) (hTO:PV s.heap TO a b) (h1:q1.at i1 k s.heap) (h2:q2.at i2 k s.heap) (hend:q1.done k s.heap\/((∃ u,q1.item k s.heap u)/\q2.done k s.heap))
 (hE:∀ h' tk e,(∀ c o,c≠z->c≠TO->c≠i1->c≠i2->s.heap.get? c=some o->h'.get? c=some o)->(∃ o,h'.get? e=some o/\o.cls=.type "StopIteration")->E (.ref e) { s with heap:=h',toks:=tk }) :
 wpAny (N5 prog w) A (Builtin.«zip.__next__» ⟨[.ref z],[]⟩) Q E s:=by
 show wpAny _ _ (field (.ref z) 2 >>= _) _ _ _
 refine NB (Os hz rfl (x:=.bool false) rfl ?_)
 show wpAny _ _ (field (.ref z) 3 >>= _) _ _ _
 refine NB (Os hz rfl (x:=.ref TI) rfl ?_)
 refine NB (Ph hTI rfl ?_)
 show wpAny _ _ (OL (.ref z) >>= _) _ _ _
 refine NB ?_
 unfold OL
 refine NB (Os hz rfl (x:=.none) rfl (wpAny_pure ?_))
 simp only[if_true]
 refine NB (TY ?_)
 refine NB (Os hz rfl (x:=.ref TO) rfl ?_)
 refine NB (Pn hz (by simp) fun g1 z1 s1=>?_)
 replace z1:R6 g1 z TI TO .ellipsis:=z1
 replace s1:Oh z s.heap g1:=s1
 refine NB ?_
 simp only[List.zipIdx_cons,List.zipIdx_nil,Sd,List.forIn_nil]
 refine NB (NB (RO ?_))
 show wpAny _ _ (N6 (.ref i1) >>= _) _ _ _
 rcases hend with d1 | ⟨e1,d2⟩
 ·refine NB (uw (q:=q1) (i:=k) hh (ZK.stay h1 fun o e=>s1.extBut _ o D.i1z e) (ZK.ju d1 D.f1.1 s1.extBut) fun g2 e s2 he=>?_)
  obtain ⟨oe,ho,hc⟩:=he
  have z2:R6 g2 z TI TO .ellipsis:=s2 _ _ D.i1z.symm z1
  have ez:e≠z:=fun x=>by subst x;rw[z2] at ho;cases ho;simp at hc
  exact Pn z2 (by simp) fun g3 _ s3=>hE g3 s.toks e (fun c o c1 _ c3 _ x=>s3.extBut _ _ c1 (s2 _ _ c3 (s1.extBut _ _ c1 x))) ⟨oe,s3.extBut _ _ ez ho,hc⟩
 ·refine NB (pC (q:=q1) (i:=k) (ZK.stay h1 fun o e=>s1.extBut _ o D.i1z e) (e1.imp fun u hu=>ZK.gU hu D.f1.1 s1.extBut) fun x g2 t2 ex a2 s2=>wpAny_pure ?_)
  replace s2:Oh i1 g1 g2:=s2
  have TO2:PV g2 TO a b:=s2.extBut _ _ D.TOi1 (s1.extBut _ _ D.TOz hTO)
  refine NB (Ph TO2 rfl ?_)
  refine NB (Rp TO2 fun g3 TO3 s3=>?_)
  replace s3:Oh TO g2 g3:=s3
  refine NB (wpAny_letGo (wpAny_pure ?_))
  refine NB (NB (RO ?_))
  show wpAny _ _ (N6 (.ref i2) >>= _) _ _ _
  refine NB (uw (q:=q2) (i:=k) hh (ZK.stay h2 fun o e=>s3.extBut _ o D.TOi2.symm (s2.extBut _ o D.i12.symm (s1.extBut _ o D.i2z e))) (ZK.ju (ZK.ju (ZK.ju d2 D.f2.1 s1.extBut) D.f2.2.2.1 s2.extBut) D.f2.2.1 s3.extBut) fun g4 e s4 he=>?_)
  obtain ⟨oe,ho,hc⟩:=he
  have z4:R6 g4 z TI TO .ellipsis:=s4 _ _ D.i2z.symm (s3.extBut _ _ D.TOz.symm (s2.extBut _ _ D.i1z.symm z1))
  have ez:e≠z:=fun x=>by subst x;rw[z4] at ho;cases ho;simp at hc
  exact Pn z4 (by simp) fun g5 _ s5=>hE g5 _ e (fun c o c1 c2 c3 c4 x=>s5.extBut _ _ c1 (s4 _ _ c4 (s3.extBut _ _ c2 (s2.extBut _ _ c3 (s1.extBut _ _ c1 x))))) ⟨oe,s5.extBut _ _ ez ho,hc⟩
end
noncomputable def ZK.ob (q:ZK):Obj:={ cls:=.type q.ty,data:=.fields #[q.val,.int 0 0] }
noncomputable def ZK.here (q:ZK) (h:Heap):Prop:=match q with
 | .l a=>∃ us:List Value,h.IsList a us.toArray
 | .t a=>∃ us:List Value,h.IsTuple a us.toArray
 | .s _ _=>True
section
variable {prog:NT}{w:N7}{A:Om}{E:Value->ND->Prop}{s:ND}
theorem ux {q:ZK}{Q:Value->ND->Prop} (hq:q.here s.heap) (h:Q (.ref s.heap.objs.size) { s with heap:=s.heap.push q.ob }):wpAny (N5 prog w) A (pyIter q.val) Q E s:=by
 cases q with
 | l a=>obtain ⟨us,p⟩:=hq;exact Sh p h
 | t a=>obtain ⟨us,p⟩:=hq;exact wpAny_pyIter_tuple p h
 | s x t=>exact wpAny_pyIter_strU h
end
noncomputable abbrev zd (h:Heap) (q1:ZK):Heap:=h.push q1.ob
noncomputable abbrev Cd (h:Heap) (q1 q2:ZK):Heap:=(zd h q1).push q2.ob
noncomputable abbrev Ce (h:Heap) (q1 q2:ZK):Heap:=(Cd h q1 q2).push { cls:=.type "tuple",data:=.seq #[.ref h.objs.size,.ref (zd h q1).objs.size] }
noncomputable abbrev Cf (h:Heap) (q1 q2:ZK):Heap:=(Ce h q1 q2).push { cls:=.type "tuple",data:=.seq #[.none,.none] }
noncomputable abbrev vZ (h:Heap) (q1 q2:ZK):Heap:=(Cf h q1 q2).push { cls:=.type "zip",data:=.fields #[.none,.bool false,.bool false,.ref (Cd h q1 q2).objs.size,.ref (Ce h q1 q2).objs.size] }
theorem pF (q1 q2:ZK) :
 Meets (Builtin.«zip.__new__» ⟨[.type "zip",q1.val,q2.val],[]⟩) (fun _ R s=>q1.here s.heap/\q2.here (zd s.heap q1) ∧
  R (.ok (.ret (.ref (Cf s.heap q1 q2).objs.size))) { s with heap:=vZ s.heap q1 q2 }) :=
 .of_wp fun prog w A R s h=>by
  obtain ⟨hp,g,d,tk,os⟩:=s;obtain ⟨hl1,hl2,h⟩:=h
  have hsub:=sub_zip
  have J1:∀ {A:Om}{E:Value->ND->Prop}{Q:Value->ND->Prop},Q (.ref hp.objs.size) ⟨hp.push q1.ob,g,d,tk,os⟩->wpAny (N5 prog w) A (pyIter q1.val) Q E ⟨hp,g,d,tk,os⟩:=fun hQ=>ux (s:=⟨hp,g,d,tk,os⟩) hl1 hQ
  have J2:∀ {A:Om}{E:Value->ND->Prop}{Q:Value->ND->Prop},Q (.ref (hp.push q1.ob).objs.size) ⟨(hp.push q1.ob).push q2.ob,g,d,tk,os⟩->wpAny (N5 prog w) A (pyIter q2.val) Q E ⟨hp.push q1.ob,g,d,tk,os⟩:=fun hQ=>ux (s:=⟨hp.push q1.ob,g,d,tk,os⟩) hl2 hQ
  wp_walk using J1,J2
  exact ⟨_,rfl,h⟩
theorem ZK.v7 {q:ZK}{h:Heap}{o:Obj} (z:q.here h):q.here (h.push o):=by
 cases q with
 | l a=>obtain ⟨us,p⟩:=z;exact ⟨us,p.at fun o e=>NC _ e⟩
 | t a=>obtain ⟨us,p⟩:=z;exact ⟨us,p.at fun o e=>NC _ e⟩
 | s _ _=>trivial
theorem ZK.Jt {q:ZK}{h:Heap}{it:NL} (e:h.get? it=some q.ob):q.at it 0 h:=by
 cases q with
 | l a=>exact ⟨_,e,rfl,rfl⟩
 | t a=>exact ⟨_,e,rfl,rfl⟩
 | s x t=>exact ⟨_,e,rfl,rfl⟩
section
variable {prog:NT}{w:N7}{A:Om}{E:Value->ND->Prop}{s:ND}
theorem Cg {q1 q2:ZK}{Q:Value->ND->Prop} (hl1:q1.here s.heap) (hl2:q2.here s.heap)
 (h:∀ h',R6 h' (s.heap.objs.size+4) (s.heap.objs.size+2) (s.heap.objs.size+3) .none->PV h' (s.heap.objs.size+2) (.ref s.heap.objs.size) (.ref (s.heap.objs.size+1)) →
  PV h' (s.heap.objs.size+3) .none .none->q1.at s.heap.objs.size 0 h'->q2.at (s.heap.objs.size+1) 0 h' →
  (∀ c o,s.heap.get? c=some o->h'.get? c=some o)->Q (.ref (s.heap.objs.size+4)) { s with heap:=h' }) :
 wpAny (N5 prog w) A (call (.type "zip") [q1.val,q2.val]) Q E s:=by
 refine callType_new F.called_zip (by decide) (F.typeCall_zip_2 _ _) (F.newCall_zip_2 _ _) (fun obj=>F.args_object_init_3 obj _ _) F.entry_zip_new
  (pF q1 q2) ⟨hl1,ZK.v7 hl2,?_⟩
 have z1:(zd s.heap q1).objs.size=s.heap.objs.size+1:=Pw ..
 have z2:(Cd s.heap q1 q2).objs.size=s.heap.objs.size+2:=by rw[Pw,z1]
 have z3:(Ce s.heap q1 q2).objs.size=s.heap.objs.size+3:=by rw[Pw,z2]
 have z4:(Cf s.heap q1 q2).objs.size=s.heap.objs.size+4:=by rw[Pw,z3]
 have g5:(vZ s.heap q1 q2).get? (Cf s.heap q1 q2).objs.size=some _:=NR _ rfl
 have g4:(vZ s.heap q1 q2).get? (Ce s.heap q1 q2).objs.size=some _:=NC _ (NR _ rfl)
 have g3:(vZ s.heap q1 q2).get? (Cd s.heap q1 q2).objs.size=some _:=NC _ (NC _ (NR _ rfl))
 have g2:(vZ s.heap q1 q2).get? (zd s.heap q1).objs.size=some _:=NC _ (NC _ (NC _ (NR _ rfl)))
 have g1:(vZ s.heap q1 q2).get? s.heap.objs.size=some _:=NC _ (NC _ (NC _ (NC _ (NR _ rfl))))
 show _/\_
 rw[z2,z3,z4] at g5
 rw[z1,z2] at g3
 rw[z3] at g4
 rw[z1] at g2
 rw[z4]
 exact ⟨⟨_,g5,rfl⟩,h _ g5 g3 g4 (ZK.Jt g1) (ZK.Jt g2) fun c o x =>
  NC _ (NC _ (NC _ (NC _ (NC _ x))))⟩
theorem Ci {z TI TO i1 i2:NL}{q1 q2:ZK}{k:Nat}{a b:Value}{Q:Option Value->ND->Prop} (D:ZA z TI TO i1 i2 q1 q2)
 (hz:R6 s.heap z TI TO .none) (hTI:PV s.heap TI (.ref i1) (.ref i2)) (hTO:PV s.heap TO a b) (h1:q1.at i1 k s.heap) (h2:q2.at i2 k s.heap) (e1:∃ u,q1.item k s.heap u) (e2:∃ u,q2.item k s.heap u)
 (hQ:∀ h' tk x y,q1.item k s.heap x->q2.item k s.heap y->R6 h' z TI TO (rawInt s.heap.objs.size)->PV h' TO x y->q1.at i1 (k+1) h'->q2.at i2 (k+1) h'->PV h' s.heap.objs.size x y →
  (∀ c o,c≠z->c≠TO->c≠i1->c≠i2->s.heap.get? c=some o->h'.get? c=some o)->Q (some (.ref s.heap.objs.size)) { s with heap:=h',toks:=tk }) :
 wpAny (N5 prog w) A (pyNext (.ref z)) Q E s:=by
 have hT:s.TypeIs (.ref z) "zip":=⟨_,hz,rfl⟩
 unfold pyNext
 exact NB (wpAny_attempt (OD (name:=NY "__next__") hT F.slot_zip_next
  (Pe F.slot_zip_next hT F.entry_zip_next
   (Cb D hz hTI hTO h1 h2 e1 e2 fun h' tk x y a1 a2 a3 a4 a5 a6 a7 a8=>wpAny_pure (hQ h' tk x y a1 a2 a3 a4 a5 a6 a7 a8)) (F.args_zip_next_1 _))))
theorem Cj {z TI TO i1 i2:NL}{q1 q2:ZK}{k:Nat}{a b:Value}{Q:Option Value->ND->Prop} (hh:A.handled=none) (D:ZA z TI TO i1 i2 q1 q2)
 (hz:R6 s.heap z TI TO .none) (hTI:PV s.heap TI (.ref i1) (.ref i2)) (hTO:PV s.heap TO a b) (h1:q1.at i1 k s.heap) (h2:q2.at i2 k s.heap) (hend:q1.done k s.heap\/((∃ u,q1.item k s.heap u)/\q2.done k s.heap))
 (hQ:∀ h' tk,(∀ c o,c≠z->c≠TO->c≠i1->c≠i2->s.heap.get? c=some o->h'.get? c=some o)->Q none { s with heap:=h',toks:=tk }):wpAny (N5 prog w) A (pyNext (.ref z)) Q E s:=by
 have hT:s.TypeIs (.ref z) "zip":=⟨_,hz,rfl⟩
 unfold pyNext
 refine NB (wpAny_attempt (OD (name:=NY "__next__") hT F.slot_zip_next
  (Pe F.slot_zip_next hT F.entry_zip_next (FU hh D hz hTI hTO h1 h2 hend fun h' tk e hk he=>?_) (F.args_zip_next_1 _))))
 obtain ⟨o,ho,hc⟩:=he
 refine NB (wpAny_isInstance (T:="StopIteration") (b:=true) ⟨o,ho,hc⟩ isSubtype_stop ?_)
 exact wpAny_pure (hQ _ _ hk)
end
noncomputable def ZK.has (q:ZK) (K:Nz) (H:Hp) (i:Nat):Prop:=match q with
 | .l a=>∃ xs x,SqL K H a xs/\xs[i]?=some x
 | .t a=>∃ xs x,SqT K H a xs/\xs[i]?=some x
 | .s x _=>∃ c,x.cps[i]?=some c
noncomputable def ZK.is (q:ZK) (K:Nz) (H:Hp) (i:Nat) (v:V):Prop:=match q with
 | .l a=>∀ xs,SqL K H a xs->xs[i]?=some v
 | .t a=>∀ xs,SqT K H a xs->xs[i]?=some v
 | .s x _=>∃ c,x.cps[i]?=some c/\v=.str ⟨#[c]⟩
noncomputable def ZK.over (q:ZK) (K:Nz) (H:Hp) (i:Nat):Prop:=match q with
 | .l a=>∃ xs,SqL K H a xs/\xs.length<=i
 | .t a=>∃ xs,SqT K H a xs/\xs.length<=i
 | .s x _=>x.cps.size<=i
noncomputable def ItG (K:Nz) (q1 q2:ZK):It :=
 ⟨fun i H=>q1.has K H i/\q2.has K H i,
  fun i H v H'=>∃ t x y,v=.ref t/\H t=none/\H'=upd H t (.tup [x,y])/\q1.is K H i x/\q2.is K H i y,
  fun i H=>q1.over K H i\/(q1.has K H i/\q2.over K H i)⟩
theorem Ck {h:Heap}{a:NL}{us vs:Array Value} (x:h.IsList a us) (y:h.IsList a vs):us=vs:=by
 obtain ⟨o,e,c,n,d⟩:=x
 obtain ⟨o',e',c',n',d'⟩:=y
 rw[e] at e';cases e'
 rw[d] at d';cases d';rfl
theorem Cn {h:Heap}{a:NL}{us vs:Array Value} (x:h.IsTuple a us) (y:h.IsTuple a vs):us=vs:=by
 obtain ⟨o,e,c,n,d⟩:=x
 obtain ⟨o',e',c',n',d'⟩:=y
 rw[e] at e';cases e'
 rw[d] at d';cases d';rfl
section
variable {X:Cx}{pins:List (NL×Obj)}{σ:L2.St}{H:Hp}{s:ND}
theorem sF {q:ZK}{i:Nat} (I:Inv X pins σ H s) (h:q.has X.K H i):∃ u,q.item i s.heap u:=by
 cases q with
 | l a =>
  obtain ⟨xs,x,hq,hx⟩:=h
  obtain ⟨its,rv,p,hz⟩:=I.list hq
  obtain ⟨u,hu,_⟩:=rv.get hx
  exact ⟨u,its,p.isList,hu⟩
 | t a =>
  obtain ⟨xs,x,hq,hx⟩:=h
  obtain ⟨its,rv,p,hz⟩:=I.tuple hq
  obtain ⟨u,hu,_⟩:=rv.get hx
  exact ⟨u,its,p,hu⟩
 | s x t =>
  obtain ⟨c,hc⟩:=h
  exact ⟨_,c,0,hc,rfl⟩
theorem DC {q:ZK}{i:Nat}{u:Value} (I:Inv X pins σ H s) (h:q.has X.K H i) (hu:q.item i s.heap u):∃ v,q.is X.K H i v/\RelV v u:=by
 cases q with
 | l a =>
  obtain ⟨xs,x,hq,hx⟩:=h
  obtain ⟨its,rv,p,hz⟩:=I.list hq
  obtain ⟨us,p2,e⟩:=hu
  have:=Ck p.isList p2
  have:its=us:=by simpa using this
  subst this
  obtain ⟨u',hu',r⟩:=rv.get hx
  rw[e] at hu';cases hu'
  exact ⟨x,fun xs' h'=>by rw[I.lO h' hq];exact hx,r⟩
 | t a =>
  obtain ⟨xs,x,hq,hx⟩:=h
  obtain ⟨its,rv,p,hz⟩:=I.tuple hq
  obtain ⟨us,p2,e⟩:=hu
  have:=Cn p p2
  have:its=us:=by simpa using this
  subst this
  obtain ⟨u',hu',r⟩:=rv.get hx
  rw[e] at hu';cases hu'
  exact ⟨x,fun xs' h'=>by rw[I.nF h' hq];exact hx,r⟩
 | s x t =>
  obtain ⟨c,t2,hc,rfl⟩:=hu
  exact ⟨_,⟨c,hc,rfl⟩,t2,rfl⟩
theorem uy {q:ZK}{i:Nat} (I:Inv X pins σ H s) (h:q.over X.K H i):q.done i s.heap:=by
 cases q with
 | l a =>
  obtain ⟨xs,hq,hx⟩:=h
  obtain ⟨its,rv,p,hz⟩:=I.list hq
  have:=rv.length
  exact ⟨its,p.isList,by lia⟩
 | t a =>
  obtain ⟨xs,hq,hx⟩:=h
  obtain ⟨its,rv,p,hz⟩:=I.tuple hq
  have:=rv.length
  exact ⟨its,p,by lia⟩
 | s x t=>exact h
end
noncomputable def ZGS (z TI TO i1 i2:NL) (q1 q2:ZK) (i:Nat) (h:Heap):Prop:=R6 h z TI TO .none/\PV h TI (.ref i1) (.ref i2)/\(∃ a b,PV h TO a b)/\q1.at i1 i h/\q2.at i2 i h
theorem v8 {P:NT}{w:N7}{K:Nz}{elts:List NH}{kk:Nat}{tp:Pos}{z TI TO i1 i2:NL}{q1 q2:ZK} (D:ZA z TI TO i1 i2 q1 q2) :
 Turn P w K (.Tuple elts kk tp) (ItG K q1 q2) [z,TI,TO,i1,i2] z (ZGS z TI TO i1 i2 q1 q2) where
 mem:=by simp
 obj:=fun i h st b hb=>by
  obtain ⟨a1,a2,⟨xa,xb,a3⟩,a4,a5⟩:=st
  simp only[PX,O0,or_false] at hb
  rcases hb with rfl | rfl | rfl | rfl | rfl
  ·exact ⟨_,a1,fun v q=>by cases (show Data.fields _=Data.cell v from q)⟩
  ·exact ⟨_,a2,fun v q=>by cases (show Data.seq _ _=Data.cell v from q)⟩
  ·exact ⟨_,a3,fun v q=>by cases (show Data.seq _ _=Data.cell v from q)⟩
  ·exact ZK.there a4
  ·exact ZK.there a5
 keep:=fun i h h' st k=>by
  obtain ⟨a1,a2,⟨xa,xb,a3⟩,a4,a5⟩:=st
  exact ⟨k _ (by simp) _ a1,k _ (by simp) _ a2,⟨xa,xb,k _ (by simp) _ a3⟩,ZK.stay a4 fun o e=>k _ (by simp) o e,ZK.stay a5 fun o e=>k _ (by simp) o e⟩
 item:=by
  intro X hP hw hK hc i pins s σ H E I hf st hg
  subst hP hw hK
  obtain ⟨g1,g2⟩:=hg
  obtain ⟨a1,a2,⟨xa,xb,a3⟩,a4,a5⟩:=st
  refine Ci D a1 a2 a3 a4 a5 (sF I g1) (sF I g2) fun h' tk u1 u2 e1 e2 b1 b2 b3 b4 b5 b7=>?_
  obtain ⟨x,x1,x2⟩:=DC I g1 e1
  obtain ⟨y,y1,y2⟩:=DC I g2 e2
  refine ⟨_,rfl,wpAny_letOwnedTupleGo_zip b1 fun h2 c1 c2=>?_⟩
  have c2:Oh z h' h2:=c2
  have old:∀ b o,b∉[z,TI,TO,i1,i2]->s.heap.get? b=some o->h2.get? b=some o:=fun b o hb e=>by
   simp only[PX,O0,or_false,not_or] at hb
   exact c2.extBut b o hb.1 (b7 b o hb.1 hb.2.2.1 hb.2.2.2.1 hb.2.2.2.2 e)
  have hTI:h2.get? TI=some _:=c2.extBut _ _ D.TIz (b7 _ _ D.TIz D.TITO D.TIi1 D.TIi2 a2)
  have neT:s.heap.objs.size≠z:=Qu (NK a1)
  have hpair:PV h2 s.heap.objs.size u1 u2:=c2.extBut _ _ neT b5
  have hnew:H s.heap.objs.size=none:=I.hok.fresh (NI _)
  have hok:HOk X.prog X.w (upd H s.heap.objs.size (.tup [x,y])) h2:=fun b u e=>by
   by_cases eb:b=s.heap.objs.size
   ·subst eb
    rw[dU] at e
    cases e
    exact ⟨by show 2<=sizeLine;decide,[u1,u2],.cons x2 (.cons y2 .nil),_,hpair,rfl,_,rfl⟩
   ·rw[dg eb] at e
    refine (I.hok b u e).stay (fun c v hc q=>old c v (fun hb=>?_) q) (fun c q=>?_) fun c l q=>?_
    ·have:=(hf c hb).1
     rcases hc with rfl | hc
     ·rw[this] at e;exact cR e
     ·rw[this] at hc;exact cR hc
    ·rw[dg (N1 (I.hok.lt q))];exact q
    ·rw[dg (N1 (I.hok.lt q))];exact q
  refine ⟨.ref s.heap.objs.size,_,Inv.ug (s:=s) (tk:=tk) I hf old (fun b hb=>dg (N1 hb)) hok,rfl,⟨_,x,y,rfl,hnew,rfl,x1,y1⟩,⟨c1,hTI,⟨u1,u2,c2.extBut _ _ D.TOz b2⟩,ZK.stay b3 fun o e=>c2.extBut _ o D.i1z e,ZK.stay b4 fun o e=>c2.extBut _ o D.i2z e⟩,fun b hb=>?_⟩
  have hlt:b < s.heap.objs.size:=by
   obtain ⟨o1,e1,_⟩:=ZK.there a4
   obtain ⟨o2,e2,_⟩:=ZK.there a5
   simp only[PX,O0,or_false] at hb
   rcases hb with rfl | rfl | rfl | rfl | rfl
   ·exact NK a1
   ·exact NK a2
   ·exact NK a3
   ·exact NK e1
   ·exact NK e2
  rw[dg (N1 hlt)]
  exact (hf b hb).1
 done:=by
  intro X hP hw hK hc i pins s σ H E I hf st hg
  subst hP hw hK
  obtain ⟨a1,a2,⟨xa,xb,a3⟩,a4,a5⟩:=st
  refine Cj (I.ok.hd hc) D a1 a2 a3 a4 a5 (hg.elim (fun q=>.inl (uy I q)) fun q=>.inr ⟨sF I q.1,uy I q.2⟩) fun h' tk b7=>⟨rfl,?_⟩
  refine Inv.ug (s:=s) (tk:=tk) I hf (fun b o hb e=>?_) (fun _ _=>rfl) fun b u e=>?_
  ·simp only[PX,O0,or_false,not_or] at hb
   exact b7 b o hb.1 hb.2.2.1 hb.2.2.2.1 hb.2.2.2.2 e
  ·refine (I.hok b u e).stay (fun c v hc q=>b7 c v ?_ ?_ ?_ ?_ q) (fun _ q=>q) fun _ _ q=>q
   all_goals
    intro ec
    have hcn:H c=none:=(hf c (by simp[ec])).1
    rcases hc with rfl | hc
    ·rw[hcn] at e;exact cR e
    ·rw[hcn] at hc;exact cR hc
 self:=fun _ _ _ _ _ st h=>wpAny_pyIter_zip st.1 h
structure ZOk (K:Nz) (m0:List NL) (H0:Hp) (q:ZK) (xs:List BT.D):Prop where
 has:∀ m H i,Ext m0 H0 m H->i < xs.length->q.has K H i
 is:∀ m H i v d,Ext m0 H0 m H->q.is K H i v->xs[i]?=some d->RD K m H v d
 over:∀ m H i,Ext m0 H0 m H->xs.length<=i->q.over K H i
theorem Ju {K:Nz}{m0:List NL}{H0:Hp}{a:NL}{vs:List V}{ds:List BT.D} (h:(Rd H0 a (.lst vs)/\a∉m0)\/KL K a vs) (r:RDs K m0 H0 vs ds):ZOk K m0 H0 (.l a) ds:=by
 have k:∀ {m H},Ext m0 H0 m H->SqL K H a vs:=fun x=>LL.sq (h.elim (fun q=>.inl (Rd.ext x q.1 q.2).1) .inr)
 refine ⟨fun m H i x hi=>⟨vs,_,k x,NN (by rw[r.length];exact hi)⟩,fun m H i v d x y hd=>?_,fun m H i x hi=>⟨vs,k x,by rw[r.length];exact hi⟩⟩
 obtain ⟨u,h1,h2⟩:=(r.ext x).get hd
 have:=y vs (k x)
 rw[h1] at this
 cases this
 exact h2
theorem Jv {K:Nz}{m0:List NL}{H0:Hp}{a:NL}{vs:List V}{ds:List BT.D} (h:(Rd H0 a (.tup vs)/\a∉m0)\/KT K a vs) (r:RDs K m0 H0 vs ds):ZOk K m0 H0 (.t a) ds:=by
 have k:∀ {m H},Ext m0 H0 m H->SqT K H a vs:=fun x=>h.elim (fun q=>.inl (Rd.ext x q.1 q.2).1) fun ⟨o,its,n,q,_⟩=>.inr ⟨o,its,n,q⟩
 refine ⟨fun m H i x hi=>⟨vs,_,k x,NN (by rw[r.length];exact hi)⟩,fun m H i v d x y hd=>?_,fun m H i x hi=>⟨vs,k x,by rw[r.length];exact hi⟩⟩
 obtain ⟨u,h1,h2⟩:=(r.ext x).get hd
 have:=y vs (k x)
 rw[h1] at this
 cases this
 exact h2
theorem jw (x:Str):(BT.jT x).length=x.cps.size:=by simp[BT.jT]
theorem ze {x:Str}{i:Nat}{d:BT.D} (h:(BT.jT x)[i]?=some d):∃ c,x.cps[i]?=some c/\d=.str ⟨#[c]⟩:=by
 unfold BT.jT at h
 rw[Og] at h
 obtain ⟨c,h1,h2⟩:=c6 h
 exact ⟨c,by simpa using h1,h2.symm⟩
theorem Jw {K:Nz}{m0:List NL}{H0:Hp}{x:Str}{t:Tok} (ok:PyData.strOk x=true):ZOk K m0 H0 (.s x t) (BT.jT x):=by
 refine ⟨fun m H i _ hi=>?_,fun m H i v d _ y hd=>?_,fun m H i _ hi=>by rw[jw] at hi;exact hi⟩
 ·rw[jw] at hi
  exact ⟨_,Sv hi⟩
 ·obtain ⟨c,h1,rfl⟩:=ze hd
  obtain ⟨c',h2,rfl⟩:=y
  rw[h1] at h2
  cases h2
  refine .str _ (kE ok ?_)
  exact Array.mem_toList_iff.mpr (To h1)
theorem Co:∀ (ds es:List BT.D),(BT.gH ds es).length=min ds.length es.length:=by
 intro ds
 induction ds with
 | nil=>intro es;cases es<;>simp[BT.gH]
 | cons d ds ih =>
  intro es
  cases es with
  | nil=>simp[BT.gH]
  | cons e es=>simp only[BT.gH,NJ,ih];lia
theorem FW:∀ (ds es:List BT.D) (i:Nat) (d:BT.D),(BT.gH ds es)[i]?=some d->∃ x y,ds[i]?=some x/\es[i]?=some y/\d=.tup [x,y]:=by
 intro ds
 induction ds with
 | nil=>intro es i d e;cases es<;>simp[BT.gH] at e
 | cons d ds ih =>
  intro es i q e
  cases es with
  | nil=>simp[BT.gH] at e
  | cons e0 es =>
   cases i with
   | zero=>simp[BT.gH] at e;exact ⟨d,e0,rfl,rfl,e.symm⟩
   | succ i=>simp[BT.gH] at e;simpa using ih es i q e
theorem Cq {C:BT.HH->Prop}{K:Nz}{m0:List NL}{H0:Hp}{q1 q2:ZK}{ds es:List BT.D} (z1:ZOk K m0 H0 q1 ds) (z2:ZOk K m0 H0 q2 es):nu K (ItG K q1 q2) m0 H0 (BT.gH ds es) C:=by
 have ln:=Co ds es
 refine ⟨fun m H hh i x _ _ hi=>⟨z1.has m H i x (by lia),z2.has m H i x (by lia)⟩,fun m H hh i v H' d x RR _ hd y=>?_,fun m H _ x _ _=>?_⟩
 ·obtain ⟨t,v1,v2,rfl,hn,rfl,y1,y2⟩:=y
  obtain ⟨d1,d2,e1,e2,rfl⟩:=FW ds es i d hd
  have xx:Ext m H m (upd H t (.tup [v1,v2])):=gx hn
  exact ⟨xx,r9 hn,.tup (.inl ⟨.inl dU,RR.iO hn⟩) (.cons ((z1.is m H i v1 d1 x y1 e1).ext xx) (.cons ((z2.is m H i v2 d2 x y2 e2).ext xx) .nil))⟩
 ·by_cases c:ds.length<=(BT.gH ds es).length
  ·exact .inl (z1.over m H _ x c)
  ·exact .inr ⟨z1.has m H _ x (by lia),z2.over m H _ x (by lia)⟩
inductive ZV (X:Cx) (m:List NL) (H:Hp) (s:ND) (u:Value) (xs:List BT.D):Prop where
 | mk (q:ZK) (e:u=q.val) (h:q.here s.heap) (f:∀ b,s.heap.objs.size<=b->q.off b) (z:ZOk X.K m H q xs):ZV X m H s u xs
theorem DE {X:Cx}{pins:List (NL×Obj)}{σ:L2.St}{m:List NL}{H:Hp}{s:ND}{v:V}{u:Value}{d:BT.D}{xs:List BT.D} (I:Inv X pins σ H s) (r:RD X.K m H v d) (rv:RelV v u) (e:BT.xJ d=some xs):ZV X m H s u xs:=by
 cases r with
 | @tup a vs _ h r =>
  cases e
  cases rv
  obtain ⟨its,q1,p,hz⟩:=I.tuple (h.elim (fun q=>.inl q.1) fun ⟨o,its,n,q,_⟩=>.inr ⟨o,its,n,q⟩)
  obtain ⟨o,ho,r'⟩:=id p
  have:=NK ho
  exact ⟨.t a,rfl,⟨its,p⟩,fun b hb=>N1 (N4 this hb),Jv h r⟩
 | @lst a vs _ h r =>
  cases e
  cases rv
  obtain ⟨its,q1,p,hz⟩:=I.list (LL.sq (h.elim (fun q=>.inl q.1) .inr))
  obtain ⟨o,ho,r'⟩:=p.isList
  have:=NK ho
  exact ⟨.l a,rfl,⟨its,p.isList⟩,fun b hb=>N1 (N4 this hb),Ju h r⟩
 | str x ok =>
  cases e
  obtain ⟨t,rfl⟩:=rv
  exact ⟨.s x t,rfl,trivial,fun _ _=>trivial,Jw ok⟩
 | _=>exact cR e
section
variable {F:FT}{G:Str->Option BT.W}
theorem Cr {X:Cx}{sc:Ow}{N:List Str} (O:Ok X F G sc N) {tg ex ey:NH}{sa:BT.Es}{p pos:Pos} (hz:nT .zipG tg=true) (hg:dY sc "zip"=true) (hs:noStar ex=true) (hs2:noStar ey=true) (hA:PA X [ex,ey] (tDs X F G sa)) :
 PI X tg (.Call (.Name "zip" p) [ex,ey] [] pos) (iD X F G .zipG sa):=by
 intro pins s σ H R I q
 obtain ⟨m,s',h,ws,h',ds,RR,S,e,e2,ha,post⟩:=q
 obtain ⟨xs,rfl⟩:=o6 (ha.p (fun z=>by cases z))
 rw[o7,ON] at e2
 obtain ⟨d1,d2,rfl⟩:∃ d1 d2,xs=[d1,d2]:=by
  match xs,e2 with
  | [d1,d2],_=>exact ⟨d1,d2,rfl⟩
 rw[BT.ji] at e2
 obtain ⟨x1,g1,g2⟩:=Option.bind_eq_some_iff.mp e2
 obtain ⟨x2,g3,g4⟩:=c6 g2
 subst g4
 refine Call_ (jB (u:=.type "zip") I (d7 O hg) (O.blt _ (by decide)) (by decide +kernel) (OO (thn (hA pos pins s σ H (fun vs H1=>∃ m1 v1 v2,vs=[v1,v2]/\Ext m H m1 H1/\RH X.K m1 H1 h'/\RD X.K m1 H1 v1 d1/\RD X.K m1 H1 v2 d2) I
  ⟨m,s',h,_,h',RR,S,e,fun vs H1 m1 x1 R1 r1=>?_⟩) fun us s1 ⟨vs,H1,I1,r1,q1⟩=>?_) (cY hs) (dN (by simp[cX,hs2]))))
 ·cases r1 with
  | cons ra t =>
   cases t with
   | cons rb t =>
    cases t
    cases ra with
    | p ra =>
     cases rb with
     | p rb=>exact ⟨m1,_,_,rfl,x1,R1,ra,rb⟩
 ·obtain ⟨m1,v1,v2,rfl,x1,R1,ra,rb⟩:=q1
  obtain ⟨u1,u2,rfl,ru1,ru2⟩:=r1.two
  obtain ⟨q1,rfl,h1,f1,z1⟩:=DE I1 ra ru1 g1
  obtain ⟨q2,rfl,h2,f2,z2⟩:=DE I1 rb ru2 g3
  refine Cg h1 h2 fun h2' y1 y2 y3 y4 y5 y7=>?_
  refine wpAny_pyIter_zip y1 ?_
  have D:ZA (s1.heap.objs.size+4) (s1.heap.objs.size+2) (s1.heap.objs.size+3) s1.heap.objs.size (s1.heap.objs.size+1) q1 q2:=by
   have ne:∀ (i j:Nat),i≠j->s1.heap.objs.size+i≠s1.heap.objs.size+j:=fun i j hij z=>hij (Nat.add_left_cancel z)
   have n0:∀ (i:Nat),i≠0->s1.heap.objs.size+i≠s1.heap.objs.size:=fun i hi=>ne i 0 hi
   exact ⟨ne 2 4 (by decide),ne 3 4 (by decide),(n0 4 (by decide)).symm,ne 1 4 (by decide),ne 2 3 (by decide),n0 2 (by decide),ne 2 1 (by decide),n0 3 (by decide),ne 3 1 (by decide),(n0 1 (by decide)).symm,
    ⟨f1 _ (OB _ _),f1 _ (OB _ _),f1 _ (NI _),f1 _ (OB _ _)⟩,⟨f2 _ (OB _ _),f2 _ (OB _ _),f2 _ (NI _),f2 _ (OB _ _)⟩⟩
  cases tg with
  | Tuple elts kk tp =>
   refine ⟨s1.heap.objs.size+4,_,_,_,H1,rfl,I1.kept (t':=s1.toks) fun b o e=>y7 b o e,v8 D,⟨y1,y2,⟨_,_,y3⟩,y4,y5⟩,fun c hc=>?_,post H1 m1 _ x1 R1 (Cq z1 z2)⟩
   have hle:s1.heap.objs.size<=c:=by
    simp only[PX,O0,or_false] at hc
    rcases hc with rfl | rfl | rfl | rfl | rfl
    ·exact OB _ _
    ·exact OB _ _
    ·exact OB _ _
    ·exact NI _
    ·exact OB _ _
   exact I1.rD hle (I1.hok.fresh hle)
  | _=>exact BT.dG hz
noncomputable def Itc (x:Str):It:=⟨fun i _=>i < x.cps.size,fun i H v H'=>H'=H/\∃ c,x.cps[i]?=some c/\v=.str ⟨#[c]⟩,fun i _=>x.cps.size<=i⟩
theorem zf {P:NT}{w:N7}{K:Nz}{tg:NH} (it:NL) (x:Str) (t:Tok):Turn P w K tg (Itc x) [it] it (fun i h=>h.IsStrIter it (N2 x) x t i) where
 mem:=by simp
 obj:=fun i h st b hb=>by
  have e:b=it:=by simpa using hb
  subst e
  obtain ⟨o,e,c,d⟩:=st
  exact ⟨o,e,fun v z=>by rw[d] at z;cases z⟩
 keep:=fun i h h' st k=>let ⟨q,e,r⟩:=st;⟨q,k it (by simp) q e,r⟩
 item:=by
  intro X hP hw hK hc i pins s σ H E I hf st hg
  subst hP hw hK
  obtain ⟨f0,f1,f2,f3,f4,f5⟩:=hf it (by simp)
  have fin:∀ {ty:String}{v:Value}{h':Heap}{tk:Nat},N2 x=ty->(["enumerate","zip","dict_itemiterator","dict_reverseitemiterator","odict_iterator","itertools.zip_longest","itertools.pairwise"].contains ty=false)->(∃ c u,x.cps[i]?=some c/\v=.str ⟨#[c]⟩ u)->h'.IsStrIter it ty x t (i+1)->(∀ b o,b∉[it]->s.heap.get? b=some o->h'.get? b=some o) →
   ∃ u,some v=some u/\wpAny (N5 X.prog X.w) X.A (Qw tg (.ref it) u) (fun _ s2=>∃ x' H',Inv X pins σ H' s2/\RelV x' u/\(Itc x).yld i H x' H'/\s2.heap.IsStrIter it (N2 x) x t (i+1)/\∀ b∈[it],H' b=none) E { s with heap:=h',toks:=tk }:=by
   intro ty v h' tk ety hn hv st' kk
   obtain ⟨c,u,hc,rfl⟩:=hv
   have I1:Inv X pins σ H { s with heap:=h',toks:=tk }:=I.turned (fun b o hb e=>kk b o (by simpa using hb) e) f0 f1 f3 f4 f5
   obtain ⟨o,e,c',d⟩:=id st'
   refine ⟨_,rfl,nG (s:={ s with heap:=h',toks:=tk }) (n:=ty) e c' d hn ⟨.str ⟨#[c]⟩,H,I1,⟨u,rfl⟩,⟨rfl,c,hc,rfl⟩,by rw[ety];exact st',fun b hb=>(hf b hb).1⟩⟩
  have st:s.heap.IsStrIter it (N2 x) x t i:=st
  cases ha:x.cps.all (· < 128) with
  | true =>
   have ey:N2 x="str_ascii_iterator":=by unfold N2;rw[if_pos ha]
   rw[ey] at st
   exact (Walks.strAscii (prog:=X.prog) (w:=X.w) (I.ok.hd hc) it x t).item i s _ _ hg st fun v h' tk hv st' kk=>fin ey (by decide) hv st' kk
  | false =>
   have ey:N2 x="str_iterator":=by unfold N2;rw[if_neg (by rw[ha];decide)]
   rw[ey] at st
   exact (Walks.strWide (prog:=X.prog) (w:=X.w) (I.ok.hd hc) it x t).item i s _ _ hg st fun v h' tk hv st' kk=>fin ey (by decide) hv st' kk
 done:=by
  intro X hP hw hK hc i pins s σ H E I hf st hg
  subst hP hw hK
  obtain ⟨f0,f1,f2,f3,f4,f5⟩:=hf it (by simp)
  have st:s.heap.IsStrIter it (N2 x) x t i:=st
  have hi:x.cps[i]?=none:=Array.getElem?_eq_none hg
  cases ha:x.cps.all (· < 128) with
  | true =>
   have ey:N2 x="str_ascii_iterator":=by unfold N2;rw[if_pos ha]
   rw[ey] at st
   exact wpAny_pyNext_ascii_end (I.ok.hd hc) st hi fun h' eb=>⟨rfl,I.turned (t':=s.toks) (fun b o hb e=>eb b o hb e) f0 f1 f3 f4 f5⟩
  | false =>
   have ey:N2 x="str_iterator":=by unfold N2;rw[if_neg (by rw[ha];decide)]
   rw[ey] at st
   exact wpAny_pyNext_wide_end (I.ok.hd hc) st hi fun h' eb=>⟨rfl,I.turned (t':=s.toks) (fun b o hb e=>eb b o hb e) f0 f1 f3 f4 f5⟩
 self:=fun _ _ s _ _ st h=>by
  have st:s.heap.IsStrIter it (N2 x) x t _:=st
  cases ha:x.cps.all (· < 128) with
  | true =>
   have ey:N2 x="str_ascii_iterator":=by unfold N2;rw[if_pos ha]
   rw[ey] at st
   exact wpAny_pyIter_striter_ascii st h
  | false =>
   have ey:N2 x="str_iterator":=by unfold N2;rw[if_neg (by rw[ha];decide)]
   rw[ey] at st
   exact wpAny_pyIter_striter_wide st h
theorem FY {C:BT.HH->Prop}{K:Nz}{m0:List NL}{H0:Hp}{x:Str} (ok:PyData.strOk x=true):nu K (Itc x) m0 H0 (BT.jT x) C:=by
 refine ⟨fun m H hh i _ _ _ hi=>by rw[jw] at hi;exact hi,fun m H hh i v H' d _ RR _ hd y=>?_,fun m H _ _ _ _=>by rw[jw];exact NI _⟩
 obtain ⟨rfl,c,h1,rfl⟩:=y
 obtain ⟨c',h2,rfl⟩:=ze hd
 rw[h1] at h2
 cases h2
 exact ⟨.refl _ _,fun _ _ e=>e,.str _ (kE ok (Array.mem_toList_iff.mpr (To h1)))⟩
theorem FZ {X:Cx}{tg x:NH}{a:BT.E} (he:PE X x (tD X F G a)):PI X tg x (iD X F G .chs (.cons a .nil)):=by
 intro pins s σ H R I q
 obtain ⟨m,s',h,ws,h',ds,RR,S,e,e2,ha,post⟩:=q
 obtain ⟨w,rfl,e4⟩:=lE e
 obtain ⟨y,rfl,rfl⟩:∃ y,w=.p (.str y)/\ds=BT.jT y:=by
  have hp:=ha.p (fun z=>by cases z)
  cases w with
  | p d =>
   rw[show ([BT.W.p d]:List BT.W)=[d].map BT.W.p from rfl,o7,ON] at e2
   cases d with
   | str y=>cases e2;exact ⟨y,rfl,rfl⟩
   | _=>exact cR e2
  | _=>exact BT.dG hp
 refine thn (he pins s σ H (fun v H1=>∃ m1,v=.str y/\PyData.strOk y=true/\Ext m H m1 H1/\RH X.K m1 H1 h') I ⟨m,s',h,_,h',RR,S,e4,fun v H1 m1 x1 R1 r1=>?_⟩) fun v s1 ⟨x,H1,I1,r1,q1⟩=>?_
 ·cases r1 with
  | p r1 =>
   cases r1 with
   | str _ ok=>exact ⟨m1,rfl,ok,x1,R1⟩
 ·obtain ⟨m1,rfl,ok,x1,R1⟩:=q1
  obtain ⟨t,rfl⟩:=r1
  refine wpAny_pyIter_strU ?_
  refine ⟨s1.heap.objs.size,[s1.heap.objs.size],_,_,H1,rfl,I1.kept (t':=s1.toks) fun b o e=>NC _ e,zf _ y t,⟨_,NR _ rfl,rfl,rfl⟩,fun b hb=>?_,post H1 m1 _ x1 R1 (FY ok)⟩
  have e:b=s1.heap.objs.size:=by simpa using hb
  subst e
  exact I1.rD (NI _) (I1.hok.fresh (NI _))
end
section
variable {prog:NT}{w:N7}{A:Om}{E:Value->ND->Prop}{s:ND}
theorem Cs (n:Nat):Ox none none (-1) (n:Int)=((n:Int) - 1,-1):=by
 unfold Ox
 have h1:((-1:Int) < 0):=by decide
 simp only[h1,if_true]
theorem sG (n:Nat):Oe ((n:Int) - 1) (-1) (-1)=n:=by
 unfold Oe
 have h1:¬ ((-1:Int) > 0):=by decide
 simp only[h1,if_false]
 have:(-(-1:Int))=1:=by decide
 rw[this,Int.ediv_one]
 split<;>lia
theorem qS {sl:NL}{n:Nat}{u:Tok}{Q:Int×Int×Nat->ND->Prop} (hs:s.heap.IsSliceOf sl .none .none (.int (-1) u)) (h:Q ((n:Int) - 1,-1,n) s) :
 wpAny (N5 prog w) A (Pc (.ref sl) (pure (n:Int))) Q E s:=by
 obtain ⟨os,hos,hcs,hds⟩:=id hs
 unfold Pc Rm
 refine NB (NB (Os hos hds (x:=.none) rfl (NB (Os hos hds (x:=.none) rfl (NB (Os hos hds (x:=.int (-1) u) rfl (wpAny_pure ?_)))))))
 refine NB (slicePart_int ?_)
 show wpAny _ _ (if ((-1:Int)==0)=true then _ else _) _ _ s
 rw[if_neg (by decide)]
 refine NB (Rx (NB (Rx (NB (wpAny_pure ?_)))))
 show wpAny _ _ (match Ox none none (-1) (n:Int) with | (lo,hi)=>pure (lo,(-1:Int),Oe lo hi (-1))) _ _ s
 rw[Cs n]
 show wpAny _ _ (pure ((n:Int) - 1,(-1:Int),Oe ((n:Int) - 1) (-1) (-1))) _ _ s
 rw[sG n]
 exact wpAny_pure h
theorem zg (xs:List Value):((OR xs.length).filterMap fun (k:Nat)=>xs.toArray[((xs.length:Int) - 1+(k:Int)*(-1)).toNat]?).toArray=xs.reverse.toArray:=by
 congr 1
 have gen:∀ l:List Nat,(∀ k∈l,k < xs.length)->l.filterMap (fun (k:Nat)=>xs.toArray[((xs.length:Int) - 1+(k:Int)*(-1)).toNat]?)=l.map fun k=>xs.getD (xs.length - 1 - k) .none:=by
  intro l
  induction l with
  | nil=>intro _;rfl
  | cons k l ih =>
   intro h
   have hk:=h k NV
   rw[OI,OJ,ih fun y hy=>h y (NP _ hy),show ((xs.length:Int) - 1+(k:Int)*(-1)).toNat=xs.length - 1 - k by lia,Tz,Sq,NN (by lia)]
   rfl
 rw[gen _ fun k hk=>List.mem_range.mp hk]
 refine List.ext_getElem? fun i=>?_
 rw[Og]
 by_cases c:i < xs.length
 ·rw[Re c,TF c,Qi,Sq,NN (by lia)];rfl
 ·rw[N3 (by simpa using c),N3 (by simpa using c)];rfl
theorem Ct {t sl:NL}{items:List Value}{u:Tok}{Q:Value->ND->Prop} (ht:IsTup s.heap t items.toArray) (hs:s.heap.IsSliceOf sl .none .none (.int (-1) u))
 (h:Q (.ref s.heap.objs.size) { s with heap:=s.heap.push { cls:=.type "tuple",data:=.seq items.reverse.toArray } })
 (hsz:items.length<=sizeLine):wpAny (N5 prog w) A (QZ (.ref t) (.ref sl)) Q E s:=by
 have hdrop:sizeOk (.seq items.reverse.toArray):=by
  show items.reverse.toArray.size<=sizeLine
  rw[NF,Qn]
  exact hsz
 obtain ⟨os,hos,hcs,hds⟩:=id hs
 have hTs:s.TypeIs (.ref sl) "slice":=⟨os,hos,hcs⟩
 unfold QZ
 try with_reducible refine P7 ?_
 first | refine NB (wpAny_pure ?_) | skip
 refine NB (Sg ht.typeIs (by decide) ?_)
 refine NB (OD (name:=NY "__getitem__") ht.typeIs Oi
  (Pe Oi ht.typeIs RE ?_ (RV _ _)))
 show wpAny _ _ (Qc (.ref t) >>= _) _ _ s
 refine NB (Uc ht ?_)
 refine NB (Sw hTs ?_)
 rw[if_pos (by decide)]
 refine NB (qS hs ?_)
 rw[NF]
 show wpAny _ _ (if (((items.length:Int) - 1)==0&&(-1:Int)==1&&items.length==items.toArray.size)=true then _ else _) _ _ s
 rw[if_neg (by simp),zg items]
 first
  | exact NB (m:=Of _) (Oo (wpAny_pure ⟨_,rfl,wpAny_pure h⟩) hdrop)
  | exact NB (m:=Of _) (Oo (NB (wpAny_pure (wpAny_pure ⟨_,rfl,wpAny_pure h⟩))) hdrop)
  | exact NB (NB (m:=Of _) (Oo (wpAny_pure (wpAny_pure ⟨_,rfl,wpAny_pure h⟩)) hdrop))
  | exact NB (NB (m:=Of _) (Oo (wpAny_pure ⟨_,rfl,wpAny_pure h⟩) hdrop))
end
section
variable {F:FT}{G:Str->Option BT.W}
theorem zh {vs:List V}{us:List Value} (r:cZ vs us):cZ vs.reverse us.reverse:=by
 induction r with
 | nil=>exact .nil
 | cons q _ ih=>rw[QC,QC];exact ih.append (.cons q .nil)
theorem Cu {K:Nz}{m:List NL}{H:Hp}{vs:List V}{ds:List BT.D} (r:RDs K m H vs ds):RDs K m H vs.reverse ds.reverse:=by
 induction vs generalizing ds with
 | nil=>cases r;exact .nil
 | cons v vs ih =>
  cases r with
  | cons a t=>rw[QC,QC];exact (ih t).append (.cons a .nil)
theorem F0 {X:Cx}{a:BT.E}{x:NH}{c:Nat}{p1 p2 p3 p:Pos} (ha:PE X x (tD X F G a)) (hs:PE X (.UnaryOp .USub (.Constant (.int 1) c p1) p3) (tC (.int (-1)))):PE X (.Subscript x (.Slice none none (some (.UnaryOp .USub (.Constant (.int 1) c p1) p3)) p2) p) (tD X F G (.rvs a)):=by
 intro pins s σ H Q I q
 obtain ⟨m,sl,h,z,h',R,S,ee,post⟩:=q
 simp only[BT.ev] at ee
 obtain ⟨w,h1,e1,e2⟩:=cU ee
 obtain ⟨xs,rfl,rfl,rfl⟩:∃ xs,w=.p (.tup xs)/\z=.p (.tup xs.reverse)/\h'=h1:=by
  cases w with
  | p d =>
   cases d with
   | tup xs=>cases e2;exact ⟨xs,rfl,rfl,rfl⟩
   | _=>exact cR e2
  | _=>exact cR e2
 refine T4 (thn (ha pins s σ H (fun v H1=>∃ m1 b vs,v=.ref b/\Ext m H m1 H1/\RH X.K m1 H1 h'/\SqT X.K H1 b vs/\RDs X.K m1 H1 vs xs) I ⟨m,sl,h,_,h',R,S,e1,fun v H1 m1 x1 R1 r1=>?_⟩) fun v s1 ⟨y,H1,I1,r1,m1,b,vs,ey,x1,R1,hq,rr⟩=>?_)
 ·cases r1 with
  | p r1 =>
   cases r1 with
   | @tup b vs _ hb r=>exact ⟨m1,b,vs,rfl,x1,R1,hb.elim (fun q=>.inl q.1) fun ⟨o,its,n,q,_⟩=>.inr ⟨o,its,n,q⟩,r⟩
 ·subst ey
  cases r1
  refine wpAny_Slice ?_
  rw[RQ]
  refine wpAny_pure (wpAny_pure ?_)
  rw[Ug]
  refine thn (hs pins s1 σ H1 (fun v H'=>v=.int (-1)/\H'=H1) I1 ⟨rfl,rfl⟩) fun u3 s3 zq=>?_
  obtain ⟨y,H3,I3,r3,hy,hh⟩:=zq
  subst hy hh
  obtain ⟨t,rfl⟩:=r3
  have I4:Inv X pins σ H3 { s3 with heap:=s3.heap.push { cls:=.type "slice",data:=.fields #[.none,.none,.int (-1) t] } }:=I3.kept (t':=s3.toks) fun b ob q=>NC _ q
  obtain ⟨its,rv,pt,hz⟩:=I4.tuple hq
  have hlen:=rv.length
  have hg:wpAny (N5 X.prog X.w) X.A (QZ (.ref b) (.ref s3.heap.objs.size)) (EP X pins σ Q) X.xe { s3 with heap:=s3.heap.push { cls:=.type "slice",data:=.fields #[.none,.none,.int (-1) t] } }:=by
   refine Ct pt (QL ..) ?_ (by lia)
   refine ⟨.ref _,_,I4.laid (t':=s3.toks) (o:=.tup vs.reverse) (fun b ob q=>NC _ q) (NI _) ⟨by rw[Qn];lia,its.reverse,zh rv,IsTup.new _ _⟩,rfl,jl R1 (I4.hok.fresh (NI _)) (Cu rr) fun v5 H5 m5 x5 R5 r5=>post v5 H5 m5 (x1.trans x5) R5 r5⟩
  show wpAny (N5 X.prog X.w) X.A (RP x _ (.ref b) (.ref s3.heap.objs.size)) (EP X pins σ Q) X.xe _
  exact SV (ops:=[.ref b,.ref s3.heap.objs.size]) pt.typeIs PyProof.Rows.slot_tuple_getitem.lookup hg (by with_unfolding_all rfl)
end
section
variable {X:Cx}{F:FT}{G:Str->Option BT.W}
end
noncomputable def dV:BT.D->V
 | .str x=>.str x
 | .int i=>.int i
 | _=>.non
theorem uz {P:NT}{w:N7}:∀ {kvs:List (Str×BT.D)}{vs:List (Value×Value)},dlV kvs=true->ReadAs vs (dlD kvs)->∃ ps,Carries (c8 P w) vs ps/\KV (kvs.map fun p=>((Sum.inr p.1:Key),dV p.2)) ps
 | [],vs,_,r=>by
  cases r
  exact ⟨[],True.intro,.nil⟩
 | (x,d) :: kvs,vs,h,r=>by
  have h:(PyData.strOk x&&yd d&&dlV kvs)=true:=h
  simp only[NG] at h
  obtain ⟨⟨h1,h2⟩,h3⟩:=h
  have r:ReadAs vs ((PyData.str x,dlQ d) :: dlD kvs):=r
  cases r with
  | @cons k v _ _ vs _ fk fv r =>
   obtain ⟨ps,c,kv⟩:=uz (P:=P) (w:=w) h3 r
   cases d with
   | str y =>
    have fv:T9 v (.str y):=fv
    obtain ⟨t1,rfl⟩:=fk.str_inv
    obtain ⟨t2,rfl⟩:=fv.str_inv
    exact ⟨(.inr x,_) :: ps,⟨d9 _ _ _ _,rfl,c⟩,.cons ⟨rfl,_,rfl⟩ kv⟩
   | int i =>
    have fv:T9 v (.int i):=fv
    obtain ⟨t1,rfl⟩:=fk.str_inv
    obtain ⟨t2,rfl⟩:=fv.int_inv
    exact ⟨(.inr x,_) :: ps,⟨d9 _ _ _ _,rfl,c⟩,.cons ⟨rfl,_,rfl⟩ kv⟩
   | _=>exact absurd (show false=true from h2) N8
theorem sH {K:Nz}{m:List NL}{H:Hp}:∀ {kvs:List (Str×BT.D)},dlV kvs=true->RKs K m H (kvs.map fun p=>((Sum.inr p.1:Key),dV p.2)) (kvs.map fun p=>((.inr p.1:BT.Ky),p.2))
 | [],_=>.nil
 | (x,d) :: kvs,h=>by
  have h:(PyData.strOk x&&yd d&&dlV kvs)=true:=h
  simp only[NG] at h
  obtain ⟨⟨h1,h2⟩,h3⟩:=h
  cases d with
  | str y=>exact .cons (.str x h1) (.str y h2) (sH h3)
  | int i=>exact .cons (.str x h1) (.int i) (sH h3)
  | _=>exact absurd (show false=true from h2) N8
section
variable {X:Cx}{F:FT}{G:Str->Option BT.W}
theorem Cv {kvs:List (Str×BT.D)}{keys:List (Option NH)}{values:List NH}{p:Pos} (h1:litPairs keys values=some (dlD kvs)) (h2:dlB kvs keys values=true):PE X (.Dict keys values p) (tD X F G (.dlit kvs)):=by
 intro pins s σ H Q I q
 obtain ⟨m,sl,h,z,h',R,S,ee,post⟩:=q
 simp only[BT.ev] at ee
 cases ee
 simp only[dlB,NG,decide_eq_true_eq] at h2
 obtain ⟨⟨⟨⟨⟨h3,h4⟩,h5⟩,h6⟩,h7⟩,kl⟩:=h2
 have hp:H s.heap.objs.size=none:=I.hok.fresh (NI _)
 refine wpAny_Dict_walk (knd:=c8 X.prog X.w) h4 h5 (fun e=>by rw[e] at h6;exact absurd h6 (by decide)) h7 ?_
 refine evalPairs_lits keys values (dlD kvs) _ _ h1 fun vs tk r=>?_
 obtain ⟨ps,c,kv⟩:=uz (P:=X.prog) (w:=X.w) h3 r
 refine ⟨ps,c,Heap.DictOf.new s.heap,fun h2 dd sb=>?_⟩
 obtain ⟨k1,k2⟩:=yR kv (sH (K:=X.K) (m:=m) (H:=H) h3) (ws:=[]) (vs:=[]) (kvs:=[]) .nil .nil
 have fl:=qL (kvs.map fun p=>((Sum.inr p.1:Key),dV p.2)) []
 have li:=fE
 have li:100000<=sizeLine:=li
 rw[NS,Pi] at fl
 obtain ⟨ob,es,ep,ho,ra⟩:=id dd
 have hk:∀ b o,s.heap.get? b=some o->h2.get? b=some o:=fun b o e=>by
  have ne:b≠s.heap.objs.size:=N1 (NK e)
  rw[sb.2 b ne]
  exact NC _ e
 have x:Ext m H m (upd H s.heap.objs.size (.frz ob (.dK ((kvs.map fun p=>((Sum.inr p.1:Key),dV p.2)).foldl (fun c p=>putK c p.1 p.2) [])))):=gx hp
 refine ⟨.ref s.heap.objs.size,_,I.laid (a:=s.heap.objs.size) (o:=.frz ob (.dK ((kvs.map fun p=>((Sum.inr p.1:Key),dV p.2)).foldl (fun c p=>putK c p.1 p.2) []))) (t':=tk+vs.length) hk (NI _) ⟨ho,Eu (by lia) (beq_eq_false_iff_ne.mpr (QB (N1 I.big))) k1 dd⟩,rfl,?_⟩
 exact post _ _ m x (R.ext x (r9 hp)) (.kl ⟨dU,R.iO hp⟩ (k2.ext x))
end
section
theorem v9 {X:Cx}{v:V}{ds:List BT.D} (r:∀ m H,RW X.prog X.w X.K m H v (.p (.tup ds))):∃ a vs,v=.ref a/\KT X.K a vs:=by
 have z:=r [] (fun _=>none)
 cases z with
 | p z =>
  cases z with
  | @tup a vs _ h _ =>
   rcases h with ⟨h,_⟩ | h
   ·rcases h with h | ⟨o,h⟩<;>exact cR h
   ·exact ⟨a,vs,rfl,h⟩
theorem we {X:Cx}{sc:Ow}{N:List Str} (O:Ok X F G sc N) {x:Str}{as:BT.Es}{es:List NH}{np apos cpos:Pos} (h2:dY sc x=true) (h3:fM x=true) (hl:(apos.endLine==cpos.line)=true) (hlen:es.length < 20) (hc:CEs sc N as es) (ha:PA X es (tDs X F G as)) :
 PE X (.Call (.Attribute (.Name x np) "index" apos) es [] cpos) (tD X F G (.me .tindex (.glo x) as)):=by
 have hst:=gR hc
 intro pins s σ H Q I q
 obtain ⟨m,s',h,z,h',R,S,ee,post⟩:=q
 simp only[BT.ev] at ee
 obtain ⟨w,g,e1,e2⟩:=cU ee
 obtain ⟨_,e2⟩:=tV e2
 obtain ⟨ws,g2,e3,e4⟩:=cU e2
 obtain ⟨w',e5,e6⟩:=c6 e1
 cases e6
 obtain ⟨u,v0,hm,rv,rw0⟩:=O.glob _ _ e5
 have hT:∃ ds xs,BT.dD ws=some ds/\w=.p (.tup xs)/\ds≠[]:=by
  cases w with
  | r n=>cases ws<;>(first | exact cR e4 | simp[BT.meW] at e4)
  | k q=>cases ws<;>(first | exact cR e4 | simp[BT.meW] at e4)
  | c _ _=>cases ws<;>(first | exact cR e4 | simp[BT.meW] at e4)
  | x _=>cases ws<;>(first | exact cR e4 | simp[BT.meW] at e4)
  | o q=>cases ws<;>(first | exact cR e4 | simp[BT.meW] at e4)
  | p d =>
   rw[BT.lW] at e4
   cases gp:BT.dD ws with
   | none=>rw[gp] at e4;exact cR e4
   | some ds =>
    rw[gp] at e4
    obtain ⟨b,e7,e8⟩:=c6 e4
    cases d with
    | tup xs=>refine ⟨ds,xs,rfl,rfl,fun z=>?_⟩;subst z;exact cR e7
    | _=>cases ds<;>exact cR e7
 obtain ⟨ds,xs,gp,rfl,hne⟩:=hT
 obtain ⟨a,vt,rfl,o,its,n,⟨k1,k2,k3,k4,k5⟩,k6⟩:=v9 rw0
 cases es with
 | nil =>
  cases as with
  | cons a r=>exact (mE hc).elim
  | nil=>simp only[BT.evs] at e3;cases e3;simp[BT.dD] at gp;exact absurd gp hne
 | cons e es =>
  simp only[cX,NG] at hst
  have h30:decide ((e :: es).length+([]:List Qq).length+(if ([]:List Qq).isEmpty then 0 else 1) < 30)=true:=decide_eq_true (by
   simp only[NJ,Pi,RM,if_true] at hlen ⊢;lia)
  refine (Dl PySem.F.plainAttrs_tuple PySem.F.slot_tuple_index PySem.F.type_tuple_index (vR O.hu) (sX (d7 O h2) hm rv (gk h3).1) ha rfl (by
   rw[i9 (es:=e :: es) (by simp only[cX,NG];exact hst),h30];rfl) hl (cY hst.1) (dN hst.2)) pins s σ H Q I ?_
  refine ⟨.inr (.inl ⟨rfl,o,k1,k2,k6⟩),m,s',h,ws,g2,R,S,e3,fun vs H2 m2 x2 R2 r2=>?_⟩
  exact ⟨m2,g2,.p (.tup xs),ws,z,h',R2,rw0 m2 H2,r2,e4,fun v5 H5 m5 x5 R5 r5=>post v5 H5 m5 (x2.trans x5) R5 r5⟩
theorem F2 {X:Cx}{me:BT.Me} (hm:me=.append\/me=.pop\/me=.extend) {o:BT.E}:∀ (m:List NL) (h h2:BT.HH) (H:Hp) (v:V) (x:BT.W) ws r,RH X.K m H h->RW X.prog X.w X.K m H v x->BT.ni x h=true->BT.meW me x ws h2=some r->(∃ σ s,RS X.prog X.w X.K m H σ s/\∃ h0,BT.ev F G o s h0=some (x,h))->tyV X.K "list" v H:=by
 intro m h h2 H v x ws r R rq ok e _
 obtain ⟨n,rfl⟩:=Mv hm e
 exact ty_list R rq ok
theorem MA {X:Cx}{o:BT.E}:∀ (m:List NL) (h h2:BT.HH) (H:Hp) (v:V) (x:BT.W) ws r,RH X.K m H h->RW X.prog X.w X.K m H v x->BT.ni x h=true->BT.meW .sindex x ws h2=some r->(∃ σ s,RS X.prog X.w X.K m H σ s/\∃ h0,BT.ev F G o s h0=some (x,h))->tyV X.K "str" v H:=by
 intro m h h2 H v x ws r R rq _ e _
 cases x with
 | r n=>cases ws<;>(first | exact cR e | simp[BT.meW] at e)
 | k q=>cases ws<;>(first | exact cR e | simp[BT.meW] at e)
 | c _ _=>cases ws<;>(first | exact cR e | simp[BT.meW] at e)
 | x _=>cases ws<;>(first | exact cR e | simp[BT.meW] at e)
 | o q=>cases ws<;>(first | exact cR e | simp[BT.meW] at e)
 | p d =>
  rw[BT.lX] at e
  cases g:BT.dD ws with
  | none=>rw[g] at e;exact cR e
  | some ds =>
   rw[g] at e
   obtain ⟨b,e7,e8⟩:=c6 e
   cases d with
   | str y=>cases rq with | p r=>cases r;exact rfl
   | _=>cases ds<;>exact cR e7
theorem Jx {X:Cx}{me:BT.Me} (hm:me=.count\/me=.lindex) {o:BT.E}:∀ (m:List NL) (h h2:BT.HH) (H:Hp) (v:V) (x:BT.W) ws r,RH X.K m H h->RW X.prog X.w X.K m H v x->BT.ni x h=true->BT.meW me x ws h2=some r->(∃ σ s,RS X.prog X.w X.K m H σ s/\∃ h0,BT.ev F G o s h0=some (x,h))->tyV X.K "list" v H:=by
 intro m h h2 H v x ws r R rq _ e _
 have key:∃ xs,x=.p (.lst xs):=by
  cases x with
  | r n=>rcases hm with rfl | rfl<;>cases ws<;>(first | exact cR e | simp[BT.meW] at e)
  | k q=>rcases hm with rfl | rfl<;>cases ws<;>(first | exact cR e | simp[BT.meW] at e)
  | c _ _=>rcases hm with rfl | rfl<;>cases ws<;>(first | exact cR e | simp[BT.meW] at e)
  | x _=>rcases hm with rfl | rfl<;>cases ws<;>(first | exact cR e | simp[BT.meW] at e)
  | o q=>rcases hm with rfl | rfl<;>cases ws<;>(first | exact cR e | simp[BT.meW] at e)
  | p d =>
   rw[qH] at e
   cases g:BT.dD ws with
   | none=>rw[g] at e;exact cR e
   | some ds =>
    rw[g] at e
    obtain ⟨b,e7,e8⟩:=c6 e
    cases d with
    | lst y=>exact ⟨y,rfl⟩
    | _=>rcases hm with rfl | rfl<;>cases ds<;>exact cR e7
 obtain ⟨xs,rfl⟩:=key
 cases rq with
 | p r =>
  cases r with
  | @lst a vs _ h _=>exact .inl ⟨rfl,vs,LL.sq (h.elim (fun q=>.inl q.1) .inr)⟩
theorem MB (σ:L2.St) (H:Hp) (Q:Bool->Hp->Prop) (q:tDT X F G e σ H Q):tB (tD X F G e) σ H Q:=by
 obtain ⟨m,s,h0,b,h',R,S,ee,post⟩:=q
 refine ⟨m,s,h0,_,h',R,S,ee,fun v H' m' x R' r=>?_⟩
 exact ⟨b,kF r,post H' m' x R'⟩
noncomputable def XE (F:FT) (G:Str->Option BT.W) (X:Cx) (e':BT.E) (e:NH):Prop:=PE X e (tD X F G e')/\(tOK e'=true->PT X e (tDT X F G e')/\∀ op vs p,e=.BoolOp op vs p->PW X e (tDT X F G e'))
noncomputable def XO (F:FT) (G:Str->Option BT.W) (X:Cx) (es':BT.Es) (o:Option NH):Prop:=∃ t,PO X o t ∧
 ∀ σ H (Q:Option Int->Hp->Prop),(∃ m s h l zs h',RH X.K m H h/\RS X.prog X.w X.K m H σ s/\BT.evs F G es' s h=some (zs,h')/\(BT.dD zs).bind BT.oF=some l/\∀ H' m',Ext m H m' H'->RH X.K m' H' h'->Q l H')->t σ H Q
theorem eB (p:PE X e (tD X F G e')) (hb:∀ op vs q,e≠.BoolOp op vs q) (he:∀ whole,isTrue e X.env whole=(do let v ← whole;S7 e.pos;QY [v] (truthy v)):=by intro _;rfl):XE F G X e' e :=
 ⟨p,fun _=>⟨PT.weak (DT p he) MB,fun op vs q z=>absurd z (hb op vs q)⟩⟩
theorem F3:XO F G X .nil none:=⟨_,AQ,fun σ H Q q=>by
 obtain ⟨m,s,h,l,zs,h',R,S,e1,e2,post⟩:=q
 simp only[BT.evs] at e1
 cases e1
 simp[BT.dD,BT.oF] at e2
 subst e2
 exact post H m (.refl _ _) R⟩
theorem F4 (ha:PE X e (tD X F G a)):XO F G X (.cons a .nil) (some e):=by
 refine ⟨_,AR ha,fun σ H Q q=>?_⟩
 obtain ⟨m,s,h,l,zs,h',R,S,e1,e2,post⟩:=q
 simp only[BT.evs] at e1
 obtain ⟨x,h1,e3,e4⟩:=cU e1
 simp only[BT.mq,BT.dH,BT.iy] at e4
 cases e4
 refine ⟨m,s,h,x,h',R,S,e3,fun v H1 m1 x1 R1 r1=>?_⟩
 cases r1 with
 | r _=>simp[BT.dD] at e2
 | k _ _=>simp[BT.dD] at e2
 | kl _ _=>simp[BT.dD] at e2
 | c _ _=>simp[BT.dD] at e2
 | x _=>simp[BT.dD] at e2
 | g _ _=>simp[BT.dD] at e2
 | o _=>simp[BT.dD] at e2
 | p r =>
  cases r<;>simp[BT.dD,BT.oF] at e2
  subst e2
  exact ⟨_,rfl,post H1 m1 x1 R1⟩
theorem iF (ha:PE X e (tD X F G a)) (hs:noStar e=true):PA X [e] (tDs X F G (.cons a .nil)) :=
 PA.weak (gZ ha om (cY hs)) fun σ H Q q=>by
  obtain ⟨m,s,h,z0,h',R,S,ee,post⟩:=cons_of σ H Q q
  exact ⟨m,s,h,z0,h',R,S,ee,fun v H1 m1 x1 R1 r1=>jr (post v H1 m1 x1 R1 r1)⟩
theorem pG (ha:PE X e (tD X F G a)) (hb:PE X f (tD X F G b)) (hs:noStar e=true) (hs2:noStar f=true):PA X [e,f] (tDs X F G (.cons a (.cons b .nil))) :=
 PA.weak (gZ ha (iF hb hs2) (cY hs)) cons_of
noncomputable def Jy (sc:Ow) (oe:NH) (o:BT.E):Prop:=∃ x p,o=.glo x/\oe=.Name x p/\dY sc x=true/\fM x=true
noncomputable def MC (sc:Ow):Tq->Prop
 | .e o oe=>r8 o=false\/Jy sc oe o
 | _=>True
theorem Cw (h:CQ sc N t):MC sc t:=by
 induction h with
 | glo hg hn=>exact .inr ⟨_,_,rfl,rfl,hg,hn⟩
 | _=>first | exact .inl rfl | exact True.intro
theorem F5 (h:CE' sc N o oe):r8 o=false\/Jy sc oe o:=Cw h
theorem sMe (O:Ok X F G sc N) (h1:E1 m o=true) (h2:name=yc m) (h3:dB oe=true) (h6:(apos.endLine==cpos.line)=true) (h7:es.length < 20) (ho:CE' sc N o oe) (ha:CEs sc N as es) (hO:PE X oe (tD X F G o)) (hA:PA X es (tDs X F G as)) :
 PE X (.Call (.Attribute oe name apos) es [] cpos) (tD X F G (.me m o as)):=by
 subst h2
 cases m with
 | append=>exact kG (sc:=sc) (N:=N) O6 PySem.F.slot_list_append PySem.F.type_list_append vP h3 h6 h7 hO ha hA (F2 (.inl rfl))
 | pop=>exact kG (sc:=sc) (N:=N) O6 PySem.F.slot_list_pop PySem.F.type_list_pop Fd h3 h6 h7 hO ha hA (F2 (.inr (.inl rfl)))
 | extend=>exact kG (sc:=sc) (N:=N) O6 PySem.F.slot_list_extend PySem.F.type_list_extend vQ h3 h6 h7 hO ha hA (F2 (.inr (.inr rfl)))
 | sindex=>exact kG (sc:=sc) (N:=N) QE PySem.F.slot_str_index PySem.F.type_str_index vS h3 h6 h7 hO ha hA MA
 | tindex =>
  rcases F5 ho with z | ⟨x,p,rfl,rfl,hg,hn⟩
  ·exact Bool.noConfusion (z.symm.trans h1)
  ·exact we O hg hn h6 h7 ha hA
 | dget=>simp[E1] at h1
 | count=>exact kG (sc:=sc) (N:=N) O6 PySem.F.slot_list_count PySem.F.type_list_count (yN O.hu) h3 h6 h7 hO ha hA (Jx (.inl rfl))
 | lindex=>exact kG (sc:=sc) (N:=N) O6 PySem.F.slot_list_index PySem.F.type_list_index (vV O.hu) h3 h6 h7 hO ha hA (Jx (.inr rfl))
theorem Jz (pe:PE X (.BoolOp .And (x :: r) p) (tD X F G (.and a b))) (w:tOK (.and a b)=true->PW X (.BoolOp .And (x :: r) p) (tDT X F G (.and a b))):XE F G X (.and a b) (.BoolOp .And (x :: r) p) :=
 ⟨pe,fun ht=>⟨(w ht).pt,fun _ _ _ e=>by cases e;exact w ht⟩⟩
theorem sOr (pe:PE X (.BoolOp .Or (x :: r) p) (tD X F G (.or a b))) (w:tOK (.or a b)=true->PW X (.BoolOp .Or (x :: r) p) (tDT X F G (.or a b))):XE F G X (.or a b) (.BoolOp .Or (x :: r) p) :=
 ⟨pe,fun ht=>⟨(w ht).pt,fun _ _ _ e=>by cases e;exact w ht⟩⟩
theorem lG (h:tOK (.and a b)=true):tOK a=true/\tOK b=true:=by
 have h:(tOK a&&tOK b)=true:=h
 simpa only[NG] using h
theorem pH (h:tOK (.or a b)=true):tOK a=true/\tOK b=true:=by
 have h:(tOK a&&tOK b)=true:=h
 simpa only[NG] using h
noncomputable def MX (F:FT) (G:Str->Option BT.W) (sc:Ow) (N:List Str):Tq->Prop
 | .e e' e=>∀ (X:Cx),Ok X F G sc N->XE F G X e' e
 | .es as es=>∀ (X:Cx),Ok X F G sc N->PA X es (tDs X F G as)
 | .o es' o=>∀ (X:Cx),Ok X F G sc N->XO F G X es' o
 | .c cond ifs=>mQ F G sc N cond ifs
 | .i sr sa iter=>∀ (X:Cx),Ok X F G sc N->∀ (tg:NH),nT sr tg=true->PI X tg iter (iD X F G sr sa)
theorem sQ (h:CQ sc N t):MX F G sc N t:=by
 refine @CQ.rec (fun sc N t _=>MX F G sc N t)
  (fun h1 h2 h3 X O=>eB (tU O h1 h2 h3) (fun _ _ _ z=>nomatch z))
  (fun h X O=>eB (Bu h) (fun _ _ _ z=>nomatch z))
  (fun h2 h3 X O=>eB (Bv O h2 h3) (fun _ _ _ z=>nomatch z))
  (fun h _ _ ia ib X O=>eB (PE.weak (HA (opB h) (ia _ O).1 (ib _ O).1) (oZ fun s h=>by simp only[BT.ev])) (fun _ _ _ z=>nomatch z))
  (fun _ ia X O=>eB (PE.weak (wU rG (ia _ O).1) Fp) (fun _ _ _ z=>nomatch z))
  (fun _ ia X O=>⟨PE.weak (DW (ia _ O).1) BA,fun ht=>⟨PT.weak (DV ((ia _ O).2 ht).1) By,fun _ _ _ e=>nomatch e⟩⟩)
  (fun _ _ ia ib X O=>Jz (PE.weak (wH (ia _ O).1 (wG (ib _ O).1)) tY) fun ht=>PW.weak (wF ((ia _ O).2 (lG ht).1).1 (Ay ((ib _ O).2 (lG ht).2).1)) tZ)
  (fun _ _ ia ib X O=>Jz (PE.weak (wH (ia _ O).1 (ib _ O).1) tY) fun ht=>PW.weak (wF ((ia _ O).2 (lG ht).1).1 (((ib _ O).2 (lG ht).2).2 _ _ _ rfl)) tZ)
  (fun _ _ ia ib X O=>sOr (PE.weak (Dh (ia _ O).1 (wG (ib _ O).1)) yz) fun ht=>PW.weak (De ((ia _ O).2 (pH ht).1).1 (DU ((ib _ O).2 (pH ht).2).1)) yC)
  (fun _ _ ia ib X O=>sOr (PE.weak (Dh (ia _ O).1 (ib _ O).1) yz) fun ht=>PW.weak (De ((ia _ O).2 (pH ht).1).1 (((ib _ O).2 (pH ht).2).2 _ _ _ rfl)) yC)
  (fun h _ _ hm ia ib X O=>⟨PE.weak (tF (opC O h) (ia _ O).1 (ib _ O).1 hm) (oZ fun s h=>by simp only[BT.ev]),fun _=>⟨PT.weak (tG (opC O h) (ia _ O).1 (ib _ O).1 hm) (mF (oZ fun s h=>by simp only[BT.ev])),fun _ _ _ e=>nomatch e⟩⟩)
  (fun h h' _ _ _ hm ia ib ic X O=>⟨PE.weak (wX (opC O h) (opC O h') (ia _ O).1 (ib _ O).1 (ic _ O).1 hm) qJ,fun _=>⟨PT.weak (wY (opC O h) (opC O h') (ia _ O).1 (ib _ O).1 (ic _ O).1 hm) (mF qJ),fun _ _ _ e=>nomatch e⟩⟩)
  (fun h _ _ _ ic ia ib X O=>⟨PE.weak (wI ((ic _ O).2 h).1 (ia _ O).1 (ib _ O).1) Fo,fun ht=>nomatch ht⟩)
  (fun _ ia X O=>⟨PE.weak (Ei (ia _ O)) Fv,fun ht=>nomatch ht⟩)
  (fun _ ia X O=>⟨PE.weak (Ej (ia _ O)) Fw,fun ht=>nomatch ht⟩)
  (fun _ _ hs ia ii X O=>eB (PE.weak (HR Fc (ia _ O).1 (ii _ O).1 (yw hs)) (oZ fun s h=>by simp only[BT.ev])) (fun _ _ _ z=>nomatch z))
  (fun _ _ _ ia il iu X O=>eB (by
   obtain ⟨tl,hl1,hl2⟩:=il _ O
   obtain ⟨tu,hu1,hu2⟩:=iu _ O
   exact PE.weak (xC osl (ia _ O).1 hl1 hu1) (Fq hl2 hu2)) (fun _ _ _ z=>nomatch z))
  (fun hg hn ha ia X O=>eB (yD O hg hn ha (ia _ O)) (fun _ _ _ z=>nomatch z))
  (fun hu hb hg hs _ ia X O=>eB (Ft O hu hb hg (by simp[cX,hs]) (iF (ia _ O).1 hs)) (fun _ _ _ z=>nomatch z))
  (fun hb hg hg2 hs _ ia X O=>eB (yE O hb hg hg2 hs (ia _ O).1) (fun _ _ _ z=>nomatch z))
  (fun h1 h2 h3 h6 h7 ho ha io ia X O=>eB (sMe O h1 h2 h3 h6 h7 ho ha (io _ O).1 (ia _ O)) (fun _ _ _ z=>nomatch z))
  (fun hu hk ht hz hs _ _ _ ii ic ie X O=>⟨B7 O hu hk ht hs (ii _ O _ hz) ic fun X' O'=>(ie _ O').1,fun ht=>nomatch ht⟩)
  (fun hb hf _ ia X O=>eB (BD (sc:=sc) (N:=N) hb hf (ia _ O).1) (fun _ _ _ z=>nomatch z))
  (fun h3 h6 h7 _ ha io ia X O=>eB (yG O h3 h6 h7 (io _ O).1 ha (ia _ O)) (fun _ _ _ z=>nomatch z))
  (fun hk _ ia X O=>eB (BE hk (ia _ O).1) (fun _ _ _ z=>nomatch z))
  (fun hu hb hg hs1 hs2 _ _ ia ib X O=>eB (BH O hu hb hg (by simp[cX,hs1,hs2]) (pG (ia _ O).1 (ib _ O).1 hs1 hs2)) (fun _ _ _ z=>nomatch z))
  (fun hg hn ha ia X O=>eB (yH O hg hn ha (ia _ O)) (fun _ _ _ z=>nomatch z))
  (fun _ ia X O=>eB (F0 (ia _ O).1 (PE.weak (wU rG oh) fun σ H Q q=>⟨_,rfl,q⟩)) (fun _ _ _ z=>nomatch z))
  (fun h3 h6 hs _ _ io ia X O=>eB (o8 QE PySem.F.slot_str_join PySem.F.type_str_join (ty_str (k:=.join) (fun q=>nomatch q) fun ds d e=>let ⟨x,ys,ts,h,_⟩:=qM e;⟨x,_,h⟩) BZ h3 h6 (by simp[cX,hs]) (by simp) (io _ O).1 (iF (ia _ O).1 hs)) (fun _ _ _ z=>nomatch z))
  (fun h3 h6 hs _ _ io ia X O=>eB (o8 QE PySem.F.slot_str_split PySem.F.type_str_split (ty_str (k:=.split) (fun q=>nomatch q) fun ds d e=>let ⟨x,y,h,_⟩:=nX e;⟨x,_,h⟩) yU h3 h6 (by simp[cX,hs]) (by simp) (io _ O).1 (iF (ia _ O).1 hs)) (fun _ _ _ z=>nomatch z))
  (fun h3 h6 hs _ _ io ia X O=>eB (o8 Sn Pd SN ty_dict yZ h3 h6 (by simp[cX,hs]) (by simp) (io _ O).1 (iF (ia _ O).1 hs)) (fun _ _ _ z=>nomatch z))
  (fun h3 h6 hs hs2 _ _ _ io ia ib X O=>eB (o8 Sn Pd SN ty_dict yZ h3 h6 (by simp[cX,hs,hs2]) (by simp) (io _ O).1 (pG (ia _ O).1 (ib _ O).1 hs hs2)) (fun _ _ _ z=>nomatch z))
  (fun hg hs _ ia X O=>eB (PE.weak (gc FJ (d7 O hg) (O.blt _ (by decide)) (by decide +kernel) (iF (ia _ O).1 hs) (by decide) (by decide) (cY hs) rfl) fun σ H Q z=>yV z) (fun _ _ _ z=>nomatch z))
  (fun hg hs _ ia X O=>eB (PE.weak (gc FL (d7 O hg) (O.blt _ (by decide)) (by decide +kernel) (iF (ia _ O).1 hs) (by decide) (by decide) (cY hs) rfl) fun σ H Q z=>yV z) (fun _ _ _ z=>nomatch z))
  (fun hu hg hs _ ia X O=>eB (PE.weak (gF (FM (O.calm hu)) (d7 O hg) (O.blt _ (by decide)) (by decide +kernel) (iF (ia _ O).1 hs) (by decide) (by decide) (cY hs) rfl) fun σ H Q z=>yV z) (fun _ _ _ z=>nomatch z))
  (fun _ _ hm ia ib X O=>⟨PE.weak (tF DA (ia _ O).1 (ib _ O).1 hm) yX,fun _=>⟨PT.weak (tG DA (ia _ O).1 (ib _ O).1 hm) (mF yX),fun _ _ _ e=>nomatch e⟩⟩)
  (fun h1 h2 X O=>eB (Cv h1 h2) (fun _ _ _ z=>nomatch z))
  (fun X O=>PA.weak om fun σ H Q q=>jr q)
  (fun hs _ _ ia ir X O=>PA.weak (gZ (ia _ O).1 (ir _ O) (cY hs)) cons_of)
  (fun X O=>F3)
  (fun _ ia X O=>F4 (ia _ O).1)
  (.inl ⟨rfl,rfl⟩)
  (fun ht _ ia=>.inr ⟨_,_,rfl,rfl,fun X' O'=>((ia _ O').2 ht).1⟩)
  (fun hg hs _ ia X O _ _=>yQ O hg hs (iF (ia _ O).1 hs))
  (fun hg hs hs2 hs3 _ _ _ ia ib ic X O _ _=>zc O hg hs hs2 hs3 (PA.weak (gZ (ia _ O).1 (pG (ib _ O).1 (ic _ O).1 hs2 hs3) (cY hs)) cons_of))
  (fun hg hs _ ia X O _ _=>BU O hg hs (ia _ O).1)
  (fun _ ia X O _ _=>FZ (ia _ O).1)
  (fun hg hs hs2 _ _ ia ib X O _ hz=>Cr O hz hg hs hs2 (pG (ia _ O).1 (ib _ O).1 hs hs2))
  (fun _ ia X O _ _=>BQ (ia _ O).1)
  sc N t h
theorem sE (h:CE' sc N e' e) (O:Ok X F G sc N):PE X e (tD X F G e'):=(sQ h X O).1
theorem sT (h:CE' sc N e' e) (O:Ok X F G sc N) (ht:tOK e'=true):PT X e (tDT X F G e')/\∀ op vs p,e=.BoolOp op vs p->PW X e (tDT X F G e'):=(sQ h X O).2 ht
theorem sCC {cond:BT.Es} (h:CC sc N cond ifs):mQ F G sc N cond ifs:=sQ h
theorem sCI (h:CI sc N sr sa iter) (O:Ok X F G sc N) (hz:nT sr tg=true):PI X tg iter (iD X F G sr sa):=sQ h X O tg hz
end
end BS
end
section
namespace BS
open PySem PySem.Spec PyProof.Rows L2
open Classical in
section
end
section
variable {F:FT}{G:Str->Option BT.W}
section
variable {X:Cx}{cl:List (Str×NL)}{H3 H5:Hp}{s3 s5:ND}{m2 m5:List NL}
end
end
end BS
end
section
namespace BS
open PySem PySem.Spec PyProof.Rows L2
noncomputable def kL:NH->Bool
 | .ListComp _ _ _ _=>false
 | .SetComp _ _ _ _=>false
 | .DictComp _ _ _ _ _=>false
 | _=>true
noncomputable def swB (sc scope:Ow) (x:Str) (np pos:Pos):Bool :=
 (if sc.kind.isAnnotationScope then ScopeKind.function else sc.kind)==.function&&sc.names.lookup x==some .local&&np.line==pos.line&&!(scope.names.any fun (n,k)=>n==x&&(k==.local||k==.cell))
mutual
inductive CS (sc:Ow) (N:List Str):BT.S->Ou->Prop where
 | setc {i:Nat}{x:Str}{mu:Bool}{sr:BT.Sr}{sa:BT.Es}{tg:List Str}{fv:List (Nat×Str)}{cond:BT.Es}{elt:BT.E}{te iter elt':NH}{ifs:List NH}{scope:Ow}{pos np p:Pos} (hu:gw N=true) (h1:N[i]?=some x) (h3:(sc.names.lookup x==some .cell||swB sc scope x np pos)=true)
  (hk:jF sc N tg fv scope=true) (ht:qE (dW scope sc) tg te=true) (hz:nT sr te=true) (hs:jD iter=true) (hi:CI sc N sr sa iter) (hc:CC (dW scope sc) (tg++fv.map (·.2)) cond ifs) (he:CE' (dW scope sc) (tg++fv.map (·.2)) elt elt') :
  CS sc N (.set i (.comp mu sr sa tg fv cond elt)) (.Assign [.Name x np] (.ListComp elt' [⟨te,iter,ifs,0⟩] scope pos) p)
 | set {i:Nat}{x:Str}{e:BT.E}{v:NH}{np p:Pos} (h1:N[i]?=some x) (h2:mL sc x=true) (h3:kL v=true) (he:CE' sc N e v):CS sc N (.set i e) (.Assign [.Name x np] v p)
 | unp {tg:List (Nat×Str)}{e:BT.E}{es:List NH}{k:Nat}{fe:NH}{args:List NH}{kw:List Qq}{tp cp p:Pos} (hu:gw N=true) (ht:CT sc N tg (.Tuple es k tp)) (he:CE' sc N e (.Call fe args kw cp)):CS sc N (.unp tg e) (.Assign [.Tuple es k tp] (.Call fe args kw cp) p)
 | put {i:Nat}{x:Str}{k e:BT.E}{ke v:NH}{np sp p:Pos} (h1:N[i]?=some x) (h2:qD sc x=true) (h3:fM x=true) (h4:kL v=true) (h5:lC ke=true) (hk:CE' sc N k ke) (he:CE' sc N e v):CS sc N (.put i k e) (.Assign [.Subscript (.Name x np) ke sp] v p)
 | aug {i:Nat}{x:Str}{o:BT.Bin}{op:QK}{e:BT.E}{v:NH}{np p:Pos} (h1:N[i]?=some x) (h2:mL sc x=true) (h3:yI o op=true) (he:CE' sc N e v):CS sc N (.aug i o e) (.AugAssign (.Name x np) op v p)
 | setf {o e:BT.E}{f:Str}{oe v:NH}{np p:Pos} (h1:attrName f=true) (h2:kL v=true) (ho:CE' sc N o oe) (he:CE' sc N e v):CS sc N (.setf o f e) (.Assign [.Attribute oe f np] v p)
 | augf {o e:BT.E}{f:Str}{b:BT.Bin}{op:QK}{oe v:NH}{np p:Pos} (h1:attrName f=true) (h3:yI b op=true) (ho:CE' sc N o oe) (he:CE' sc N e v):CS sc N (.augf o f b e) (.AugAssign (.Attribute oe f np) op v p)
 | ex {e:BT.E}{v:NH}{p:Pos} (h:kL v=true) (he:CE' sc N e v):CS sc N (.ex e) (.Expr v p)
 | ret {e:BT.E}{v:NH}{p:Pos} (he:CE' sc N e v):CS sc N (.ret e) (.Return (some v) p)
 | ife {c:BT.E}{a b:BT.S}{t:NH}{xs ys:List Ou}{p:Pos} (h:tOK c=true) (hc:CE' sc N c t) (ha:CSs sc N a xs) (hb:CSs sc N b ys):CS sc N (.ife c a b) (.If t xs ys p)
 | whl {c:BT.E}{b:BT.S}{t:NH}{xs:List Ou}{p:Pos} (h:tOK c=true) (hc:CE' sc N c t) (hb:CSs sc N b xs):CS sc N (.whl c b) (.While t xs [] p)
 | for {tg:List (Nat×Str)}{sr:BT.Sr}{sa:BT.Es}{b:BT.S}{te iter:NH}{xs:List Ou}{p:Pos} (hu:gw N=true) (ht:CT sc N tg te) (hi:CI sc N sr sa iter) (hz:nT sr te=true) (hs:jD iter=true) (hb:CSs sc N b xs):CS sc N (.for tg sr sa b) (.For te iter xs [] p)
 | brk {p:Pos}:CS sc N .brk (.Break p)
 | cnt {p:Pos}:CS sc N .cnt (.Continue p)
 | bad {st:Ou}:CS sc N .bad st
inductive CSs (sc:Ow) (N:List Str):BT.S->List Ou->Prop where
 | nil:CSs sc N .nil []
 | one {s:BT.S}{st:Ou} (h:CS sc N s st):CSs sc N s [st]
 | cons {a b:BT.S}{st st2:Ou}{r:List Ou} (h:CS sc N a st) (hr:CSs sc N b (st2 :: r)):CSs sc N (.seq a b) (st :: st2 :: r)
end
noncomputable def j5 (X:Cx) (m:List NL) (H:Hp) (fl:BT.Fl) (D:Ends):Prop:=match fl with
 | .nx s' h'=>∀ σ' H' m',Ext m H m' H'->RH X.K m' H' h'->RS X.prog X.w X.K m' H' σ' s'->D.nx σ' H'
 | .rt z h'=>∀ v H' m',Ext m H m' H'->RH X.K m' H' h'->RW X.prog X.w X.K m' H' v z->D.rt v H'
 | .bk s' h'=>∀ σ' H' m',Ext m H m' H'->RH X.K m' H' h'->RS X.prog X.w X.K m' H' σ' s'->D.bk σ' H'
 | .ct s' h'=>∀ σ' H' m',Ext m H m' H'->RH X.K m' H' h'->RS X.prog X.w X.K m' H' σ' s'->D.ct σ' H'
theorem j5.ext {D:Ends} (x:Ext m H m' H') (p:j5 X m H fl D):j5 X m' H' fl D:=by
 cases fl<;>exact fun a b c y=>p a b c (x.trans y)
inductive tDS (X:Cx) (F:FT) (G:Str->Option BT.W) (S:BT.S) (D:Ends) (σ:L2.St) (H:Hp):Prop where
 | mk (m:List NL) (s:BT.Sl) (h:BT.HH) (fl:BT.Fl) (R:RH X.K m H h) (r:RS X.prog X.w X.K m H σ s) (e:BT.evS F G S s h=some fl) (p:j5 X m H fl D):tDS X F G S D σ H
theorem PS.weak {st:Ou} (h:PS X st t) (q:∀ D σ H,t' D σ H->t D σ H):PS X st t':=fun pins s σ H D I hw=>h pins s σ H D I (q _ _ _ hw)
theorem PSs.weak {st:List Ou} (h:PSs X st t) (q:∀ D σ H,t' D σ H->t D σ H):PSs X st t':=fun pins s σ H D I hw=>h pins s σ H D I (q _ _ _ hw)
section
theorem zj (D:Ends) (σ:L2.St) (H:Hp) (q:tDS X F G (.seq a b) D σ H):Hj (tDS X F G a) (tDS X F G b) D σ H:=by
 obtain ⟨m,s,h,fl,R,S,e,post⟩:=q
 simp only[BT.evS] at e
 cases g:BT.evS F G a s h with
 | none=>rw[g] at e;exact cR e
 | some f1 =>
  rw[g] at e
  refine ⟨m,s,h,f1,R,S,g,?_⟩
  cases f1 with
  | nx s1 h1=>exact fun σ1 H1 m1 x1 R1 S1=>⟨m1,s1,h1,fl,R1,S1,e,post.ext x1⟩
  | rt z h1=>cases e;exact post
  | bk s1 h1=>cases e;exact post
  | ct s1 h1=>cases e;exact post
theorem kX {X:Cx}{S0:BT.S}{a:BT.E}{k:BT.Sl->BT.W->BT.HH->Option BT.Fl} (he:∀ s h,BT.evS F G S0 s h=BT.bnd (BT.ev F G a s h) (k s)) {D:Ends}{σ:L2.St}{H:Hp} (q:tDS X F G S0 D σ H) {R':V->Hp->Prop}
 (h1:∀ m s h x fl v H1,RH X.K m H1 h->RS X.prog X.w X.K m H1 σ s->RW X.prog X.w X.K m H1 v x->k s x h=some fl->j5 X m H1 fl D->R' v H1):tD X F G a σ H R':=by
 obtain ⟨m,s,h,fl,R,S,ee,post⟩:=q
 rw[he] at ee
 obtain ⟨x,g,e1,e2⟩:=cU ee
 exact ⟨m,s,h,x,g,R,S,e1,fun v H1 m1 x1 R1 r1=>h1 m1 s g x fl v H1 R1 (S.ext x1) r1 e2 (post.ext x1)⟩
theorem uA (h:BT.tst x k=some fl):∃ b g,x=some (.p (.bl b),g)/\k b g=some fl:=by
 unfold BT.tst at h
 obtain ⟨w,g,e1,e2⟩:=cU h
 unfold BT.IS at e2
 cases w with
 | p d =>
  cases d<;>simp only at e2<;>try contradiction
  exact ⟨_,g,e1,e2⟩
 | r n=>exact cR e2
 | k q=>exact cR e2
 | c _ _=>exact cR e2
 | x _=>exact cR e2
 | o q=>exact cR e2
theorem lH (h:kL e=true):Qv e t l env=pure false:=by
 cases e<;>first | rfl | exact BT.dG h
theorem Cy (h:kL e=true):swapsWithSole [t] e l env=pure false:=lH h
theorem sI (h:lC i=true):∀ v,Sy (.Subscript o i pos) env v=(do
 let ov ← QY [v] (eval o env)
 let iv ← QY [v,ov] (eval i env)
 S7 pos
 QY [v,ov,iv] (setItem ov iv v)
 release [v,ov,iv] []):=by
 intro v
 cases i<;>first | rfl | exact BT.dG h
theorem F6 (D:Ends) (σ:L2.St) (H:Hp) (q:tDS X F G (.whl c b) D σ H):wO (tDT X F G c) (tDS X F G b) D σ H:=by
 obtain ⟨m0,s,h,fl,R,S,e,post⟩:=q
 simp only[BT.evS] at e
 refine ⟨fun n σ H=>∃ m s h,RH X.K m H h/\RS X.prog X.w X.K m H σ s/\BT.gu (BT.ev F G c) (BT.evS F G b) n s h=some fl/\j5 X m H fl D,⟨BT.turns,m0,s,h,R,S,e,post⟩,?_⟩
 rintro n σ1 H1 ⟨m,s,h,R,S,e,post⟩
 cases n with
 | zero=>exact cR e
 | succ n =>
  rw[BT.gu] at e
  obtain ⟨t,g,e1,e2⟩:=uA e
  refine ⟨m,s,h,t,g,R,S,e1,fun H2 m2 x2 R2=>?_⟩
  cases t with
  | false =>
   rw[BT.EW] at e2
   cases e2
   rw[if_neg (by decide)]
   exact post σ1 H2 m2 x2 R2 (S.ext x2)
  | true =>
   rw[BT.oM] at e2
   rw[if_pos rfl]
   refine ⟨fun σ' H'=>∃ m' s' h',RH X.K m' H' h'/\RS X.prog X.w X.K m' H' σ' s'/\BT.gu (BT.ev F G c) (BT.evS F G b) n s' h'=some fl/\j5 X m' H' fl D,fun σ' H' ⟨m',s',h',a1,a2,a3,a4⟩=>⟨n,PC n,m',s',h',a1,a2,a3,a4⟩,?_⟩
   cases gb:BT.evS F G b s g with
   | none=>rw[gb] at e2;exact cR e2
   | some f1 =>
    rw[gb] at e2
    refine ⟨m2,s,g,f1,R2,S.ext x2,gb,?_⟩
    cases f1 with
    | nx s1 h1=>exact fun σ3 H3 m3 x3 R3 S3=>⟨m3,s1,h1,R3,S3,e2,(post.ext x2).ext x3⟩
    | ct s1 h1=>exact fun σ3 H3 m3 x3 R3 S3=>⟨m3,s1,h1,R3,S3,e2,(post.ext x2).ext x3⟩
    | bk s1 h1=>cases e2;exact fun σ3 H3 m3 x3 R3 S3=>post σ3 H3 m3 (x2.trans x3) R3 S3
    | rt z h1=>cases e2;exact fun v H3 m3 x3 R3 r3=>post v H3 m3 (x2.trans x3) R3 r3
theorem F7 (D:Ends) (σ:L2.St) (H:Hp) (q:tDS X F G (.aug i o e) D σ H):Hw i (tD X F G e) (Fx o) D σ H:=by
 obtain ⟨m,s,h,fl,R,S,ee,post⟩:=q
 simp only[BT.evS] at ee
 obtain ⟨y,g,e1,e2⟩:=cU ee
 unfold BT.IY at e2
 have hs:∃ d d' z,s[i]?=some (some (.p d))/\y=.p d'/\BT.lU o d d'=some z/\fl=.nx (s.set i (some (.p z))) g:=by
  cases g1:s[i]? with
  | none=>rw[g1] at e2;cases y<;>exact cR e2
  | some ow =>
   cases ow with
   | none=>rw[g1] at e2;cases y<;>exact cR e2
   | some w0 =>
    rw[g1] at e2
    cases w0<;>cases y<;>simp only at e2<;>try contradiction
    obtain ⟨z,e3,e4⟩:=c6 e2
    exact ⟨_,_,z,rfl,rfl,e3,e4.symm⟩
 obtain ⟨d,d',z,g1,rfl,e3,rfl⟩:=hs
 obtain ⟨a,b,k,rfl,rfl,rfl⟩:=ud e3
 obtain ⟨v,hv,rv⟩:=S.get i _ g1
 have ev:v=.int a:=by cases rv with | p rv=>cases rv;rfl
 subst ev
 refine ⟨_,hv,m,s,h,_,g,R,S,e1,fun u H1 m1 x1 R1 r1=>?_⟩
 cases r1 with
 | p r1 =>
  cases r1
  exact ⟨a,b,k,rfl,rfl,e3,post _ H1 m1 x1 R1 ((S.ext x1).set (.p (.int k)))⟩
theorem wg (e:BT.oN s f v x h=some fl):∃ n c fs,x=.o n/\BT.oat h n=some (c,fs)/\BT.attrOk v=true/\fs.length < 1000/\fl=.nx s (h.set n (.o c (BT.eY f v fs))):=by
 cases x with
 | o n =>
  rw[BT.xW] at e
  cases g:BT.oat h n with
  | none=>rw[g] at e;exact cR e
  | some q =>
   obtain ⟨c,fs⟩:=q
   rw[g] at e
   simp only at e
   obtain ⟨c1,e⟩:=dh e
   cases e
   simp only[NG,decide_eq_true_eq] at c1
   exact ⟨n,c,fs,rfl,g,c1.1,c1.2,rfl⟩
 | p d=>exact cR e
 | r n=>exact cR e
 | k q=>exact cR e
 | c _ _=>exact cR e
 | x _=>exact cR e
theorem qT {D:Ends} (R:RH X.K m H h) (S:RS X.prog X.w X.K m H σ s) (hn:m[n]?=some a) (h1:H a=some (.ins C dx vs)) (h2:nU X.K c C) (h3:RFs X.K m H vs fs) (ra:RA X.K m H v y)
 (post:j5 X m H (.nx s (h.set n (.o c (BT.eY f y fs)))) D):D.nx σ (upd H a (.ins C dx (L2.eY f v vs))):=by
 have x:Ext m H m (upd H a (.ins C dx (L2.eY f v vs))):=mz (NZ hn) ⟨_,h1,rfl⟩
 exact post σ _ m x (R.setC hn ⟨_,h1,rfl⟩ ⟨C,dx,_,dU,h2,(RFs.put ra h3).ext x⟩) (S.ext x)
theorem Cz {X:Cx}{o e:BT.E}{f:Str} (hf:attrName f=true) (D:Ends) (σ:L2.St) (H:Hp) (q:tDS X F G (.setf o f e) D σ H):HJ X.K (tD X F G o) (tD X F G e) f D σ H:=by
 refine kX (k:=fun s=>BT.xX (BT.ev F G o s) s f) (fun s h=>by simp only[BT.evS]) q fun m s h y fl v H1 R S r e1 post=>?_
 rw[BT.xY] at e1
 obtain ⟨x,g,e2,e3⟩:=cU e1
 obtain ⟨n,c,fs,rfl,g1,ok,hl,rfl⟩:=wg e3
 refine ⟨m,s,h,.o n,g,R,S,e2,fun u H2 m2 x2 R2 r2=>?_⟩
 cases r2 with
 | @o a _ hn =>
  obtain ⟨C,dx,vs,q1,q2,q3⟩:=R2.qG _ _ _ _ hn g1
  exact ⟨a,C,dx,vs,rfl,q1,q2.cls,q2.no f hf,by rw[q3.length];exact hl,qT R2 (S.ext x2) hn q1 q2 q3 ((r.ext x2).ra ok) (post.ext x2)⟩
theorem zk (e:BT.tQ ee s f op x h=some fl):∃ n c fs d y g fs' z,x=.o n/\BT.oat h n=some (c,fs)/\BT.iP f fs=some (.p d)/\ee h=some (.p y,g)/\BT.oat g n=some (c,fs')/\BT.lU op d y=some z/\fs'.length < 1000/\fl=.nx s (g.set n (.o c (BT.eY f (.p z) fs'))):=by
 cases x with
 | o n =>
  rw[BT.Bg] at e
  cases g1:BT.oat h n with
  | none=>rw[g1] at e;exact cR e
  | some q =>
   obtain ⟨c,fs⟩:=q
   rw[g1] at e
   simp only at e
   cases g2:BT.iP f fs with
   | none=>rw[g2] at e;exact cR e
   | some w0 =>
    rw[g2] at e
    cases w0 with
    | p d =>
     simp only at e
     obtain ⟨y,g,e1,e2⟩:=cU e
     cases y with
     | p y =>
      rw[BT.xZ] at e2
      cases g3:BT.oat g n with
      | none=>rw[g3] at e2;exact cR e2
      | some q =>
       obtain ⟨c',fs'⟩:=q
       rw[g3] at e2
       simp only at e2
       cases g4:BT.lU op d y with
       | none=>rw[g4] at e2;exact cR e2
       | some z =>
        rw[g4] at e2
        simp only at e2
        obtain ⟨c1,e2⟩:=dh e2
        cases e2
        obtain ⟨rfl,c1⟩:=c1
        exact ⟨n,c',fs,d,y,g,fs',z,rfl,g1,g2,e1,g3,g4,c1,rfl⟩
     | r n=>exact cR e2
     | k q=>exact cR e2
     | c _ _=>exact cR e2
     | x _=>exact cR e2
     | o n=>exact cR e2
    | r n=>exact cR e
    | k q=>exact cR e
    | c _ _=>exact cR e
    | x _=>exact cR e
    | o n=>exact cR e
 | p d=>exact cR e
 | r n=>exact cR e
 | k q=>exact cR e
 | c _ _=>exact cR e
 | x _=>exact cR e
theorem CA {X:Cx}{o e:BT.E}{f:Str}{b:BT.Bin} (hf:attrName f=true) (D:Ends) (σ:L2.St) (H:Hp) (q:tDS X F G (.augf o f b e) D σ H):tH X.K (tD X F G o) (tD X F G e) (Fx b) f D σ H:=by
 refine kX (k:=fun s=>BT.tQ (BT.ev F G e s) s f b) (fun s h=>by simp only[BT.evS]) q fun m s h y fl v H1 R S r e1 post=>?_
 obtain ⟨n,c,fs,d,y,g,fs',z,rfl,g1,g2,e2,g3,g4,hl,rfl⟩:=zk e1
 obtain ⟨i,j,k,rfl,rfl,rfl⟩:=ud g4
 cases r with
 | @o a _ hn =>
  obtain ⟨C,dx,vs,q1,q2,q3⟩:=R.qG _ _ _ _ hn g1
  obtain ⟨u,l,ra⟩:=q3.get g2
  have eu:u=.int i:=by cases ra with | p ra=>cases ra;rfl
  subst eu
  refine ⟨a,C,dx,vs,_,rfl,q1,q2.cls,q2.no f hf,l,m,s,h,_,g,R,S,e2,fun u2 H2 m2 x2 R2 r2=>?_⟩
  cases r2 with
  | p r2 =>
   cases r2
   obtain ⟨C',dx',vs',p1,p2,p3⟩:=R2.qG _ _ _ _ (x2.ix hn) g3
   cases p2.cn.inj q2.cn
   exact ⟨i,j,k,rfl,rfl,g4,dx',vs',p1,by rw[p3.length];exact hl,qT R2 (S.ext x2) (x2.ix hn) p1 p2 p3 (.p (.int k)) (post.ext x2)⟩
theorem F8 {X:Cx}{i:Nat}{k e:BT.E} (D:Ends) (σ:L2.St) (H:Hp) (q:tDS X F G (.put i k e) D σ H):wL (tD X F G e) (Hv (tD X F G (.var i)) (tD X F G k) Dj) D σ H:=by
 refine kX (k:=fun s=>BT.EY (BT.ev F G k s) s i) (fun s h=>by simp only[BT.evS]) q fun m s h y fl v H1 R S r e1 post=>?_
 unfold BT.EY at e1
 cases y with
 | r n=>exact cR e1
 | k q=>exact cR e1
 | c _ _=>exact cR e1
 | x _=>exact cR e1
 | o q=>exact cR e1
 | p d =>
  cases g:s[i]? with
  | none=>rw[g] at e1;exact cR e1
  | some o =>
   cases o with
   | none=>rw[g] at e1;exact cR e1
   | some wz =>
    cases wz with
    | p _=>rw[g] at e1;exact cR e1
    | k _=>rw[g] at e1;exact cR e1
    | c _ _=>rw[g] at e1;exact cR e1
    | x _=>rw[g] at e1;exact cR e1
    | o _=>rw[g] at e1;exact cR e1
    | r n =>
     rw[g] at e1
     simp only at e1
     obtain ⟨q,h2,e2,e3⟩:=cU e1
     refine ⟨m,s,h,.r n,h,R,S,by simp only[BT.ev,g],fun o H2 m2 x2 R2 r2=>⟨m2,s,h,q,h2,R2,S.ext x2,e2,fun ki H3 m3 x3 R3 r3=>?_⟩⟩
     unfold BT.Dq at e3
     cases q with
     | r _=>exact cR e3
     | k _=>exact cR e3
     | c _ _=>exact cR e3
     | x _=>exact cR e3
     | o _=>exact cR e3
     | p dk =>
      cases g2:BT.lat h2 n with
      | none=>rw[g2] at e3;cases dk<;>exact cR e3
      | some xs =>
       rw[g2] at e3
       cases dk with
       | int j =>
        simp only at e3
        cases g3:BT.place xs.length j with
        | none=>rw[g3] at e3;exact cR e3
        | some mm =>
         rw[g3] at e3
         cases e3
         have r2':=r2.ext x3
         cases r2' with
         | @r a _ hn =>
          cases r3 with
          | p r3 =>
           cases r3
           obtain ⟨us,hH,ru⟩:=R3.cell n a xs hn g2
           refine ⟨a,us,j,mm,rfl,rfl,hH,by rw[ru.length];exact g3,?_⟩
           have x4:Ext m3 H3 m3 (upd H3 a (.lst (us.set mm v))):=gP (NZ hn) hH
           cases r with
           | p r=>exact post σ _ m3 ((x2.trans x3).trans x4) (R3.set hn hH (RDs.set ((r.ext x2).ext x3) mm ru)) (((S.ext x2).ext x3).ext x4)
       | _=>exact cR e3
end
section
theorem F9 (hg:GOk X tg g) (D:Ends) (σ:L2.St) (H:Hp) (q:tDS X F G (.for tg sr sa b) D σ H):Hz (iD X F G sr sa) g (tDS X F G b) D σ H:=by
 obtain ⟨m,s,h,fl,R,S,e,post⟩:=q
 simp only[BT.evS] at e
 obtain ⟨ws,h1,e1,e2⟩:=cU e
 unfold BT.kFor at e2
 cases g1:(BT.rds ws h1).bind (BT.fP sr) with
 | none=>rw[g1] at e2;exact cR e2
 | some ds =>
  rw[g1] at e2
  simp only at e2
  split at e2
  ·rename_i ca
   refine ⟨m,s,h,ws,h1,ds,R,S,e1,g1,.inl ca,fun H1 m1 J x1 R1 it=>?_⟩
   refine ⟨fun i n σ H=>i<=ds.length/\n=ds.length - i/\∃ m s h,Ext m1 H1 m H/\RH X.K m H h/\RS X.prog X.w X.K m H σ s/\BT.dZ (BT.evS F G b) tg (ds.drop i) s h=some fl/\j5 X m H fl D,
    ⟨ds.length,Qo _,rfl,m1,s,h1,.refl _ _,R1,S.ext x1,by rw[List.drop_zero];exact e2,post.ext x1⟩,?_⟩
   rintro i n σ2 H2 ⟨hi,rfl,m2,s2,h2,x2,R2,S2,e3,post2⟩
   by_cases c:i < ds.length
   ·refine .inr ⟨it.go m2 H2 h2 i x2 R2 (mJ ca) c,_,fun σ' H' z=>⟨ds.length - (i+1),by lia,c,rfl,z⟩,fun x H3 y=>?_⟩
    obtain ⟨x3,k3,r3⟩:=it.yld m2 H2 h2 i x H3 ds[i] x2 R2 (mJ ca) (NN c) y
    rw[SH c,BT.dZ] at e3
    cases g2:BT.target tg.length ds[i] with
    | none=>rw[g2] at e3;exact cR e3
    | some dd =>
     rw[g2] at e3
     simp only at e3
     have R3:=R2.ext x3 k3
     refine hg m2 H3 σ2 s2 x ds[i] dd _ (S2.ext x3) r3 g2 fun σ4 S4=>?_
     cases g3:BT.evS F G b (BT.sets tg dd s2) h2 with
     | none=>rw[g3] at e3;exact cR e3
     | some f1 =>
      rw[g3] at e3
      refine ⟨m2,_,h2,f1,R3,S4,g3,?_⟩
      cases f1 with
      | nx s5 h5=>exact fun σ5 H5 m5 x5 R5 S5=>⟨m5,s5,h5,(x2.trans x3).trans x5,R5,S5,e3,(post2.ext x3).ext x5⟩
      | ct s5 h5=>exact fun σ5 H5 m5 x5 R5 S5=>⟨m5,s5,h5,(x2.trans x3).trans x5,R5,S5,e3,(post2.ext x3).ext x5⟩
      | bk s5 h5=>cases e3;exact fun σ5 H5 m5 x5 R5 S5=>post2 σ5 H5 m5 (x3.trans x5) R5 S5
      | rt z h5=>cases e3;exact fun v H5 m5 x5 R5 r5=>post2 v H5 m5 (x3.trans x5) R5 r5
   ·have ei:i=ds.length:=by lia
    subst ei
    refine .inl ⟨it.stop m2 H2 h2 x2 R2 (mJ ca),?_⟩
    rw[List.drop_length,BT.dZ] at e3
    cases e3
    exact post2 σ2 H2 m2 (.refl _ _) R2 S2
  ·exact cR e2
theorem JA {X:Cx}{sc:Ow}{N:List Str} (O:Ok X F G sc N) {x:Str}{np pos p:Pos}{elt':NH}{gs:List Comprehension}{scope:Ow} (h:swB sc scope x np pos=true):Qv (.ListComp elt' gs scope pos) (some (.Name x np)) p.line X.env=pure true:=by
 have e:Qv (.ListComp elt' gs scope pos) (some (.Name x np)) p.line X.env=pure (swB X.env.scope scope x np pos):=rfl
 rw[e,O.hsc,h]
theorem CB (c:(sc.names.lookup x==some .cell)=true):mL sc x=true:=by
 unfold mL
 rw[eq_of_beq c]
theorem zl (h:swB sc scope x np pos=true):sc.names.lookup x=some .local:=by
 unfold swB at h
 simp only[NG] at h
 exact eq_of_beq h.1.1.2
theorem JB {X:Cx}{sc:Ow}{N:List Str} (O:Ok X F G sc N) {x:Str}{np pos p:Pos}{elt':NH}{gs:List Comprehension}{scope:Ow} (c:(sc.names.lookup x==some .cell)=true):Qv (.ListComp elt' gs scope pos) (some (.Name x np)) p.line X.env=pure false:=by
 have e:Qv (.ListComp elt' gs scope pos) (some (.Name x np)) p.line X.env=pure (swB X.env.scope scope x np pos):=rfl
 have z:swB sc scope x np pos=false:=by
  cases h:swB sc scope x np pos with
  | false=>rfl
  | true =>
   have:=zl h
   rw[eq_of_beq c] at this
   cases this
 rw[e,O.hsc,z]
theorem zm:PSs X [] (tDS X F G .nil):=PSs.weak Az fun D σ H q=>by
 obtain ⟨m,s,h,fl,R,S,e,post⟩:=q
 simp only[BT.evS] at e
 cases e
 exact post σ H m (.refl _ _) R S
theorem sS (O:Ok X F G sc N) (hf:∀ x,X.fn x=true) {st:Ou} (hh:CS sc N s st):PS X st (tDS X F G s) :=
 CS.rec (motive_1:=fun s st _=>PS X st (tDS X F G s)) (motive_2:=fun s sts _=>PSs X sts (tDS X F G s))
  (@fun i x mu sr sa tg fv cond elt te iter elt' ifs scope pos np p hu h1 h3 hk ht hz hs hi hc he=>by
   have K:∀ (D:Ends) (σ:L2.St) (H:Hp),tDS X F G (.set i (.comp mu sr sa tg fv cond elt)) D σ H->wL (tD X F G (.comp mu sr sa tg fv cond elt)) (sZ i) D σ H:=fun D σ H q =>
    kX (k:=fun s=>BT.xU s i) (fun s h=>rfl) q fun m s h y fl v H1 R S r e1 post=>by
     simp only[BT.xU] at e1
     cases e1
     exact post _ H1 m (.refl _ _) R (S.set r)
   by_cases c:(sc.names.lookup x==some .cell)=true
   ·exact PS.weak (wN (i:=i) O.nd (by rw[O.hN];exact h1) (mO O (CB c)) (sE (CQ.comp hu hk ht hz hs hi hc he) O) (JB O c) (.inl (hf x))) K
   ·have h4:swB sc scope x np pos=true:=by
     rw[Pk] at h3
     exact h3.resolve_left c
    exact PS.weak (B8 O hu hk ht hs (sCI hi O hz) (sCC hc) (fun X' O'=>sE he O') h1 (zl h4) (JA O h4)) K)
  (@fun i x e v np p h1 h2 h3 he=>PS.weak (wN (i:=i) O.nd (by rw[O.hN];exact h1) (mO O h2) (sE he O) (lH h3) (.inl (hf x))) fun D σ H q =>
   kX (k:=fun s=>BT.xU s i) (fun s h=>by simp only[BT.evS]) q fun m s h y fl v H1 R S r e1 post=>by
    simp only[BT.xU] at e1
    cases e1
    exact post _ H1 m (.refl _ _) R (S.set r))
  (@fun tg e es k fe args kw tp cp p hu ht he=>by
   obtain ⟨g,hg1,hg2⟩:=sCT O (O.calm hu) ht fun q _=>.inl (hf q.2)
   exact PS.weak (wM (sE he O) hg1 rfl rfl) fun D σ H q=>kX (k:=fun s=>BT.EX s tg) (fun s h=>by simp only[BT.evS]) q fun m s h y fl v H1 R S r e1 post=>by
    cases r with
    | p r =>
     simp only[BT.EX] at e1
     rename_i d
     cases g1:BT.unpack tg.length d with
     | none=>rw[g1] at e1;exact cR e1
     | some ds =>
      rw[g1] at e1
      cases e1
      refine hg2 m H1 σ s _ d ds _ S r ?_ fun σ' S'=>post _ H1 m (.refl _ _) R S'
      cases ht with
      | tup hl _ =>
       unfold BT.target
       rw[if_neg (by have:=TV hl;lia)];exact g1
    | _=>exact cR e1)
  (fun h1 h2 h3 h4 h5 hk he=>PS.weak (wM (sE he O) (D3 (tU O h1 h2 h3) (sE hk O) set_list (sI h5)) (Cy h4) rfl) F8)
  (fun h1 h2 h3 he=>PS.weak (D4 O.nd (by rw[O.hN];exact h1) (mO O h2) (sE he O) (uc h3) (.inl (hf _))) F7)
  (fun h1 h2 ho he=>PS.weak (Eh (sE ho O) (sE he O) (lH h2)) (Cz h1))
  (fun h1 h3 ho he=>PS.weak (vq (sE ho O) (sE he O) (uc h3)) (CA h1))
  (fun h he=>PS.weak (AA (sE he O) (lH h)) fun D σ H q =>
   kX (k:=fun s=>BT.kEx s) (fun s h=>by simp only[BT.evS]) q fun m s h y fl v H1 R S r e1 post=>by
    simp only[BT.kEx] at e1
    cases e1
    exact post σ H1 m (.refl _ _) R S)
  (fun he=>PS.weak (DY (sE he O)) fun D σ H q =>
   kX (k:=fun s=>BT.EZ) (fun s h=>by simp only[BT.evS]) q fun m s h y fl v H1 R S r e1 post=>by
    simp only[BT.EZ] at e1
    cases e1
    exact post v H1 m (.refl _ _) R r)
  (fun h hc ha hb ia ib=>PS.weak (Hq (sT hc O h).1 ia ib) fun D σ H q=>by
   obtain ⟨m,s,h,fl,R,S,e,post⟩:=q
   simp only[BT.evS] at e
   obtain ⟨t,g,e1,e2⟩:=uA e
   refine ⟨m,s,h,t,g,R,S,e1,fun H1 m1 x1 R1=>?_⟩
   simp only[BT.kIf] at e2
   cases t with
   | true=>exact ⟨m1,s,g,fl,R1,S.ext x1,e2,post.ext x1⟩
   | false=>exact ⟨m1,s,g,fl,R1,S.ext x1,e2,post.ext x1⟩)
  (fun h hc hb ib=>PS.weak (wQ O.own (sT hc O h).1 ib) F6)
  (fun hu ht hi hz hs hb ib=>by
   obtain ⟨g,hg1,hg2⟩:=sCT O (O.calm hu) ht (fun q _=>.inl (hf q.2))
   exact PS.weak (D6 O.own (O.calm hu) (sCI hi O hz) hg1 ib (uh hs)) (F9 hg2))
  (PS.weak wJ fun D σ H q=>by
   obtain ⟨m,s,h,fl,R,S,e,post⟩:=q
   simp only[BT.evS] at e
   cases e
   exact post σ H m (.refl _ _) R S)
  (PS.weak qb fun D σ H q=>by
   obtain ⟨m,s,h,fl,R,S,e,post⟩:=q
   simp only[BT.evS] at e
   cases e
   exact post σ H m (.refl _ _) R S)
  (fun pins s σ H D I q=>by
   obtain ⟨m,s,h,fl,R,S,e,post⟩:=q
   simp only[BT.evS] at e
   exact cR e)
  zm
  (fun _ ih=>sY ih)
  (fun _ _ ih ir=>PSs.weak (qa ih ir) zj)
  hh
theorem sSs (O:Ok X F G sc N) (hf:∀ x,X.fn x=true) {sts:List Ou} (hh:CSs sc N s sts):PSs X sts (tDS X F G s):=by
 refine CSs.rec (motive_1:=fun _ _ _=>True) (motive_2:=fun s sts _=>PSs X sts (tDS X F G s)) ?_ ?_ ?_ ?_ ?_ ?_ ?_ ?_ ?_ ?_ ?_ ?_ ?_ ?_ ?_ zm (fun h _=>sY (sS O hf h)) (fun h _ _ ir=>PSs.weak (qa (sS O hf h) ir) zj) hh<;>(intros;trivial)
end
section
variable {K:Nz}
mutual
theorem RD.shrink (x:∀ a∈m,a∈m'):∀ {v:V}{d:BT.D},RD K m' H v d->RD K m H v d
 | _,_,.non=>.non
 | _,_,.bl b=>.bl b
 | _,_,.int i=>.int i
 | _,_,.str y h=>.str y h
 | _,_,.tup h r=>.tup (h.elim (fun q=>.inl ⟨q.1,fun z=>q.2 (x _ z)⟩) .inr) (RDs.shrink x r)
 | _,_,.lst h r=>.lst (h.elim (fun q=>.inl ⟨q.1,fun z=>q.2 (x _ z)⟩) .inr) (RDs.shrink x r)
theorem RDs.shrink (x:∀ a∈m,a∈m'):∀ {vs:List V}{ds:List BT.D},RDs K m' H vs ds->RDs K m H vs ds
 | _,_,.nil=>.nil
 | _,_,.cons r t=>.cons (RD.shrink x r) (RDs.shrink x t)
end
end
theorem RFs.shrink {K:Nz}:∀ {vs0 vs:List (Str×V)}{fs:List (Str×BT.W)},RFs K m H vs0 fs->RFs K (m++ex) H' vs fs->RFs K m H' vs fs
 | _,_,_,.nil,.nil=>.nil
 | _,_,_,.cons r0 t0,.cons r t=>by
  refine .cons ?_ (RFs.shrink t0 t)
  have back:∀ {n:Nat}{a b:NL},m[n]?=some b->(m++ex)[n]?=some a->m[n]?=some a:=fun {n a b} h1 h2=>by
   rw[NQ (getD_some h1)] at h2
   exact h2
  cases r with
  | p r=>exact .p (r.shrink fun a ha=>Qh _ ha)
  | r h=>cases r0 with | r h0=>exact .r (back h0 h)
  | o h=>cases r0 with | o h0=>exact .o (back h0 h)
theorem RKs.shrink {K:Nz} (sub:∀ a∈m,a∈m') (r:RKs K m' H vs kvs):RKs K m H vs kvs:=by
 induction r with
 | nil=>exact .nil
 | cons hk r t ih=>exact .cons (hk.shrink sub) (r.shrink sub) ih
theorem kM {K:Nz} (e:BT.fin h y g=some (z,h')) (R:RH K m H h) (x:Ext m H m' H') (R':RH K m' H' g) (r:RW P w K m' H' v y) :
 ∃ m2,Ext m H m2 H'/\RH K m2 H' h'/\RW P w K m2 H' v z:=by
 unfold BT.fin at e
 split at e
 ·cases e;exact ⟨m',x,R',r⟩
 ·split at e
  ·rename_i c1 c2
   obtain ⟨ex,rfl,hx⟩:=x.pre
   have sub:∀ a∈m,a∈m++ex:=fun a ha=>Qh _ ha
   have x2:Ext m H m H':=⟨⟨[],by simp,by simp⟩,x.keep,x.live,x.frz⟩
   have R2:RH K m H' h:=by
    refine ⟨R.nd,R.len,fun i a xs e1 e2=>?_,R'.tb⟩
    have hi:i < m.length:=getD_some e1
    have hi2:i < h.length:=by rw[← R.len];exact hi
    have e3:g[i]?=some xs:=by
     rw[← c2,SQ hi2] at e2
     exact e2
    have z:=R'.cl i a xs (by rw[NQ hi];exact e1) e3
    cases xs with
    | l ys=>obtain ⟨vs,q1,q2⟩:=z;exact ⟨vs,q1,q2.shrink sub⟩
    | o c fs =>
     obtain ⟨C0,dx0,vs0,_,_,q0⟩:=R.cl i a _ e1 e2
     obtain ⟨C,dx,vs,q1,q2,q3⟩:=z
     exact ⟨C,dx,vs,q1,q2,q0.shrink q3⟩
    | d kvs=>obtain ⟨vs,q1,q2⟩:=z;exact ⟨vs,q1,q2.shrink sub⟩
    | z=>exact z
   cases r with
   | p r=>cases e;exact ⟨m,x2,R2,.p (r.shrink sub)⟩
   | k _ _=>exact cR e
   | kl _ _=>exact cR e
   | c _ _=>exact cR e
   | x _=>exact cR e
   | g _ _=>exact cR e
   | @o a n hn =>
    simp only at e
    split at e
    ·rename_i c3
     cases e
     refine ⟨m,x2,R2,.o ?_⟩
     rw[NQ (by rw[R.len];exact c3)] at hn
     exact hn
    ·cases e;exact ⟨m++ex,x,R',.o hn⟩
   | @r a n hn =>
    simp only at e
    split at e
    ·rename_i c3
     cases e
     refine ⟨m,x2,R2,.r ?_⟩
     rw[NQ (by rw[R.len];exact c3)] at hn
     exact hn
    ·rename_i c3
     obtain ⟨xs,e4,e5⟩:=c6 e
     cases e5
     obtain ⟨vs,q1,q2⟩:=R'.cell n a xs hn e4
     refine ⟨m,x2,R2,.p (.lst (.inl ⟨.inl q1,fun z=>?_⟩) (q2.shrink sub))⟩
     obtain ⟨j,hj⟩:=O4 z
     have hjl:=getD_some hj
     have ej:(m++ex)[j]?=some a:=by rw[NQ hjl];exact hj
     have:=nV R'.nd ej hn
     rw[R.len] at hjl
     lia
  ·cases e;exact ⟨m',x,R',r⟩
theorem qU {K:Nz} (r:RWs P w K m H vs ws):RS P w K m H (L2.start N vs) (BT.iz N.length ws):=by
 have hl:=r.length
 refine ⟨by simp[L2.start,BT.iz,hl],fun i y e=>?_⟩
 simp only[BT.iz] at e
 by_cases c:i < ws.length
 ·rw[NQ (by simpa using c),Og] at e
  obtain ⟨z,e1,e2⟩:=c6 e
  cases e2
  have:∀ {vs:List V}{ws:List BT.W}{i:Nat},RWs P w K m H vs ws->ws[i]?=some y->∃ v,vs[i]?=some v/\RW P w K m H v y:=by
   intro vs ws i r
   induction r generalizing i with
   | nil=>intro e;simp at e
   | cons r t ih =>
    intro e
    cases i with
    | zero=>simp at e;subst e;exact ⟨_,rfl,r⟩
    | succ i=>simpa using ih (by simpa using e)
  obtain ⟨v,h1,h2⟩:=this r e1
  refine ⟨v,?_,h2⟩
  unfold L2.start
  rw[NQ (by simp;lia),Og,h1];rfl
 ·rw[Oa (by simpa using c),PY] at e
  split at e<;>cases e
theorem Ga {K:Nz} (hT:BT.r6 L=some ⟨ns,ns,.ret bt⟩)
 (hg:∀ ws h r,g ws h=some r->ws.length=ns.length/\BT.qB (BT.evS F G (.ret bt) (BT.iz ns.length ws) h) (BT.fin h)=some r)
 (hO:∀ (q:Str) (sc:Ow) (cl:List (Str×NL)) (f c':NL) (A:Om) (outer:List Env) (s:ND) (H:Hp),ns.Nodup->fm k (A.deeper (Qm q sc s.heap.objs.size f (.ref c') cl))->Ok (yM P w K mg base ns q sc cl f c' A outer s H) F G sc ns):qI P w K mg base (k+1) L g:=by
 intro A outer s H f us vs cvs m ws cs h z h' Q E hr e0 rv R rw nc la rc e post
 obtain ⟨bt',ps,fs,pa,be,sc,cl,pm,ctv,c',oc,os,t,q,l0,l1,l2,l3,l4,l5,l6,l7,l8,l9,l10⟩:=la
 rw[hT] at l0
 cases l0
 have lf:=Mw l2
 obtain ⟨hwl,e1⟩:=hg _ _ _ e
 have C:=l10.cells l5
 have GJ:=rv.length
 have GK:=rw.length
 have C9:=l10.len
 have GL:cvs.length=cs.length:=by
  clear e e1 hwl l10 C9
  induction rc with
  | nil=>rfl
  | cons _ _ ih=>simp[ih]
 have hu:us.length=ps.length:=by
  simp only[NW,NS] at hwl
  lia
 refine PySem.W.kla_callFunE hr.depth (e0.hok _ _ l6.1).1 rfl lf.co lf.ge rfl ⟨c',oc,os,t,rfl,(e0.hok _ _ l7.1).1,l8,l9⟩ ?_
 rw[BI l1 hu]
 refine wpAny_pure (wpAny_newFunctionEnv lf.cell (fun y hy=>lf.loc y.1 (QW hy).1) (fun h1 hns hsb=>?_) lf.kd)
 have hk1:∀ b o,s.heap.get? b=some o->h1.get? b=some o:=fun b o e=>hsb.extBut b o (N1 (NK e)) (NC _ e)
 refine ⟨e0.mod.nolimit.keeps fun b o e=>hk1 b o (e0.bs b o e).1,?_⟩
 show codeAny _ _ (.expr be (Qm q sc s.heap.objs.size f (.ref c') cl)) _ _
 refine PySem.W.kla_codeExpr ?_
 have I:=BK (q:=q) (f:=f) (c':=c') (tk:=s.toks+(ps.zip us).length) l1 lf l4 l5 l10 hr.hd e0 rv hu hns hk1
 have hr1:fm k (A.deeper (Qm q sc s.heap.objs.size f (.ref c') cl)):=hr.deeper _
 have O:=hO q sc cl f c' A outer s H lf.nd hr1
 simp only[BT.evS] at e1
 cases g1:BT.ev F G bt (BT.iz (ps++fs).length (ws++cs.map BT.Cp.w)) h with
 | none=>rw[g1] at e1;exact cR e1
 | some yg =>
  obtain ⟨y,gh⟩:=yg
  rw[g1] at e1
  have e2:BT.fin h y gh=some (z,h'):=e1
  have hs:RS P w K m (hid cl H) (vs.map some++cvs.map some) (BT.iz (ps++fs).length (ws++cs.map BT.Cp.w)):=by
   have r0:=qU (N:=ps++fs) ((rw.tr C.sq nc).app (RCs.ws (P:=P) (w:=w) (rc.tr C.sq)))
   have e3:L2.start (ps++fs) (vs++cvs)=vs.map some++cvs.map some:=by
    unfold L2.start
    simp only[NW]
    rw[show ps.length+fs.length - (vs.length+cvs.length)=0 by lia]
    simp
   rw[e3] at r0;exact r0
  refine Px (sE l3 O [] _ _ _ (fun v H'=>∃ m',Ext m (hid cl H) m' H'/\RH K m' H' gh/\RW P w K m' H' v y) I ⟨m,_,h,y,gh,C.rh R,hs,g1,fun v H' m' x' R' r'=>⟨m',x',R',r'⟩⟩) (fun u s' ⟨v,H',I',rv',m',x',R',r'⟩=>?_) (fun e s' hx=>OQ hx)
  have N':∀ x c,cl.lookup x=some c->H' c=none:=fun x c e=>I'.freeC x c e
  have le:Le H' (ret cl H H'):=FA N'
  obtain ⟨m2,x2,R2,r2⟩:=kM e2 (C.rh R) x' R' r'
  have B:Un (frs outer) [] (hid cl H) H' s.heap s'.heap:=I'.base
  have nc':∀ b,H b=none->¬ ∃ y,cl.lookup y=some b:=fun b n ⟨y,qq⟩=>by
   obtain ⟨o,uu,k1,_⟩:=C y b qq
   rw[n] at k1;exact cR k1
  refine ⟨v,ret cl H H',I'.os,I'.bare,⟨fun b o e n hb hx=>B.keep b o e (gS n) hb hx,fun b o e n hb hx=>B.slot b o e (gS n) hb hx,fun b o e n hx=>?_,fun b o e hx=>B.there b o e hx,fun b xs e=>?_,fun b o uu e=>?_,fun b qs e=>?_⟩,fun b uu e=>?_,rv',post v _ m2 (C.FD N' x2 R2) (R2.le le) (r2.le le)⟩
  ·rw[fY (nc' b n)];exact B.free b o e (gS n) hx
  ·rw[fY (C.out e rfl)];exact B.tups b xs (C.hid e rfl)
  ·by_cases cc:∃ y,cl.lookup y=some b
   ·obtain ⟨y,qq⟩:=cc;rw[mG qq];exact e
   ·rw[fY cc];exact B.frzs b o uu (by rw[jt cc];exact e)
  ·rw[fY (C.out e rfl)];exact B.tbls b qs (C.hid e rfl)
  ·by_cases cc:∃ y,cl.lookup y=some b
   ·obtain ⟨y,qq⟩:=cc
    rw[mG qq] at e
    obtain ⟨o,u2,k1,k2⟩:=C y b qq
    rw[k1] at e
    cases e
    have k3:=B.keep b o (e0.hok _ _ k1).1 (yL qq) (fun hb=>by rw[e0.frf b hb] at k1;exact cR k1) (by simp)
    exact ⟨k3,_,k3⟩
   ·rw[fY cc] at e
    exact (I'.hok b uu e).stay (fun _ _ _ q=>q) (fun d q=>le _ _ q) fun d xs q=>le _ _ q
noncomputable def mR (K:Nz) (q:Str) (fd:O8) (fn:BT.Fn):Prop:=∀ y,fn.ns.contains (BT.gj y)=true->q=y/\y∈BT.gv ∧
 (∃ c P,OY K y=some (c,P)/\fd.code=.ref c/\Rq K c P=true/\∀ z∈BT.gv,∀ c2,OY K z=some (c2,P)->z=y) ∧
 ∃ bm ob,Od K NU "__builtins__"=some (some (.ref bm))/\bm≠P4/\K.lookup bm=some ob/\ob.cls=.type "module"/\ob.dict=some P4/\ob.data=.plain
inductive JC (K:Nz) (mg:Str->Option Value) (x:Str) (fn:BT.Fn):Prop where
 | mk (f:NL) (fd:O8) (st:Ou) (h1:mg x=some (.ref f)) (h2:Fun K x x st f fd) (h3:fO fn.ns fn.ps (c7 st)) (h4:Binds K fd fn.ps []) (h5:CSs (c7 st) fn.ns fn.body (dS st)) (h6:mR K x fd fn):JC K mg x fn
structure Def (K:Nz) (mg:Str->Option Value) (x:Str) (fn:BT.Fn):Prop where
 ex:JC K mg x fn
inductive DF (K:Nz) (mg:Str->Option Value) (c m:Str) (fn:BT.Fn):Prop where
 | mk (C f:NL) (fd:O8) (x qual:Str) (st:Ou) (h1:nU K c C) (h2:mg c=some (.ref C)) (h3:xj K C m f) (h4:(m="__init__"->Mk K C f)) (h5:Fun K x qual st f fd) (h6:fO fn.ns fn.ps (c7 st)) (h7:Binds K fd fn.ps []) (h8:CSs (c7 st) fn.ns fn.body (dS st)) (h9:mR K qual fd fn):DF K mg c m fn
structure Gb (K:Nz) (mg:Str->Option Value) (c m:Str) (fn:BT.Fn):Prop where
 ex:DF K mg c m fn
structure Txt (P:NT) (w:N7) (K:Nz) (mg:Str->Option Value) (T:BT.FK->Option BT.Fn) (G:Str->Option BT.W):Prop where
 defs:∀ x fn,T (.f x)=some fn->Def K mg x fn
 meths:∀ c m fn,T (.m c m)=some fn->Gb K mg c m fn
 lams:∀ L fn,T (.l L)=some fn->BT.r6 L=some fn/\∃ ns bt,fn=⟨ns,ns,.ret bt⟩/\∀ y,ns.contains (BT.gj y)=false
 glob:∀ x z,G x=some z->∃ u v,mg x=some u/\RelV v u/\∀ m H,RW P w K m H v z
 blt:∀ x∈Jo,mg x=none
theorem uB (e:BT.runN T G k x ws h=some r):∃ fn,T x=some fn:=by
 cases k with
 | zero=>exact cR e
 | succ k =>
  rw[BT.runN] at e
  cases q:T x with
  | none=>rw[q] at e;exact cR e
  | some fn=>exact ⟨fn,rfl⟩
theorem CD {K:Nz}{st:Ou} (F:Fun K x qual st f fd) (S:fO N ps (c7 st)) (len:∀ vs H Q E,sp vs H Q E->vs.length=ps.length)
 (hbody:∀ (cdv:Value) (A:Om) (outer:List Env) (s:ND) (H:Hp) (vs:List V) (Q:VK) (E:XK),fd.code=cdv->fm k (A.deeper (Tc qual (c7 st) s.heap.objs.size f cdv))->Mod K mg base->sp vs H Q E →
  ∃ t,PSs (rN CX0 P w K mg base N qual (c7 st) f cdv A outer s H E).nox (dS st) t/\t { nx:=fun _ H'=>Q .non H',rt:=Q } (L2.start N vs) H):g9 P w K mg base CX0 (k+1) f fd ps sp:=by
 obtain ⟨oc,od,kV,doc,pm,an,cdv,ct,osl,rfl,lk,hcd⟩:=F.ex
 refine ⟨len,fun A outer s H args us vs Q E hr e0 hb r hs=>?_⟩
 have F1:g9 P w K mg base CX0 (k+1) f (O5 x qual (fN st) (dS st) (c7 st) .none kV doc pm an cdv ct) ps sp:=HN lk hcd S len fun A outer s H vs Q E hr hsp=>by
  obtain ⟨t,h,q⟩:=hbody cdv A outer s H vs Q E rfl hr e0.mod hsp
  exact ⟨t,h.nox,q⟩
 exact F1.run A outer s H args us vs Q E hr e0 hb r hs
theorem DG {K:Nz} (X:Txt P w K mg T G)
 (ih:∀ (x:BT.FK) (fn:BT.Fn),T x=some fn->∀ (f:NL) (fd:O8) (nm qual:Str) (st:Ou),Fun K nm qual st f fd->fO fn.ns fn.ps (c7 st)->CSs (c7 st) fn.ns fn.body (dS st)->mR K qual fd fn->g9 P w K mg base CX0 (2*k) f fd fn.ps (spF P w K (BT.runN T G k x)))
 (il:∀ L,(∃ fn,T (.l L)=some fn)->qI P w K mg base (2*k) L (BT.runN T G k (.l L)))
 (e1:Y.prog=P) (e2:Y.w=w) (e3:Y.K=K) (e4:Y.mg=mg) (e5:Y.base=base) (hsc:Y.env.scope=sc) (hN:Y.N=N) (nd:Y.N.Nodup) (ca:Y.calm=true) (hr:fm (2*k+1) Y.A) (own:PassesOwn (N5 Y.prog Y.w) Y.A Y.env Y.xe)
 (lx:(∀ x,Y.fn x=true)->∀ x,N.contains (BT.gj x)=true->LX Y x):Ok Y (BT.runN T G k) G sc N:=by
 subst e1 e2 e3 e4 e5
 refine ⟨hsc,hN,nd,fun _=>ca,?_,own,X.glob,fun g ws h r e=>?_,fun c g ws h r e=>?_,fun c ws h r e=>?_,X.blt,fun L ws h r e=>⟨2*k,hr.mono (Qp _),il L (uB e)⟩,lx⟩
 ·have:=hr.un
  lia
 ·obtain ⟨fn',hTg⟩:=uB e
  obtain ⟨f',fd',st',a1,a2,a3,a4,a5,a6⟩:=(X.defs g fn' hTg).ex
  exact ⟨f',fd',fn'.ps,2*k,a1,a2.kp,a4,hr.mono (Qp _),ih _ fn' hTg f' fd' g g st' a2 a3 a5 a6⟩
 ·obtain ⟨fn',hTg⟩:=uB e
  obtain ⟨C,f',fd',x',q',st',b1,b2,b3,b4,a2,a3,a4,a5,a6⟩:=(X.meths c g fn' hTg).ex
  exact ⟨C,f',fd',fn'.ps,2*k,b1,b3,a4,hr.mono (Qp _),ih _ fn' hTg f' fd' x' q' st' a2 a3 a5 a6⟩
 ·obtain ⟨fn',hTg⟩:=uB e
  obtain ⟨C,f',fd',x',q',st',b1,b2,b3,b4,a2,a3,a4,a5,a6⟩:=(X.meths c _ fn' hTg).ex
  exact ⟨C,f',fd',fn'.ps,2*k,b1,b2,b4 rfl,a4,hr,ih _ fn' hTg f' fd' x' q' st' a2 a3 a5 a6⟩
theorem CF {K:Nz} (X:Txt P w K mg T G) :
 ∀ (k:Nat),(∀ (x:BT.FK) (fn:BT.Fn),T x=some fn->∀ (f:NL) (fd:O8) (nm qual:Str) (st:Ou),Fun K nm qual st f fd->fO fn.ns fn.ps (c7 st)->CSs (c7 st) fn.ns fn.body (dS st)->mR K qual fd fn->g9 P w K mg base CX0 (2*k) f fd fn.ps (spF P w K (BT.runN T G k x))) ∧
  ∀ L,(∃ fn,T (.l L)=some fn)->qI P w K mg base (2*k) L (BT.runN T G k (.l L)):=by
 intro k
 induction k with
 | zero =>
  refine ⟨fun x fn hT f fd nm qual st h2 h3 h5 h6=>?_,fun L hL=>?_⟩
  ·have no:∀ vs H Q E,¬ spF P w K (BT.runN T G 0 x) vs H Q E:=fun vs H Q E h=>by
    obtain ⟨m,ws,h,z,h',_,_,e,_⟩:=h
    exact cR e
   exact ⟨fun vs H Q E h=>absurd h (no vs H Q E),fun A outer s H args us vs Q E _ _ _ _ h=>absurd h (no vs H Q E)⟩
  ·intro A outer s H f us vs cvs m ws cs h z h' Q E hr e0 rv R rw nc la rc e post
   exact cR e
 | succ k ihk =>
  obtain ⟨ih,il⟩:=ihk
  refine ⟨fun x fn hT f fd nm qual st h2 h3 h5 h6=>?_,fun L hL=>?_⟩
  ·show g9 P w K mg base CX0 (2*k+1+1) f fd fn.ps (spF P w K (BT.runN T G (k+1) x))
   refine CD h2 h3 (fun vs H Q E h=>?_) fun cdv A outer s H vs Q E hcd hr hM h=>?_
   ·obtain ⟨m,ws,h,z,h',R,r,e,post⟩:=h
    rw[BT.runN,hT] at e
    simp only at e
    split at e
    ·rename_i c;rw[r.length];exact c
    ·exact cR e
   ·obtain ⟨m,ws,h,z,h',R,r,e,post⟩:=h
    rw[BT.runN,hT] at e
    simp only at e
    split at e
    ·have O:Ok (rN CX0 P w K mg base fn.ns qual (c7 st) f cdv A outer s H E).nox (BT.runN T G k) G (c7 st) fn.ns:=by
      refine DG X ih il rfl rfl rfl rfl rfl rfl rfl h3.nd rfl hr Rt fun _ y hy=>?_
      obtain ⟨t1,t2,⟨c,Pt,t3,t4,t5,t6⟩,bm,ob,t7,t8,t9,t10,t11,t12⟩:=h6 y hy
      exact ⟨t2,⟨c,Pt,t3,hcd.symm.trans t4,Tg hM.kin t5,t6⟩,by show qual++".<locals>."=_;rw[t1],bm,ob,PJ hM.kin hM.glob t7,t8,hM.kin _ _ t9,t10,t11,t12⟩
     refine ⟨_,sSs O (fun _=>rfl) h5,?_⟩
     cases gg:BT.evS (BT.runN T G k) G fn.body (BT.iz fn.ns.length ws) h with
     | none=>rw[gg] at e;exact cR e
     | some fl =>
      rw[gg] at e
      refine ⟨m,_,h,fl,R,qU r,gg,?_⟩
      cases fl with
      | rt y g =>
       intro v H' m' x' R' r'
       obtain ⟨m2,y1,y2,y3⟩:=kM e R x' R' r'
       exact post v H' m2 y1 y2 y3
      | nx s' g =>
       intro σ' H' m' x' R' _
       obtain ⟨m2,y1,y2,y3⟩:=kM (v:=.non) e R x' R' (.p .non)
       exact post .non H' m2 y1 y2 y3
      | bk s' g=>exact cR e
      | ct s' g=>exact cR e
    ·exact cR e
  ·obtain ⟨fn,hT⟩:=hL
   obtain ⟨hl,ns,bt,rfl,nt⟩:=X.lams L fn hT
   show qI P w K mg base (2*k+1+1) L (BT.runN T G (k+1) (.l L))
   refine Ga (F:=BT.runN T G k) (G:=G) hl (fun ws h r e=>?_) fun q sc cl f c' A outer s H nd hr=>DG X ih il rfl rfl rfl rfl rfl rfl rfl nd rfl hr Rt fun _ y hy=>absurd hy (by rw[nt y];decide)
   rw[BT.runN,hT] at e
   simp only at e
   split at e
   ·rename_i c;exact ⟨c,e⟩
   ·exact cR e
theorem Gc {K:Nz} (X:Txt P w K mg T G) (k:Nat) (x:BT.FK) (fn:BT.Fn) (hT:T x=some fn) (f:NL) (fd:O8) (nm qual:Str) (st:Ou) (h2:Fun K nm qual st f fd) (h3:fO fn.ns fn.ps (c7 st)) (h5:CSs (c7 st) fn.ns fn.body (dS st)) (h6:mR K qual fd fn) :
 g9 P w K mg base CX0 (2*k) f fd fn.ps (spF P w K (BT.runN T G k x)):=(CF X k).1 x fn hT f fd nm qual st h2 h3 h5 h6
end BS
end
section
namespace BT
open PySem
noncomputable def iG:Fn:=⟨["thing"],["thing"],
 (.ret (.cmp .mem (.var 0) (.glo "LETTERS")))⟩
theorem uC:NY s=NY t↔s=t:=by
 constructor
 ·intro h
  rw[QS,QS] at h
  have h1:(s.toList.map SS)=(t.toList.map SS):=by
   have:=congrArg (fun x:Str=>x.cps.toList) h
   simpa using this
  have inj:∀ (a b:List Char),a.map SS=b.map SS->a=b:=by
   intro a
   induction a with
   | nil=>intro b h;cases b with
    | nil=>rfl
    | cons _ _=>simp at h
   | cons x xs ih=>intro b h;cases b with
    | nil=>simp at h
    | cons y ys =>
     simp only[OJ,QG] at h
     have:x=y:=Char.toNat_inj.mp h.1
     rw[this,ih ys h.2]
  have h2:=inj _ _ h1
  exact String.toList_inj.mp h2
 ·intro h;rw[h]
@[simp] theorem KY (s t:String):(NY s==NY t)=(s==t):=by
 by_cases h:s=t
 ·subst h;simp
 ·have h1:¬ NY s=NY t:=fun e=>h (uC.mp e)
  rw[beq_eq_false_iff_ne.mpr h1,beq_eq_false_iff_ne.mpr h]
@[simp] theorem MD (s t:String):(NY s=NY t)=(s=t):=propext uC
@[simp] theorem Nq (h:List α) (a:α) (r:List α):(h++a :: r)[h.length]?=some a:=by simp
@[simp] theorem JD (h:List α) (a b:α) (r:List α):(h++a :: b :: r)[h.length+1]?=some b:=by
 rw[Oa (by lia)];simp
@[simp] theorem Nr (h:List α) (a x:α) (r:List α):(h++a :: r).set h.length x=h++x :: r:=by simp
@[simp] theorem Nt (h:List α) (a b x:α) (r:List α):(h++a :: b :: r).set (h.length+1) x=h++a :: x :: r:=by
 rw[List.set_append_right _ _ (by lia)];simp
theorem cS (h:HH) (w:W):fin h w h=some (w,h):=by simp[fin]
theorem zo (h g:HH) (d:D):fin h (.p d) (h++g)=some (.p d,h):=by
 unfold fin
 cases g with
 | nil=>simp
 | cons c g=>simp
@[simp] theorem Nu (h:HH) (a:Cl) (r:HH):lat (h++a :: r) h.length=qo a:=by simp[lat]
@[simp] theorem Nv (h:HH) (a b:Cl) (r:HH):lat (h++a :: b :: r) (h.length+1)=qo b:=by
 unfold lat;rw[JD];rfl
@[simp] theorem Nx (h:HH) (a:Cl) (r:HH):oat (h++a :: r) h.length=qp a:=by simp[oat]
@[simp] theorem Ny (h:HH) (a b:Cl) (r:HH):oat (h++a :: b :: r) (h.length+1)=qp b:=by
 unfold oat;rw[JD];rfl
inductive Op where
 | add | sub | mul | less
noncomputable def Op.w:Op->String
 | .add=>"add" | .sub=>"sub" | .mul=>"mul" | .less=>"less"
inductive Nm where
 | a | b | c | d | e | f
noncomputable def Nm.w:Nm->String
 | .a=>"a" | .b=>"b" | .c=>"c" | .d=>"d" | .e=>"e" | .f=>"f"
noncomputable def Nm.ix:Nm->Nat
 | .a=>0 | .b=>1 | .c=>2 | .d=>3 | .e=>4 | .f=>5
inductive Sm where
 | num (n:Int)
 | nam (i:Nm)
 | cell (s:Sm)
 | two (o:Op) (s t:Sm)
noncomputable def Sm.enc:Sm->D
 | .num n=>.tup [.str "num",.int n]
 | .nam i=>.tup [.str "name",.str i.w]
 | .cell s=>.tup [.str "cell",s.enc]
 | .two o s t=>.tup [.str o.w,s.enc,t.enc]
noncomputable def Sm.size:Sm->Nat
 | .num _=>1
 | .nam _=>1
 | .cell s=>s.size+1
 | .two _ s t=>s.size+t.size+1
noncomputable def Wth (n:Int):Prop:=0<=n/\n<=10006
noncomputable def Sm.ok:Sm->Prop
 | .num n=>Wth n
 | .nam _=>True
 | .cell s=>s.ok
 | .two _ s t=>s.ok/\t.ok
structure St where
 row:Nat
 names:List Int
 cells:List Int
 calls:List Nat
 asked:Nat
 said:List Int
noncomputable def c9 (xs:List Int):List D:=xs.map D.int
noncomputable def JE (xs:List Nat):List D:=xs.map fun (n:Nat)=>D.int (n:Int)
noncomputable def St.enc (s:St):D:=.tup [.int s.row,.tup (c9 s.names),.tup (c9 s.cells),.tup (JE s.calls),.int s.asked,.tup (c9 s.said)]
structure St.ok (s:St):Prop where
 nlen:s.names.length=6
 clen:s.cells.length=4
 nw:∀ x∈s.names,Wth x
 cw:∀ x∈s.cells,Wth x
noncomputable def two (o:Op) (x y:Int):Int:=match o with
 | .add=>(x+y) % 10007
 | .sub=>(x - y) % 10007
 | .mul=>(x*y) % 10007
 | .less=>if x < y then 1 else 0
noncomputable def Sm.val (st:St):Sm->Int
 | .num n=>n
 | .nam i=>st.names.getD i.ix 0
 | .cell s=>st.cells.getD (s.val st % 4).toNat 0
 | .two o s t=>BT.two o (s.val st) (t.val st)
section
noncomputable def zp:List D:=[.str "a",.str "b",.str "c",.str "d",.str "e",.str "f"]
end
section
variable {T:FK->Option Fn}{F:FK->List W->HH->Option (W×HH)}{G:Str->Option W}{i:Nat}{e e' c:E}{a b:S}{s s':Sl}{h g:HH}{w:W}{d d' z:D}
theorem Gd (h1:BT.ev F G e s h=some (w,g)):evS F G (.seq (.set i e) b) s h=evS F G b (s.set i (some w)) g:=by simp[h1]
end
section
theorem iH (xs:List α) (i:Nat):atP xs (i:Int)=xs[i]?:=by
 unfold atP place
 by_cases h:i < xs.length
 ·have h1:((i:Int) < (xs.length:Int)):=by lia
  simp[h1,h]
 ·have h1:¬ ((i:Int) < (xs.length:Int)):=by lia
  simp[h1];lia
inductive Rw where
 | set (x:Nm) (s:Sm) | put (s t:Sm) | ask (x:Nm) | say (s:Sm) | jump (p:Nat) | unless (s:Sm) (p:Nat) | call (p:Nat) | back | stop
noncomputable def Rw.enc:Rw->D
 | .set x s=>.tup [.str "set",.str x.w,s.enc]
 | .put s t=>.tup [.str "put",s.enc,t.enc]
 | .ask x=>.tup [.str "ask",.str x.w]
 | .say s=>.tup [.str "say",s.enc]
 | .jump p=>.tup [.str "jump",.int p]
 | .unless s p=>.tup [.str "unless",s.enc,.int p]
 | .call p=>.tup [.str "call",.int p]
 | .back=>.tup [.str "back"]
 | .stop=>.tup [.str "stop"]
noncomputable def pI (s:Sm):Prop:=s.ok/\s.size<=15
noncomputable def Rw.ok (n:Nat):Rw->Prop
 | .set _ s=>pI s
 | .put s t=>pI s/\pI t
 | .ask _=>True
 | .say s=>pI s
 | .jump p=>p<=n
 | .unless s p=>pI s/\p<=n
 | .call p=>p<=n
 | .back=>True
 | .stop=>True
noncomputable abbrev Pg:=List Rw
noncomputable def kN (p:Pg):D:=.tup (p.map Rw.enc)
noncomputable def Pg.ok (p:Pg):Prop:=∀ r∈p,r.ok p.length
noncomputable def Rw.next (asked:List Int) (st:St):Rw->St
 | .set x s=>{ st with row:=st.row+1,names:=st.names.set x.ix (s.val st) }
 | .put s t=>{ st with row:=st.row+1,cells:=st.cells.set (s.val st % 4).toNat (t.val st) }
 | .ask x=>{ st with row:=st.row+1,names:=st.names.set x.ix (asked.getD st.asked 0),asked:=st.asked+1 }
 | .say s=>{ st with row:=st.row+1,said:=st.said++[s.val st] }
 | .jump p=>{ st with row:=p }
 | .unless s p=>{ st with row:=if s.val st=0 then p else st.row+1 }
 | .call p=>{ st with row:=p,calls:=st.calls++[st.row+1] }
 | .back=>{ st with row:=st.calls.getLast?.getD 0,calls:=st.calls.dropLast }
 | .stop=>st
noncomputable def Rw.over (st:St):Rw->Bool
 | .back=>st.calls.length==0
 | .call _=>decide (6<=st.calls.length)
 | .stop=>true
 | _=>false
noncomputable def over (p:Pg) (st:St):Bool:=match p[st.row]? with
 | some r=>r.over st
 | none=>true
noncomputable def step (p:Pg) (asked:List Int) (st:St):St:=match p[st.row]? with
 | some r=>r.next asked st
 | none=>st
noncomputable def St.zero:St:=⟨0,[0,0,0,0,0,0],[0,0,0,0],[],0,[]⟩
noncomputable def sts (p:Pg) (asked:List Int):Nat->St->List St
 | 0,st=>[st]
 | n+1,st=>if over p st then [st] else st :: sts p asked n (step p asked st)
noncomputable def Rw.word:Rw->String
 | .set _ _=>"set" | .put _ _=>"put" | .ask _=>"ask" | .say _=>"say" | .jump _=>"jump" | .unless _ _=>"unless" | .call _=>"call" | .back=>"back" | .stop=>"stop"
theorem zu (xs:List Int):(c9 xs).length=xs.length:=by simp[c9]
end
section
end
noncomputable def fQ:Fn:=⟨["_law_script","_law_k"],["_law_script","_law_k"],
 (.seq (.ife (.cmp .eq (.var 0) (.lst false .nil)) (.ret (.bin .mul (.cst (.int 7)) (.var 1))) .nil)
 (.ret (.bin .add (.idx (.var 0) (.bin .mod (.var 1) (.bi .len false (.cons (.var 0) .nil)))) (.bin .mul (.cst (.int 6553)) (.bin .fdiv (.var 1) (.bi .len false (.cons (.var 0) .nil)))))))⟩
noncomputable def fZ:Fn:=⟨["_law_script","_law_k","_law_many"],["_law_script","_law_k","_law_many","_law_cell_here"],
 (.seq (.set 3 (.bin .mod (.bin .add (.bin .mul (.bin .mod (.call "_law_cell" (.cons (.var 0) (.cons (.var 1) .nil))) (.cst (.int 2147483563))) (.cst (.int 69069))) (.bin .mul (.cst (.int 104723)) (.bin .add (.var 1) (.cst (.int 1))))) (.cst (.int 2147483563))))
 (.seq (.set 3 (.bin .mod (.bin .add (.bin .mul (.var 3) (.var 3)) (.bin .fdiv (.var 3) (.cst (.int 3)))) (.cst (.int 2147483399))))
 (.ret (.bin .mod (.bin .fdiv (.bin .mod (.bin .add (.bin .mul (.var 3) (.var 3)) (.bin .fdiv (.var 3) (.cst (.int 7)))) (.cst (.int 2147483647))) (.cst (.int 11))) (.var 2)))))⟩
noncomputable def smL:S:=(.seq (.ife (.cmp .eq (.call "_law_drawn" (.cons (.var 0) (.cons (.bin .add (.var 1) (.cst (.int 1))) (.cons (.cst (.int 2)) .nil)))) (.cst (.int 0))) (.ret (.tup (.cons (.cst (.str "num")) (.cons (.idx (.lst false (.cons (.cst (.int 0)) (.cons (.cst (.int 1)) (.cons (.cst (.int 2)) (.cons (.cst (.int 3)) (.cons (.cst (.int 10)) (.cons (.cst (.int 10006)) .nil))))))) (.call "_law_drawn" (.cons (.var 0) (.cons (.bin .add (.var 1) (.cst (.int 2))) (.cons (.cst (.int 6)) .nil))))) .nil)))) .nil)
 (.ret (.tup (.cons (.cst (.str "name")) (.cons (.idx (.cst (.str "abcf")) (.call "_law_drawn" (.cons (.var 0) (.cons (.bin .add (.var 1) (.cst (.int 2))) (.cons (.cst (.int 4)) .nil))))) .nil)))))
noncomputable def smR:S:=(.seq (.set 4 (.call "_law_sum" (.cons (.var 0) (.cons (.bin .add (.bin .mul (.var 1) (.cst (.int 2))) (.cst (.int 5))) (.cons (.bin .sub (.var 2) (.cst (.int 1))) .nil)))))
 (.seq (.ife (.cmp .lt (.var 3) (.cst (.int 6))) (.ret (.tup (.cons (.cst (.str "cell")) (.cons (.var 4) .nil)))) .nil)
 (.ret (.tup (.cons (.idx (.lst false (.cons (.cst (.str "add")) (.cons (.cst (.str "sub")) (.cons (.cst (.str "mul")) (.cons (.cst (.str "less")) .nil))))) (.bin .sub (.var 3) (.cst (.int 6)))) (.cons (.var 4) (.cons (.call "_law_sum" (.cons (.var 0) (.cons (.bin .add (.bin .mul (.var 1) (.cst (.int 2))) (.cst (.int 19))) (.cons (.bin .sub (.var 2) (.cst (.int 1))) .nil)))) .nil)))))))
noncomputable def fz:Fn:=⟨["_law_script","_law_at","_law_deep"],["_law_script","_law_at","_law_deep","_law_way","_law_one"],
 (.seq (.set 3 (.call "_law_drawn" (.cons (.var 0) (.cons (.var 1) (.cons (.cst (.int 10)) .nil)))))
 (.seq (.ife (.or (.cmp .eq (.var 2) (.cst (.int 0))) (.cmp .lt (.var 3) (.cst (.int 4)))) smL .nil)
 smR))⟩
noncomputable def iI:Fn:=⟨["_law_script","_law_at","_law_size"],["_law_script","_law_at","_law_size","_law_way","_law_place","_law_name","_law_one"],
 (.seq (.set 3 (.call "_law_drawn" (.cons (.var 0) (.cons (.var 1) (.cons (.cst (.int 16)) .nil)))))
 (.seq (.set 4 (.call "_law_drawn" (.cons (.var 0) (.cons (.bin .add (.var 1) (.cst (.int 1))) (.cons (.bin .add (.var 2) (.cst (.int 1))) .nil)))))
 (.seq (.set 5 (.idx (.cst (.str "abc")) (.call "_law_drawn" (.cons (.var 0) (.cons (.bin .add (.var 1) (.cst (.int 2))) (.cons (.cst (.int 3)) .nil))))))
 (.seq (.set 6 (.call "_law_sum" (.cons (.var 0) (.cons (.bin .add (.var 1) (.cst (.int 3))) (.cons (.cst (.int 2)) .nil)))))
 (.seq (.ife (.cmp .lt (.var 3) (.cst (.int 5))) (.ret (.tup (.cons (.cst (.str "set")) (.cons (.var 5) (.cons (.var 6) .nil))))) .nil)
 (.seq (.ife (.cmp .lt (.var 3) (.cst (.int 7))) (.ret (.tup (.cons (.cst (.str "put")) (.cons (.call "_law_sum" (.cons (.var 0) (.cons (.bin .add (.var 1) (.cst (.int 9))) (.cons (.cst (.int 1)) .nil)))) (.cons (.var 6) .nil))))) .nil)
 (.seq (.ife (.cmp .lt (.var 3) (.cst (.int 9))) (.ret (.idx (.lst false (.cons (.tup (.cons (.cst (.str "ask")) (.cons (.var 5) .nil))) (.cons (.tup (.cons (.cst (.str "say")) (.cons (.var 6) .nil))) .nil))) (.bin .sub (.var 3) (.cst (.int 7))))) .nil)
 (.seq (.ife (.cmp .lt (.var 3) (.cst (.int 12))) (.ret (.idx (.lst false (.cons (.tup (.cons (.cst (.str "jump")) (.cons (.var 4) .nil))) (.cons (.tup (.cons (.cst (.str "unless")) (.cons (.var 6) (.cons (.var 4) .nil)))) (.cons (.tup (.cons (.cst (.str "unless")) (.cons (.tup (.cons (.cst (.str "name")) (.cons (.var 5) .nil))) (.cons (.var 4) .nil)))) .nil)))) (.bin .sub (.var 3) (.cst (.int 9))))) .nil)
 (.ret (.idx (.lst false (.cons (.tup (.cons (.cst (.str "call")) (.cons (.var 4) .nil))) (.cons (.tup (.cons (.cst (.str "call")) (.cons (.var 4) .nil))) (.cons (.tup (.cons (.cst (.str "back")) .nil)) (.cons (.idx (.lst false (.cons (.tup (.cons (.cst (.str "stop")) .nil)) (.cons (.tup (.cons (.cst (.str "back")) .nil)) .nil))) (.bin .mod (.var 4) (.cst (.int 2)))) .nil))))) (.bin .sub (.var 3) (.cst (.int 12)))))))))))))⟩
noncomputable def eV:Fn:=⟨["_law_script","_law_at"],["_law_script","_law_at","_law_size","_law_put","_law_sign","_law_rows"],
 (.seq (.set 2 (.bin .add (.cst (.int 1)) (.call "_law_drawn" (.cons (.var 0) (.cons (.var 1) (.cons (.cst (.int 9)) .nil))))))
 (.seq (.ife (.cmp .eq (.call "_law_drawn" (.cons (.var 0) (.cons (.bin .add (.var 1) (.cst (.int 1))) (.cons (.cst (.int 4)) .nil)))) (.cst (.int 0))) (.seq (.set 3 (.tup (.cons (.cst (.str "put")) (.cons (.tup (.cons (.cst (.str "name")) (.cons (.cst (.str "a")) .nil))) (.cons (.tup (.cons (.cst (.str "num")) (.cons (.call "_law_drawn" (.cons (.var 0) (.cons (.bin .add (.var 1) (.cst (.int 2))) (.cons (.cst (.int 9)) .nil)))) .nil))) .nil)))))
 (.seq (.set 4 (.idx (.lst false (.cons (.cst (.str "add")) (.cons (.cst (.str "sub")) .nil))) (.call "_law_drawn" (.cons (.var 0) (.cons (.bin .add (.var 1) (.cst (.int 3))) (.cons (.cst (.int 2)) .nil))))))
 (.seq (.set 5 (.tup (.cons (.tup (.cons (.cst (.str "ask")) (.cons (.cst (.str "a")) .nil))) (.cons (.tup (.cons (.cst (.str "call")) (.cons (.cst (.int 4)) .nil))) (.cons (.tup (.cons (.cst (.str "say")) (.cons (.tup (.cons (.cst (.str "name")) (.cons (.cst (.str "a")) .nil))) .nil))) (.cons (.tup (.cons (.cst (.str "jump")) (.cons (.cst (.int 0)) .nil))) (.cons (.var 3) .nil)))))))
 (.ret (.bin .add (.var 5) (.tup (.cons (.tup (.cons (.cst (.str "call")) (.cons (.cst (.int 7)) .nil))) (.cons (.tup (.cons (.cst (.str "back")) .nil)) (.cons (.tup (.cons (.cst (.str "set")) (.cons (.cst (.str "b")) (.cons (.tup (.cons (.var 4) (.cons (.tup (.cons (.cst (.str "name")) (.cons (.cst (.str "b")) .nil))) (.cons (.tup (.cons (.cst (.str "name")) (.cons (.cst (.str "a")) .nil))) .nil)))) .nil)))) (.cons (.tup (.cons (.cst (.str "back")) .nil)) .nil)))))))))) .nil)
 (.ret (.bi .tuple false (.cons (.comp false .rng1 (.cons (.var 2) .nil) ["_law_k"] [(0,"_law_script"),(1,"_law_at"),(2,"_law_size")] .nil (.call "_law_row" (.cons (.var 1) (.cons (.bin .add (.bin .add (.var 2) (.cst (.int 10))) (.bin .mul (.cst (.int 40)) (.var 0))) (.cons (.var 3) .nil))))) .nil)))))⟩
noncomputable def iJ:Fn:=⟨["_law_script","_law_at"],["_law_script","_law_at"],
 (.ret (.comp false .rng1 (.cons (.call "_law_drawn" (.cons (.var 0) (.cons (.var 1) (.cons (.cst (.int 4)) .nil)))) .nil) ["_law_k"] [(0,"_law_script"),(1,"_law_at")] .nil (.idx (.lst false (.cons (.cst (.int 0)) (.cons (.cst (.int 1)) (.cons (.cst (.int 5)) (.cons (.cst (.int 10006)) .nil))))) (.call "_law_drawn" (.cons (.var 1) (.cons (.bin .add (.bin .add (.var 2) (.cst (.int 1))) (.var 0)) (.cons (.cst (.int 4)) .nil)))))))⟩
structure Lw (T:FK->Option Fn):Prop where
 cell:T "_law_cell"=some fQ
 drawn:T "_law_drawn"=some fZ
 sum:T "_law_sum"=some fz
 row:T "_law_row"=some iI
 asked:T "_law_asked"=some iJ
noncomputable def uD (ns:List Int) (k:Int):Int:=if ns=[] then 7*k else ns.getD (k % ns.length).toNat 0+6553*(k / ns.length)
noncomputable def drw (ns:List Int) (k many:Int):Int :=
 let a:=(uD ns k % 2147483563*69069+104723*(k+1)) % 2147483563
 let b:=(a*a+a / 3) % 2147483399
 (b*b+b / 7) % 2147483647 / 11 % many
theorem fj (ns:List Int) (k:Int) (h:0 < many):0<=drw ns k many:=Ss _ (by lia)
theorem fB (ns:List Int) (k:Int) (h:0 < many):drw ns k many < many:=Ru _ h
theorem n6 (h0:0<=i) (h1:i < 18446744073709551616):big i=true:=by
 unfold big;exact decide_eq_true (by lia)
section
theorem CG (ns:List Int):eqv (.lst (c9 ns)) (.lst [])=decide (ns=[]):=by
 cases ns<;>simp[c9]
theorem zw (L:Lw T) (m:Nat) (ns:List Int) (hl:ns.length<=1000) (k:Int) (h:HH):runN T G (m+1) "_law_cell" [.p (.lst (c9 ns)),.p (.int k)] h=some (.p (.int (uD ns k)),h):=by
 rw[run_eq L.cell rfl]
 by_cases c:ns=[]
 ·subst c
  simp[fQ,c9,uD,big,cS]
 ·have n0:0 < ns.length:=List.length_pos_iff.mpr c
  have q:eqv (.lst (c9 ns)) (.lst [])=false:=by rw[CG];exact decide_eq_false c
  have p1:(0:Int) < (ns.length:Int):=by lia
  have p2:(ns.length:Int) < 1073741824:=by lia
  have m1:=Ss k (b:=(ns.length:Int)) (by lia)
  have m2:=Ru k p1
  have i1:(k % (ns.length:Int)).toNat < ns.length:=by lia
  have n2:ns.length < 1073741824:=by lia
  simp[fQ,-eqv,q,zu,p1,p2,n0,n2,m1,m2,big,cS,uD,c]
  simp[c9,i1,cS,n0,n2,m1,m2,big,p1,p2]
theorem eN (L:Lw T) (m:Nat) (ns:List Int) (hl:ns.length<=1000) (k many:Int) (hm:0 < many) (h:HH) :
 runN T G (m+2) "_law_drawn" [.p (.lst (c9 ns)),.p (.int k),.p (.int many)] h=some (.p (.int (drw ns k many)),h):=by
 rw[run_eq L.drawn rfl]
 have r:=zw (G:=G) L m ns hl k
 have b0:big 69069=true:=by decide
 have b1:big 104723=true:=by decide
 have b2:∀ x:Int,big (x % 2147483563)=true:=fun x=>n6 (by lia) (by lia)
 have b3:∀ x:Int,big (x % 2147483399)=true:=fun x=>n6 (by lia) (by lia)
 simp[fZ,r,b0,b1,b2,b3,cS,hm,drw]
theorem pJ:NY "abcf"=⟨#[97,98,99,102]⟩:=by decide +kernel
theorem zx:NY "abc"=⟨#[97,98,99]⟩:=by decide +kernel
theorem o_a:NY "a"=⟨#[97]⟩:=by decide +kernel
theorem o_b:NY "b"=⟨#[98]⟩:=by decide +kernel
theorem o_c:NY "c"=⟨#[99]⟩:=by decide +kernel
theorem o_f:NY "f"=⟨#[102]⟩:=by decide +kernel
theorem uE (i:Int) (h0:0<=i) (h1:i < 4):∃ x:Nm,fU (.str "abcf") (.int i)=some (.str x.w):=by
 have:i=0\/i=1\/i=2\/i=3:=by lia
 rcases this with rfl | rfl | rfl | rfl
 ·exact ⟨.a,by rw[Nm.w,pJ,o_a];rfl⟩
 ·exact ⟨.b,by rw[Nm.w,pJ,o_b];rfl⟩
 ·exact ⟨.c,by rw[Nm.w,pJ,o_c];rfl⟩
 ·exact ⟨.f,by rw[Nm.w,pJ,o_f];rfl⟩
theorem Ge (i:Int) (h0:0<=i) (h1:i < 3):∃ x:Nm,fU (.str "abc") (.int i)=some (.str x.w):=by
 have:i=0\/i=1\/i=2:=by lia
 rcases this with rfl | rfl | rfl
 ·exact ⟨.a,by rw[Nm.w,zx,o_a];rfl⟩
 ·exact ⟨.b,by rw[Nm.w,zx,o_b];rfl⟩
 ·exact ⟨.c,by rw[Nm.w,zx,o_c];rfl⟩
theorem uF (i:Int) (h0:0<=i) (h1:i < 6):∃ n:Int,Wth n/\fU (.lst [.int 0,.int 1,.int 2,.int 3,.int 10,.int 10006]) (.int i)=some (.int n):=by
 have:i=0\/i=1\/i=2\/i=3\/i=4\/i=5:=by lia
 rcases this with rfl | rfl | rfl | rfl | rfl | rfl
 ·exact ⟨0,⟨by decide,by decide⟩,rfl⟩
 ·exact ⟨1,⟨by decide,by decide⟩,rfl⟩
 ·exact ⟨2,⟨by decide,by decide⟩,rfl⟩
 ·exact ⟨3,⟨by decide,by decide⟩,rfl⟩
 ·exact ⟨10,⟨by decide,by decide⟩,rfl⟩
 ·exact ⟨10006,⟨by decide,by decide⟩,rfl⟩
theorem Gf (i:Int) (h0:0<=i) (h1:i < 4):∃ o:Op,fU (.lst [.str "add",.str "sub",.str "mul",.str "less"]) (.int i)=some (.str o.w):=by
 have:i=0\/i=1\/i=2\/i=3:=by lia
 rcases this with rfl | rfl | rfl | rfl
 ·exact ⟨.add,rfl⟩
 ·exact ⟨.sub,rfl⟩
 ·exact ⟨.mul,rfl⟩
 ·exact ⟨.less,rfl⟩
theorem zy (L:Lw T) (ns:List Int) (hl:ns.length<=1000) (p n:Int) (k:Nat) (rest:Sl) (h:HH) (c:drw ns (p+1) 2=0) (en:fU (.lst [.int 0,.int 1,.int 2,.int 3,.int 10,.int 10006]) (.int (drw ns (p+2) 6))=some (.int n)) :
 evS (runN T G (k+2)) G smL (some (.p (.lst (c9 ns))) :: some (.p (.int p)) :: rest) h=some (.rt (.p (Sm.num n).enc) h):=by
 have dr:=fun q many (hm:0 < many)=>eN (G:=G) L k ns hl q many hm
 simp[-fy,-iX,smL,dr,c,en,Sm.enc]
theorem zA (L:Lw T) (ns:List Int) (hl:ns.length<=1000) (p:Int) (x:Nm) (k:Nat) (rest:Sl) (h:HH) (c:¬ drw ns (p+1) 2=0) (ex:fU (.str "abcf") (.int (drw ns (p+2) 4))=some (.str x.w)) :
 evS (runN T G (k+2)) G smL (some (.p (.lst (c9 ns))) :: some (.p (.int p)) :: rest) h=some (.rt (.p (Sm.nam x).enc) h):=by
 have dr:=fun q many (hm:0 < many)=>eN (G:=G) L k ns hl q many hm
 simp[-fy,-iX,smL,dr,c,ex,Sm.enc]
theorem pK (L:Lw T) (ns:List Int) (hl:ns.length<=1000):∀ (deep:Nat) (p:Int),∃ s:Sm,s.ok/\s.size+1<=2 ^ (deep+1)/\∀ (m:Nat) (h:HH),
 runN T G (m+deep+3) "_law_sum" [.p (.lst (c9 ns)),.p (.int p),.p (.int deep)] h=some (.p s.enc,h):=by
 intro deep
 induction deep with
 | zero =>
  intro p
  have dr:=fun m q many (hm:0 < many)=>eN (G:=G) L m ns hl q many hm
  obtain ⟨x,ex⟩:=uE (drw ns (p+2) 4) (fj _ _ (by decide)) (fB _ _ (by decide))
  obtain ⟨n,hn,en⟩:=uF (drw ns (p+2) 6) (fj _ _ (by decide)) (fB _ _ (by decide))
  have key:∀ (s:Sm) (m:Nat) (h:HH),(∀ rest,evS (runN T G (m+2)) G smL (some (.p (.lst (c9 ns))) :: some (.p (.int p)) :: rest) h=some (.rt (.p s.enc) h))->runN T G (m+0+3) "_law_sum" [.p (.lst (c9 ns)),.p (.int p),.p (.int ((0:Nat):Int))] h=some (.p s.enc,h):=fun s m h q=>by
   rw[run_eq L.sum rfl]
   simp[fz,dr,q,cS]
  by_cases c:drw ns (p+1) 2=0
  ·exact ⟨.num n,hn,by simp[Sm.size],fun m h=>key _ m h fun rest=>zy L ns hl p n m rest h c en⟩
  ·exact ⟨.nam x,trivial,by simp[Sm.size],fun m h=>key _ m h fun rest=>zA L ns hl p x m rest h c ex⟩
 | succ deep ih =>
  intro p
  have dr:=fun m q many (hm:0 < many)=>eN (G:=G) L m ns hl q many hm
  obtain ⟨x,ex⟩:=uE (drw ns (p+2) 4) (fj _ _ (by decide)) (fB _ _ (by decide))
  obtain ⟨n,hn,en⟩:=uF (drw ns (p+2) 6) (fj _ _ (by decide)) (fB _ _ (by decide))
  obtain ⟨s,so,ss,sr0⟩:=ih (p*2+5)
  obtain ⟨t,to,tt,tr0⟩:=ih (p*2+19)
  have ee:∀ m,m+(deep+1)+2=m+deep+3:=fun m=>by lia
  have sr:=fun m h=>(ee m).symm ▸ sr0 m h
  have tr:=fun m h=>(ee m).symm ▸ tr0 m h
  have d0:¬ ((deep:Int)+1=0):=by lia
  have d1:((deep:Int)+1 - 1)=deep:=by lia
  have b2:big 2=true:=by decide
  have w0:=fj ns p (many:=10) (by decide)
  have w1:=fB ns p (many:=10) (by decide)
  have pw:2 ^ (deep+1+1)=2 ^ (deep+1)+2 ^ (deep+1):=by lia
  by_cases c1:drw ns p 10 < 4
  ·have key:∀ (s:Sm) (m:Nat) (h:HH),(∀ rest,evS (runN T G (m+deep+1+2)) G smL (some (.p (.lst (c9 ns))) :: some (.p (.int p)) :: rest) h=some (.rt (.p s.enc) h))->runN T G (m+(deep+1)+3) "_law_sum" [.p (.lst (c9 ns)),.p (.int p),.p (.int ((deep+1:Nat):Int))] h=some (.p s.enc,h):=fun s m h q=>by
    rw[run_eq L.sum rfl]
    have dq:=dr (m+(deep+1))
    have q:∀ rest,evS (runN T G (m+(deep+1)+2)) G smL (some (.p (.lst (c9 ns))) :: some (.p (.int p)) :: rest) h=some (.rt (.p s.enc) h):=q
    simp[fz,dq,c1,d0,q,cS]
   by_cases c:drw ns (p+1) 2=0
   ·exact ⟨.num n,hn,by simp only[Sm.size];lia,fun m h=>key _ m h fun rest=>zy L ns hl p n (m+deep+1) rest h c en⟩
   ·exact ⟨.nam x,trivial,by simp only[Sm.size];lia,fun m h=>key _ m h fun rest=>zA L ns hl p x (m+deep+1) rest h c ex⟩
  ·by_cases c2:drw ns p 10 < 6
   ·refine ⟨.cell s,so,by simp only[Sm.size];lia,fun m h=>?_⟩
    rw[run_eq L.sum rfl]
    simp[-fy,-iX,fz,smR,dr,c1,c2,d0,d1,b2,sr,cS,Sm.enc]
   ·obtain ⟨o,eo⟩:=Gf (drw ns p 10 - 6) (by lia) (by lia)
    refine ⟨.two o s t,⟨so,to⟩,by simp only[Sm.size];lia,fun m h=>?_⟩
    rw[run_eq L.sum rfl]
    simp[-fy,-iX,fz,smR,dr,c1,c2,d0,d1,b2,sr,tr,eo,cS,Sm.enc]
end
noncomputable def DH:S:=(.ret (.idx (.lst false (.cons (.tup (.cons (.cst (.str "call")) (.cons (.var 4) .nil))) (.cons (.tup (.cons (.cst (.str "call")) (.cons (.var 4) .nil))) (.cons (.tup (.cons (.cst (.str "back")) .nil)) (.cons (.idx (.lst false (.cons (.tup (.cons (.cst (.str "stop")) .nil)) (.cons (.tup (.cons (.cst (.str "back")) .nil)) .nil))) (.bin .mod (.var 4) (.cst (.int 2)))) .nil))))) (.bin .sub (.var 3) (.cst (.int 12)))))
noncomputable def rA3:S:=(.ret (.idx (.lst false (.cons (.tup (.cons (.cst (.str "jump")) (.cons (.var 4) .nil))) (.cons (.tup (.cons (.cst (.str "unless")) (.cons (.var 6) (.cons (.var 4) .nil)))) (.cons (.tup (.cons (.cst (.str "unless")) (.cons (.tup (.cons (.cst (.str "name")) (.cons (.var 5) .nil))) (.cons (.var 4) .nil)))) .nil)))) (.bin .sub (.var 3) (.cst (.int 9)))))
noncomputable def zB:S:=(.seq (.ife (.cmp .lt (.var 3) (.cst (.int 12))) rA3 .nil) DH)
noncomputable def rA2:S:=(.ret (.idx (.lst false (.cons (.tup (.cons (.cst (.str "ask")) (.cons (.var 5) .nil))) (.cons (.tup (.cons (.cst (.str "say")) (.cons (.var 6) .nil))) .nil))) (.bin .sub (.var 3) (.cst (.int 7)))))
noncomputable def uG:S:=(.seq (.ife (.cmp .lt (.var 3) (.cst (.int 9))) rA2 .nil) zB)
noncomputable def rA1:S:=(.ret (.tup (.cons (.cst (.str "put")) (.cons (.call "_law_sum" (.cons (.var 0) (.cons (.bin .add (.var 1) (.cst (.int 9))) (.cons (.cst (.int 1)) .nil)))) (.cons (.var 6) .nil)))))
noncomputable def qV:S:=(.seq (.ife (.cmp .lt (.var 3) (.cst (.int 7))) rA1 .nil) uG)
noncomputable def rA0:S:=(.ret (.tup (.cons (.cst (.str "set")) (.cons (.var 5) (.cons (.var 6) .nil)))))
noncomputable def sJ:S:=(.seq (.ife (.cmp .lt (.var 3) (.cst (.int 5))) rA0 .nil) qV)
theorem ny:iI=⟨["_law_script","_law_at","_law_size"],["_law_script","_law_at","_law_size","_law_way","_law_place","_law_name","_law_one"],
 (.seq (.set 3 (.call "_law_drawn" (.cons (.var 0) (.cons (.var 1) (.cons (.cst (.int 16)) .nil)))))
 (.seq (.set 4 (.call "_law_drawn" (.cons (.var 0) (.cons (.bin .add (.var 1) (.cst (.int 1))) (.cons (.bin .add (.var 2) (.cst (.int 1))) .nil)))))
 (.seq (.set 5 (.idx (.cst (.str "abc")) (.call "_law_drawn" (.cons (.var 0) (.cons (.bin .add (.var 1) (.cst (.int 2))) (.cons (.cst (.int 3)) .nil))))))
 (.seq (.set 6 (.call "_law_sum" (.cons (.var 0) (.cons (.bin .add (.var 1) (.cst (.int 3))) (.cons (.cst (.int 2)) .nil)))))
 sJ))))⟩:=rfl
section
theorem CH (L:Lw T) (ns:List Int) (hl:ns.length<=1000) (p:Int) (size:Nat):∃ r:Rw,r.ok size/\∀ (m:Nat) (h:HH),
 runN T G (m+6) "_law_row" [.p (.lst (c9 ns)),.p (.int p),.p (.int size)] h=some (.p r.enc,h):=by
 have dr:=fun m q many (hm:0 < many)=>eN (G:=G) L m ns hl q many hm
 obtain ⟨x,ex⟩:=Ge (drw ns (p+2) 3) (fj _ _ (by decide)) (fB _ _ (by decide))
 obtain ⟨s,so,ss,sr⟩:=pK (G:=G) L ns hl 2 (p+3)
 obtain ⟨t,to,tt,tr⟩:=pK (G:=G) L ns hl 1 (p+9)
 have w0:=fj ns p (many:=16) (by decide)
 have w1:=fB ns p (many:=16) (by decide)
 have sz:(0:Int) < (size:Int)+1:=by lia
 have p0:=fj ns (p+1) sz
 have p1:=fB ns (p+1) sz
 obtain ⟨pl,hpl⟩:∃ pl:Nat,drw ns (p+1) ((size:Int)+1)=(pl:Int):=⟨(drw ns (p+1) ((size:Int)+1)).toNat,by lia⟩
 have ple:pl<=size:=by lia
 have sok:pI s:=⟨so,by lia⟩
 have tok:pI t:=⟨to,by lia⟩
 have sr':=fun m h=>sr (m+0) h
 have tr':=fun m h=>tr (m+1) h
 simp at sr' tr'
 have dp:=fun m h=>dr m (p+1) ((size:Int)+1) sz h
 rw[hpl] at dp
 have pre:∀ (m:Nat) (h:HH),runN T G (m+6) "_law_row" [.p (.lst (c9 ns)),.p (.int p),.p (.int size)] h =
  qB (evS (runN T G (m+5)) G sJ [some (.p (.lst (c9 ns))),some (.p (.int p)),some (.p (.int size)),some (.p (.int (drw ns p 16))),some (.p (.int (pl:Int))),some (.p (.str x.w)),some (.p s.enc)] h) (fin h):=fun m h=>by
  rw[run_eq L.row rfl,ny]
  simp[-iX,dp,dr,ex,sr']
 by_cases c1:drw ns p 16 < 5
 ·refine ⟨.set x s,sok,fun m h=>?_⟩
  rw[pre]
  simp[-fy,-iX,sJ,rA0,c1,cS,Rw.enc]
 ·by_cases c2:drw ns p 16 < 7
  ·refine ⟨.put t s,⟨tok,sok⟩,fun m h=>?_⟩
   rw[pre]
   simp[-fy,-iX,sJ,qV,rA1,tr',c1,c2,cS,Rw.enc]
  ·by_cases c3:drw ns p 16 < 9
   ·obtain ⟨r,ro,ix⟩:∃ r:Rw,r.ok size/\fU (.lst [.tup [.str "ask",.str x.w],.tup [.str "say",s.enc]]) (.int (drw ns p 16 - 7))=some r.enc:=by
     have c:drw ns p 16=7\/drw ns p 16=8:=by lia
     rcases c with c | c<;>rw[c]
     ·exact ⟨.ask x,trivial,rfl⟩
     ·exact ⟨.say s,sok,rfl⟩
    refine ⟨r,ro,fun m h=>?_⟩
    rw[pre]
    simp[-fy,sJ,qV,uG,rA2,c1,c2,c3,ix,cS]
   ·by_cases c4:drw ns p 16 < 12
    ·obtain ⟨r,ro,ix⟩:∃ r:Rw,r.ok size/\fU (.lst [.tup [.str "jump",.int pl],.tup [.str "unless",s.enc,.int pl],.tup [.str "unless",.tup [.str "name",.str x.w],.int pl]]) (.int (drw ns p 16 - 9))=some r.enc:=by
      have c:drw ns p 16=9\/drw ns p 16=10\/drw ns p 16=11:=by lia
      rcases c with c | c | c<;>rw[c]
      ·exact ⟨.jump pl,ple,rfl⟩
      ·exact ⟨.unless s pl,⟨sok,ple⟩,rfl⟩
      ·exact ⟨.unless (.nam x) pl,⟨⟨trivial,by simp[Sm.size]⟩,ple⟩,rfl⟩
     refine ⟨r,ro,fun m h=>?_⟩
     rw[pre]
     simp[-fy,sJ,qV,uG,zB,rA3,c1,c2,c3,c4,ix,cS]
    ·obtain ⟨u,uo,iu⟩:∃ u:Rw,u.ok size/\fU (.lst [.tup [.str "stop"],.tup [.str "back"]]) (.int ((pl:Int) % 2))=some u.enc:=by
      have z:(pl:Int) % 2=0\/(pl:Int) % 2=1:=by lia
      rcases z with z | z<;>rw[z]
      ·exact ⟨.stop,trivial,rfl⟩
      ·exact ⟨.back,trivial,rfl⟩
     obtain ⟨r,ro,ix⟩:∃ r:Rw,r.ok size/\fU (.lst [.tup [.str "call",.int pl],.tup [.str "call",.int pl],.tup [.str "back"],u.enc]) (.int (drw ns p 16 - 12))=some r.enc:=by
      have c:drw ns p 16=12\/drw ns p 16=13\/drw ns p 16=14\/drw ns p 16=15:=by lia
      rcases c with c | c | c | c<;>rw[c]
      ·exact ⟨.call pl,ple,rfl⟩
      ·exact ⟨.call pl,ple,rfl⟩
      ·exact ⟨.back,trivial,rfl⟩
      ·exact ⟨u,uo,rfl⟩
     refine ⟨r,ro,fun m h=>?_⟩
     rw[pre]
     simp[-fy,sJ,qV,uG,zB,DH,c1,c2,c3,c4,iu,ix,cS]
theorem comp_map (f:List D->HH->Option (Option D×HH)) (g:D->D):∀ (ds:List D) (h:HH),(∀ d∈ds,∀ h,f [d] h=some (some (g d),h))->dm f 1 ds h=some (ds.map g,h):=by
 intro ds
 induction ds with
 | nil=>intro h _;rfl
 | cons d r ih =>
  intro h hf
  have e1:=hf d NV h
  have e2:=ih h fun x hx=>hf x (NP _ hx)
  rw[dm,qy]
  simp[e1,e2]
theorem zC (h:d∈upto 0 n):∃ k:Nat,k < n/\d=.int k:=by
 simp[upto] at h
 obtain ⟨k,hk,e⟩:=h
 exact ⟨k,hk,e.symm⟩
theorem zD (n:Nat) (g:D->D):(upto 0 n).map g=(OR n).map fun (k:Nat)=>g (.int k):=by
 simp[upto,Function.comp_def]
noncomputable def zE:E:=.call "_law_row" (.cons (.var 1) (.cons (.bin .add (.bin .add (.var 2) (.cst (.int 10))) (.bin .mul (.cst (.int 40)) (.var 0))) (.cons (.var 3) .nil)))
structure Drawn (p:Pg):Prop where
 ok:Pg.ok p
 lo:1<=p.length
 hi:p.length<=9
noncomputable def ja (n:Int) (o:Op):Pg:=[.ask .a,.call 4,.say (.nam .a),.jump 0,.put (.nam .a) (.num n),.call 7,.back,.set .b (.two o (.nam .b) (.nam .a)),.back]
theorem pL (n:Int) (o:Op) (h:Wth n):Drawn (ja n o):=by
 refine ⟨?_,by simp[ja],by simp[ja]⟩
 intro r hr
 simp only[ja,PX,O0,or_false] at hr
 rcases hr with rfl | rfl | rfl | rfl | rfl | rfl | rfl | rfl | rfl<;>simp[Rw.ok,ja,pI,Sm.ok,Sm.size,h]
theorem mS (L:Lw T)
 (ns:List Int) (hl:ns.length<=1000) (p:Int)
 (run1:∀ (m:Nat) (h:HH) (n:Int) (o:Op),drw ns (p+1) 4=0->n=drw ns (p+2) 9->fU (.lst [.str "add",.str "sub"]) (.int (drw ns (p+3) 2))=some (.str o.w) →
  (∀ m q many,0 < many->∀ h,runN T G (m+2) "_law_drawn" [.p (.lst (c9 ns)),.p (.int q),.p (.int many)] h=some (.p (.int (drw ns q many)),h)) →
  runN T G (m+7) "_law_program" [.p (.lst (c9 ns)),.p (.int p)] h=some (.p (kN (ja n o)),h))
 (run2:∀ (m:Nat) (h:HH) (pg:Pg),drw ns (p+1) 4≠0->pg.length=(1+drw ns p 9).toNat →
  (∀ m q many,0 < many->∀ h,runN T G (m+2) "_law_drawn" [.p (.lst (c9 ns)),.p (.int q),.p (.int many)] h=some (.p (.int (drw ns q many)),h)) →
  (∀ h,dm (dX (fun _ h=>some ([],h)) (ev (runN T G (m+6)) G zE) [some (.p (.lst (c9 ns))),some (.p (.int p)),some (.p (.int (1+drw ns p 9)))]) 1 (upto 0 (1+drw ns p 9).toNat) h=some (pg.map Rw.enc,h)) →
  runN T G (m+7) "_law_program" [.p (.lst (c9 ns)),.p (.int p)] h=some (.p (kN pg),h)) :
 ∃ pg:Pg,Drawn pg/\∀ (m:Nat) (h:HH),runN T G (m+7) "_law_program" [.p (.lst (c9 ns)),.p (.int p)] h=some (.p (kN pg),h):=by
 have dr:=fun m q many (hm:0 < many)=>eN (G:=G) L m ns hl q many hm
 by_cases c:drw ns (p+1) 4=0
 ·have d0:=fj ns (p+3) (many:=2) (by decide)
  have d1:=fB ns (p+3) (many:=2) (by decide)
  have e0:=fj ns (p+2) (many:=9) (by decide)
  have e1:=fB ns (p+2) (many:=9) (by decide)
  have z:drw ns (p+3) 2=0\/drw ns (p+3) 2=1:=by lia
  have:∃ o:Op,fU (.lst [.str "add",.str "sub"]) (.int (drw ns (p+3) 2))=some (.str o.w):=by
   rcases z with z | z<;>rw[z]
   ·exact ⟨.add,rfl⟩
   ·exact ⟨.sub,rfl⟩
  obtain ⟨o,eo⟩:=this
  exact ⟨ja (drw ns (p+2) 9) o,pL _ _ ⟨by lia,by lia⟩,fun m h=>run1 m h _ o c rfl eo dr⟩
 ·have d0:=fj ns p (many:=9) (by decide)
  have d1:=fB ns p (many:=9) (by decide)
  obtain ⟨sz,hsz⟩:∃ sz:Nat,1+drw ns p 9=(sz:Int):=⟨(1+drw ns p 9).toNat,by lia⟩
  have ch:∀ k:Nat,∃ r:Rw,r.ok sz/\∀ (m:Nat) (h:HH),runN T G (m+6) "_law_row" [.p (.lst (c9 ns)),.p (.int (p+10+40*(k:Int))),.p (.int sz)] h=some (.p r.enc,h) :=
   fun k=>CH L ns hl _ sz
  obtain ⟨g,hg⟩:=Classical.axiomOfChoice ch
  refine ⟨(OR sz).map g,⟨?_,by simp;lia,by simp;lia⟩,fun m h=>run2 m h _ c (by simp;lia) dr fun h=>?_⟩
  ·intro r hr
   simp at hr
   obtain ⟨k,_,rfl⟩:=hr
   simpa using (hg k).1
  ·rw[hsz]
   have b:big 40=true:=by decide
   have he:∀ (k:Nat) (h:HH),ev (runN T G (m+6)) G zE [some (.p (.int k)),some (.p (.lst (c9 ns))),some (.p (.int p)),some (.p (.int sz))] h=some (.p (g k).enc,h):=fun k h=>by
    have e:=(hg k).2
    simp[zE,e,b]
   have cm:=comp_map (dX (fun _ h=>some ([],h)) (ev (runN T G (m+6)) G zE) [some (.p (.lst (c9 ns))),some (.p (.int p)),some (.p (.int sz))]) (fun d=>match d with | .int k=>(g k.toNat).enc | _=>.non) (upto 0 sz) h (by
    intro d hd h
    obtain ⟨k,hk,rfl⟩:=zC hd
    simp[gD,he])
   rw[zD] at cm
   simp only[OU,Tw]
   rw[cm]
   rfl
end
section
noncomputable def prA:S:=(.seq (.set 3 (.tup (.cons (.cst (.str "put")) (.cons (.tup (.cons (.cst (.str "name")) (.cons (.cst (.str "a")) .nil))) (.cons (.tup (.cons (.cst (.str "num")) (.cons (.call "_law_drawn" (.cons (.var 0) (.cons (.bin .add (.var 1) (.cst (.int 2))) (.cons (.cst (.int 9)) .nil)))) .nil))) .nil)))))
 (.seq (.set 4 (.idx (.lst false (.cons (.cst (.str "add")) (.cons (.cst (.str "sub")) .nil))) (.call "_law_drawn" (.cons (.var 0) (.cons (.bin .add (.var 1) (.cst (.int 3))) (.cons (.cst (.int 2)) .nil))))))
 (.seq (.set 5 (.tup (.cons (.tup (.cons (.cst (.str "ask")) (.cons (.cst (.str "a")) .nil))) (.cons (.tup (.cons (.cst (.str "call")) (.cons (.cst (.int 4)) .nil))) (.cons (.tup (.cons (.cst (.str "say")) (.cons (.tup (.cons (.cst (.str "name")) (.cons (.cst (.str "a")) .nil))) .nil))) (.cons (.tup (.cons (.cst (.str "jump")) (.cons (.cst (.int 0)) .nil))) (.cons (.var 3) .nil)))))))
 (.ret (.bin .add (.var 5) (.tup (.cons (.tup (.cons (.cst (.str "call")) (.cons (.cst (.int 7)) .nil))) (.cons (.tup (.cons (.cst (.str "back")) .nil)) (.cons (.tup (.cons (.cst (.str "set")) (.cons (.cst (.str "b")) (.cons (.tup (.cons (.var 4) (.cons (.tup (.cons (.cst (.str "name")) (.cons (.cst (.str "b")) .nil))) (.cons (.tup (.cons (.cst (.str "name")) (.cons (.cst (.str "a")) .nil))) .nil)))) .nil)))) (.cons (.tup (.cons (.cst (.str "back")) .nil)) .nil))))))))))
noncomputable def prB:S:=(.ret (.bi .tuple false (.cons (.comp false .rng1 (.cons (.var 2) .nil) ["_law_k"] [(0,"_law_script"),(1,"_law_at"),(2,"_law_size")] .nil zE) .nil)))
theorem gz:eV=⟨["_law_script","_law_at"],["_law_script","_law_at","_law_size","_law_put","_law_sign","_law_rows"],
 (.seq (.set 2 (.bin .add (.cst (.int 1)) (.call "_law_drawn" (.cons (.var 0) (.cons (.var 1) (.cons (.cst (.int 9)) .nil))))))
 (.seq (.ife (.cmp .eq (.call "_law_drawn" (.cons (.var 0) (.cons (.bin .add (.var 1) (.cst (.int 1))) (.cons (.cst (.int 4)) .nil)))) (.cst (.int 0))) prA .nil)
 prB))⟩:=rfl
theorem qW (L:Lw T) (hP:T "_law_program"=some eV) (ns:List Int) (hl:ns.length<=1000) (p:Int) :
 ∃ pg:Pg,Drawn pg/\∀ (m:Nat) (h:HH),runN T G (m+7) "_law_program" [.p (.lst (c9 ns)),.p (.int p)] h=some (.p (kN pg),h):=by
 refine mS L ns hl p (fun m h n o c en eo dr=>?_) (fun m h pg c el dr cm=>?_)
 ·rw[run_eq hP rfl]
  have d:=fun q many hm h=>dr (m+4) q many hm h
  rw[gz]
  simp[-fy,prA,d,c,eo,cS,kN,ja,Rw.enc,Sm.enc,← en,Nm.w]
 ·rw[run_eq hP rfl]
  have d:=fun q many hm h=>dr (m+4) q many hm h
  have d0:=fj ns p (many:=9) (by decide)
  have d1:=fB ns p (many:=9) (by decide)
  have c0:-100000<=1+drw ns p 9:=by lia
  have c1:1+drw ns p 9<=100000:=by lia
  have c2:pg.length<=100000:=by lia
  have cm':=cm h
  rw[gz]
  simp[-dX,prB,d,c,c0,c1,c2,cm',cS,kN,iQ]
mutual
theorem gW:∀ d:D,eqv d d=true
 | .non=>rfl
 | .bl b=>by simp
 | .int i=>by simp
 | .str x=>by simp
 | .tup xs=>by simp[jx xs]
 | .lst xs=>by simp[jx xs]
theorem jx:∀ ds:List D,m7 ds ds=true
 | []=>rfl
 | d :: r=>by simp[gW d,jx r]
end
theorem qX (n:Nat) (xs:List Int):(c9 xs).all (dok n)=true:=by simp[c9,Oz]
@[simp] theorem Gg (ds:List D):m7 ds ds=true:=jx ds
@[simp] theorem G3 (d:D):eqv d d=true:=gW d
@[simp] theorem G4 (x:D) (xs:List Int):d8 x (.tup (c9 xs))=true:=xH (qX 99 xs)
@[simp] theorem JF (x:D) (xs ys:List Int):d8 x (.tup [.tup (c9 xs),.tup (c9 ys)])=true:=xH (by simp[qX])
end
section
variable {T:FK->Option Fn}{G:Str->Option W}
end
structure Tp where
 p:Pg
 asked:List Int
 gap:Nat
 most:Nat
 kept:List St
 far:Nat
 front:St
 now:Nat
noncomputable def Tp.fs (t:Tp) (r:Nat):List (Str×W):=[("program",.p (kN t.p)),("asked",.p (.lst (c9 t.asked))),("gap",.p (.int t.gap)),("most",.p (.int t.most)),("kept",.r r),("farthest",.p (.int t.far)),("front",.p t.front.enc),("now",.p (.int t.now))]
section
variable (t:Tp) (r:Nat)
end
noncomputable def gA:Fn:=⟨["thing"],["thing"],
 (.ret (.and (.bi .isInt false (.cons (.var 0) .nil)) (.not (.bi .isBool false (.cons (.var 0) .nil)))))⟩
section
noncomputable def Tp.keep (t:Tp) (st:St):Tp:=if t.kept.length < 8 then { t with kept:=t.kept++[st] } else { t with kept:=(OR 5).filterMap fun i=>(t.kept++[st])[2*i]?,gap:=2*t.gap }
end
noncomputable def k9:S:=(.seq (.set 3 (.me .pop (.var 1) .nil))
 (.seq (.aug 2 .add (.cst (.int 1)))
 (.seq (.ife (.or (.cmp .gt (.var 2) (.glo "MOST_PARTS")) (.not (.call "has_sum_form" (.cons (.var 3) .nil)))) (.ret (.cst (.bl false))) .nil)
 (.ex (.me .extend (.var 1) (.cons (.call "inner_sums" (.cons (.var 3) .nil)) .nil))))))
noncomputable def gn:Fn:=⟨["thing"],["thing"],
 (.ret (.and (.call "is_whole" (.cons (.var 0) .nil)) (.chain .le .lt (.cst (.int 0)) (.var 0) (.glo "WORTH_COUNT"))))⟩
noncomputable def gq:Fn:=⟨["thing","row_count"],["thing","row_count"],
 (.ret (.and (.call "is_whole" (.cons (.var 0) .nil)) (.chain .le .le (.cst (.int 0)) (.var 0) (.var 1))))⟩
noncomputable def e9:Fn:=⟨["thing"],["thing"],
 (.seq (.ife (.and (.bi .isTuple false (.cons (.var 0) .nil)) (.and (.cmp .gt (.bi .len false (.cons (.var 0) .nil)) (.cst (.int 0))) (.bi .isStr false (.cons (.idx (.var 0) (.cst (.int 0))) .nil)))) (.ret (.idx (.var 0) (.cst (.int 0)))) .nil)
 (.ret (.cst .non)))⟩
noncomputable def dJ:Fn:=⟨["part"],["part"],
 (.seq (.ife (.cmp .eq (.idx (.glo "INNER_COUNTS") (.idx (.var 0) (.cst (.int 0)))) (.cst (.int 0))) (.ret (.tup .nil)) .nil)
 (.ret (.slc (.var 0) (.cons (.cst (.int 1)) .nil) .nil)))⟩
noncomputable def cW:Fn:=⟨["thing"],["thing","word"],
 (.seq (.set 1 (.call "first_word" (.cons (.var 0) .nil)))
 (.seq (.ife (.cmp .eq (.var 1) (.cst (.str "num"))) (.ret (.and (.cmp .eq (.bi .len false (.cons (.var 0) .nil)) (.cst (.int 2))) (.call "is_worth" (.cons (.idx (.var 0) (.cst (.int 1))) .nil)))) .nil)
 (.seq (.ife (.cmp .eq (.var 1) (.cst (.str "name"))) (.ret (.and (.cmp .eq (.bi .len false (.cons (.var 0) .nil)) (.cst (.int 2))) (.call "is_name" (.cons (.idx (.var 0) (.cst (.int 1))) .nil)))) .nil)
 (.ret (.and (.cmp .mem (.var 1) (.glo "INNER_COUNTS")) (.cmp .eq (.bi .len false (.cons (.var 0) .nil)) (.bin .add (.idx (.glo "INNER_COUNTS") (.var 1)) (.cst (.int 1)))))))))⟩
noncomputable def j6:Fn:=⟨["thing"],["thing","waiting","parts","part"],
 (.seq (.set 1 (.lst true (.cons (.var 0) .nil)))
 (.seq (.set 2 (.cst (.int 0)))
 (.seq (.whl (.cmp .gt (.bi .len false (.cons (.var 1) .nil)) (.cst (.int 0))) k9)
 (.ret (.cst (.bl true))))))⟩
noncomputable def kO:Fn:=⟨["thing","form","row_count"],["thing","form","row_count"],
 (.seq (.ife (.cmp .eq (.var 1) (.cst (.str "name"))) (.ret (.call "is_name" (.cons (.var 0) .nil))) .nil)
 (.seq (.ife (.cmp .eq (.var 1) (.cst (.str "place"))) (.ret (.call "is_place" (.cons (.var 0) (.cons (.var 2) .nil)))) .nil)
 (.ret (.call "is_sum" (.cons (.var 0) .nil)))))⟩
noncomputable def j7:Fn:=⟨["thing","row_count"],["thing","row_count","forms"],
 (.seq (.set 2 (.tx .dget (.cons (.glo "ROW_FORMS") (.cons (.call "first_word" (.cons (.var 0) .nil)) .nil))))
 (.seq (.ife (.or (.cmp .isN (.var 2) (.cst .non)) (.cmp .ne (.bi .len false (.cons (.var 0) .nil)) (.bin .add (.bi .len false (.cons (.var 2) .nil)) (.cst (.int 1))))) (.ret (.cst (.bl false))) .nil)
 (.ret (.tx .all (.cons (.comp false .zipG (.cons (.slc (.var 0) (.cons (.cst (.int 1)) .nil) .nil) (.cons (.var 2) .nil)) ["part","form"] [(1,"row_count")] .nil (.call "fits" (.cons (.var 0) (.cons (.var 1) (.cons (.var 2) .nil))))) .nil)))))⟩
noncomputable def f6:Fn:=⟨["thing"],["thing"],
 (.seq (.ife (.or (.not (.bi .isTuple false (.cons (.var 0) .nil))) (.cmp .gt (.bi .len false (.cons (.var 0) .nil)) (.glo "MOST_ROWS"))) (.ret (.cst (.bl false))) .nil)
 (.ret (.tx .all (.cons (.comp false .seq (.cons (.var 0) .nil) ["row"] [(0,"thing")] .nil (.call "is_row" (.cons (.var 0) (.cons (.bi .len false (.cons (.var 1) .nil)) .nil)))) .nil))))⟩
noncomputable def iK:List (Str×D):=[("num",.int 0),("name",.int 0),("cell",.int 1),("add",.int 2),("sub",.int 2),("mul",.int 2),("less",.int 2)]
noncomputable def sL:List (Str×D):=[("set",.tup [.str "name",.str "sum"]),("put",.tup [.str "sum",.str "sum"]),("ask",.tup [.str "name"]),("say",.tup [.str "sum"]),("jump",.tup [.str "place"]),("unless",.tup [.str "sum",.str "place"]),("call",.tup [.str "place"]),("back",.tup []),("stop",.tup [])]
noncomputable def wj (n:Int):Str:=NY (toString n)
noncomputable def Sm.hd:Sm->Str
 | .num n=>wj n
 | .nam i=>i.w
 | .cell _=>"cell"
 | .two o _ _=>o.w
noncomputable def Sm.wds:Sm->List Str
 | .num n=>[wj n]
 | .nam i=>[(i.w:Str)]
 | .cell s=>"cell" :: s.wds
 | .two o s t=>o.w :: (s.wds++t.wds)
section
variable {T:FK->Option Fn}{G:Str->Option W}
theorem Gi {n:Int} (hb:big n=true) (h:HH):kTx .str [.p (.int n)] h=some (.p (.str (wj n)),h):=by
 show (((if big n=true then some (D.str (toString n)) else none):Option D).map fun d=>(W.p d,h))=_
 rw[if_pos hb];rfl
theorem uH {n:Int} (h:Wth n):big n=true:=by
 obtain ⟨h0,h1⟩:=h
 unfold big
 exact decide_eq_true (by lia)
theorem cgo {F:FK->List W->HH->Option (W×HH)}{G:Str->Option W}{sr:Sr}{sa:Es}{tg:List Str}{fv:List (Nat×Str)}{cond:Es}{elt:E}{s:Sl}{h h1 h2:HH}{ws:List W}{ds xs:List D}{fs:Sl} (e1:evs F G sa s h=some (ws,h1)) (e2:(rds ws h1).bind (fP sr)=some ds) (e3:frees s fv=some fs) (e4:iQ ws=true) (e5:dm (dX (evs F G cond) (BT.ev F G elt) fs) tg.length ds h1=some (xs,h2)) (e6:xs.length<=100000):BT.ev F G (.comp false sr sa tg fv cond elt) s h=some (.p (.lst xs),h2):=by
 rw[BT.ev,e1,dH]
 unfold nR
 rw[e2,e3]
 show (if iQ ws=true then _ else _)=_
 rw[if_pos e4,e5,dH]
 unfold gK
 rw[if_pos (show xs.length<=lim from e6)];rfl
end
structure Prt where
 f:Str
 d:D
 ws:List Str
noncomputable def Prt.sm (s:Sm):Prt:=⟨"sum",s.enc,s.wds⟩
noncomputable def Prt.nm (x:Nm):Prt:=⟨"name",.str x.w,[(x.w:Str)]⟩
noncomputable def Prt.pl (p:Nat):Prt:=⟨"place",.int p,[wj p]⟩
noncomputable def Rw.prt:Rw->List Prt
 | .set x s=>[.nm x,.sm s]
 | .put s t=>[.sm s,.sm t]
 | .ask x=>[.nm x]
 | .say s=>[.sm s]
 | .jump p=>[.pl p]
 | .unless s p=>[.sm s,.pl p]
 | .call p=>[.pl p]
 | .back=>[]
 | .stop=>[]
inductive uI (n:Nat):Prt->Prop where
 | sm (s:Sm) (h:pI s):uI n (.sm s)
 | nm (x:Nm):uI n (.nm x)
 | pl (p:Nat) (h:p<=n):uI n (.pl p)
theorem Gj {n:Nat}{r:Rw} (h:r.ok n):∀ p∈r.prt,uI n p:=by
 cases r with
 | set x s=>intro p hp;rcases (show p=.nm x\/p=.sm s by simpa [Rw.prt] using hp) with rfl | rfl;exact .nm x;exact .sm s h
 | put s t=>intro p hp;rcases (show p=.sm s\/p=.sm t by simpa [Rw.prt] using hp) with rfl | rfl;exact .sm s h.1;exact .sm t h.2
 | ask x=>intro p hp;rw[show p=.nm x by simpa [Rw.prt] using hp];exact .nm x
 | say s=>intro p hp;rw[show p=.sm s by simpa [Rw.prt] using hp];exact .sm s h
 | jump q=>intro p hp;rw[show p=.pl q by simpa [Rw.prt] using hp];exact .pl q h
 | «unless» s q=>intro p hp;rcases (show p=.sm s\/p=.pl q by simpa [Rw.prt] using hp) with rfl | rfl;exact .sm s h.1;exact .pl q h.2
 | call q=>intro p hp;rw[show p=.pl q by simpa [Rw.prt] using hp];exact .pl q h
 | back=>intro p hp;cases hp
 | stop=>intro p hp;cases hp
noncomputable def Rw.wd (r:Rw):Str:=NY r.word
noncomputable def Rw.wds (r:Rw):List Str:=r.wd :: (r.prt.map Prt.ws).flatten
theorem uJ (r:Rw):r.enc=.tup (.str r.wd :: r.prt.map Prt.d):=by cases r<;>rfl
theorem uK (r:Rw):r.prt.length<=2:=by cases r<;>simp[Rw.prt]
theorem Gk {p n:Nat} (hn:n<=100) (h:p<=n):Wth (p:Int):=⟨by lia,by lia⟩
theorem CJ (r:Rw):r.word∈["set","put","ask","say","jump","unless","call","back","stop"]:=by cases r<;>simp[Rw.word]
section
variable {T:FK->Option Fn}{G:Str->Option W}
theorem zF (a:D) (l:List D):ng (.tup (a :: l)) (some 1) none=some (.tup l):=by
 have e1:clip (a :: l).length 0 (some 1)=1:=by
  show (if (1:Int) < 0 then ((1:Int)+((a :: l).length:Int)).toNat else if (1:Int)<=((a :: l).length:Int) then (1:Int).toNat else (a :: l).length)=1
  rw[if_neg (by decide),if_pos (by rw[NJ];lia)];rfl
 show some (D.tup (cut (a :: l) (some 1) none))=_
 unfold cut
 rw[e1]
 simp
end
section
variable {T:FK->Option Fn}{G:Str->Option W}
theorem n8:∀ bs:List Bool,boolsOf (bs.map .bl)=some bs
 | []=>rfl
 | b :: bs=>by
  show (boolsOf (bs.map .bl)).map (b :: ·)=_
  rw[n8 bs];rfl
theorem zG (bs:List Bool) (h:HH):kTx .all [.p (.lst (bs.map .bl))] h=some (.p (.bl (bs.all id)),h):=by
 show (((boolsOf (bs.map .bl)).map fun bs=>D.bl (bs.all id)).map fun d=>(W.p d,h))=_
 rw[n8];rfl
end
theorem dg1 (kvs:List (Str×D)) (x:Str) (h:HH):kTx .dget [.k (.t kvs),.p (.str x)] h=some (.p ((ef x kvs).getD .non),h):=rfl
section
variable {T:FK->Option Fn}{G:Str->Option W}
end
section
noncomputable def isC:E:=(.cmp .gt (.bi .len false (.cons (.var 1) .nil)) (.cst (.int 0)))
noncomputable def frE:E:=(.call "fits" (.cons (.var 0) (.cons (.var 1) (.cons (.var 2) .nil))))
noncomputable def ipE:E:=(.call "is_row" (.cons (.var 0) (.cons (.bi .len false (.cons (.var 1) .nil)) .nil)))
end
noncomputable def gE:D->Bool
 | .int i=>decide (0<=i)&&decide (i < 10007)
 | _=>false
noncomputable def jA (d:D):Bool:=zp.any fun y=>eqv y d
noncomputable def iL (n:Int):D->Bool
 | .int i=>decide (0<=i)&&decide (i<=n)
 | _=>false
noncomputable def mT (f:D->Bool):List D->Bool
 | [a]=>f a
 | _=>false
noncomputable def ar (w:Str):Nat:=if w="cell" then 1 else if w="add"\/w="sub"\/w="mul"\/w="less" then 2 else 0
noncomputable def dF (w:Str) (r:List D):Bool:=if w="num" then mT gE r else if w="name" then mT jA r else decide (0 < ar w)&&decide (r.length=ar w)
noncomputable def dO:D->Bool
 | .tup (.str w :: r)=>dF w r
 | _=>false
noncomputable def fR:D->List D
 | .tup (.str w :: r)=>if 0 < ar w then r else []
 | _=>[]
noncomputable def lp:Nat->List D->Option Nat
 | n,[]=>some n
 | 0,_ :: _=>none
 | n+1,s :: l=>if dO s=true then lp n (fR s++l) else none
theorem pM (n:Nat):lp n []=some n:=by cases n<;>rfl
theorem jb:∀ (n:Nat) (x y:List D),lp n (x++y)=(lp n x).bind fun m=>lp m y
 | n,[],y=>by rw[Sa,pM];rfl
 | 0,s :: l,y=>rfl
 | n+1,s :: l,y=>by
  show (if dO s=true then lp n (fR s++(l++y)) else none)=(if dO s=true then lp n (fR s++l) else none).bind _
  split
  ·rw[← Pr,jb n]
  ·rfl
theorem lI:∀ (N:Nat) (x:List D),∃ c,∀ n,n<=N->lp n x=if c<=n then some (n - c) else none
 | N,[]=>⟨0,fun n _=>by rw[pM,if_pos (Qo _)];rfl⟩
 | 0,s :: l=>⟨1,fun n h=>by
  have:n=0:=Nat.le_zero.mp h
  subst this;rfl⟩
 | N+1,s :: l=>by
  by_cases f:dO s=true
  ·obtain ⟨c,hc⟩:=lI N (fR s++l)
   refine ⟨c+1,fun n h=>?_⟩
   cases n with
   | zero=>rw[if_neg (by lia)];rfl
   | succ n =>
    show (if dO s=true then lp n (fR s++l) else none)=_
    rw[if_pos f,hc n (by lia)]
    by_cases q:c<=n
    ·rw[if_pos q,if_pos (by lia)];congr 1;lia
    ·rw[if_neg q,if_neg (by lia)]
  ·refine ⟨N+2,fun n h=>?_⟩
   rw[if_neg (by lia)]
   cases n with
   | zero=>rfl
   | succ n=>show (if dO s=true then _ else none)=_;rw[if_neg f]
theorem CK (n:Nat) (a b:D) (l:List D):lp n (b :: a :: l)=lp n (a :: b :: l):=by
 obtain ⟨ca,ha⟩:=lI n [a]
 obtain ⟨cb,hb⟩:=lI n [b]
 rw[show b :: a :: l=[b]++([a]++l) from rfl,show a :: b :: l=[a]++([b]++l) from rfl,jb,jb n [a],hb n (NI _),ha n (NI _)]
 by_cases q1:ca<=n
 ·by_cases q2:cb<=n
  ·rw[if_pos q1,if_pos q2]
   show lp (n - cb) ([a]++l)=lp (n - ca) ([b]++l)
   rw[jb,jb,ha _ (by lia),hb _ (by lia)]
   by_cases q3:ca+cb<=n
   ·rw[if_pos (by lia),if_pos (by lia),show n - cb - ca=n - ca - cb by lia]
   ·rw[if_neg (by lia),if_neg (by lia)]
  ·rw[if_pos q1,if_neg q2]
   show none=lp (n - ca) ([b]++l)
   rw[jb,hb _ (by lia),if_neg (by lia)];rfl
 ·rw[if_neg q1]
  by_cases q2:cb<=n
  ·rw[if_pos q2]
   show lp (n - cb) ([a]++l)=none
   rw[jb,ha _ (by lia),if_neg (by lia)];rfl
  ·rw[if_neg q2];rfl
theorem uL {s:D} (f:dO s=true):(fR s).length<=2:=by
 cases s with
 | tup xs =>
  cases xs with
  | nil=>exact dG f
  | cons x r =>
   cases x with
   | str w =>
    have f:dF w r=true:=f
    show (if 0 < ar w then r else []).length<=2
    split
    ·rename_i h
     have h1:w≠"num":=fun e=>by subst e;exact absurd h (by decide +kernel)
     have h2:w≠"name":=fun e=>by subst e;exact absurd h (by decide +kernel)
     unfold dF at f
     rw[if_neg h1,if_neg h2,NG,decide_eq_true_eq,decide_eq_true_eq] at f
     rw[f.2]
     unfold ar
     split
     ·decide
     ·split<;>decide
    ·simp
   | _=>exact dG f
 | _=>exact dG f
theorem Gm {s:D} (f:dO s=true) (n:Nat) (l:List D):lp n ((fR s).reverse++l)=lp n (fR s++l):=by
 have h:=uL f
 match e:fR s,h with
 | [],_=>rfl
 | [a],_=>rfl
 | [a,b],_=>exact CK n a b l
noncomputable def j8 (d:D):Bool:=(lp 15 [d]).isSome
inductive WC (w:Str):Prop where
 | num (h:w="num") | name (h:w="name") | cell (h:w="cell") | add (h:w="add") | sub (h:w="sub") | mul (h:w="mul") | less (h:w="less")
 | no (h1:¬ w="num") (h2:¬ w="name") (h3:¬ w="cell") (h4:¬ w="add") (h5:¬ w="sub") (h6:¬ w="mul") (h7:¬ w="less")
theorem wc (w:Str):WC w:=by
 by_cases h1:w="num"
 ·exact .num h1
 ·by_cases h2:w="name"
  ·exact .name h2
  ·by_cases h3:w="cell"
   ·exact .cell h3
   ·by_cases h4:w="add"
    ·exact .add h4
    ·by_cases h5:w="sub"
     ·exact .sub h5
     ·by_cases h6:w="mul"
      ·exact .mul h6
      ·by_cases h7:w="less"
       ·exact .less h7
       ·exact .no h1 h2 h3 h4 h5 h6 h7
structure P01 (T:FK->Option Fn) (G:Str->Option W):Prop where
 is_whole:T "is_whole"=some gA
 is_worth:T "is_worth"=some gn
 is_name:T "is_name"=some iG
 is_place:T "is_place"=some gq
 first_word:T "first_word"=some e9
 inner_sums:T "inner_sums"=some dJ
 has_sum_form:T "has_sum_form"=some cW
 is_sum:T "is_sum"=some j6
 fits:T "fits"=some kO
 is_row:T "is_row"=some j7
 is_program:T "is_program"=some f6
 LETTERS:G "LETTERS"=some (.p (.tup [.str "a",.str "b",.str "c",.str "d",.str "e",.str "f"]))
 WORTH_COUNT:G "WORTH_COUNT"=some (.p (.int 10007))
 MOST_PARTS:G "MOST_PARTS"=some (.p (.int 15))
 MOST_ROWS:G "MOST_ROWS"=some (.p (.int 20))
 INNER_COUNTS:G "INNER_COUNTS"=some (.k (.t iK))
 ROW_FORMS:G "ROW_FORMS"=some (.k (.t sL))
noncomputable def whB:D->Bool
 | .int _=>true
 | _=>false
noncomputable def fwD:D->D
 | .tup (.str w :: _)=>.str w
 | _=>.non
theorem qY (d:D):eZ .mem d (.tup zp)=some (jA d):=by
 rw[cV,if_pos]
 ·rfl
 ·rw[Oz]
  intro y hy
  have:∃ x,y=.str x:=by
   rcases (show y=.str "a"\/y=.str "b"\/y=.str "c"\/y=.str "d"\/y=.str "e"\/y=.str "f" by simpa [zp] using hy) with h | h | h | h | h | h<;>exact ⟨_,h⟩
  obtain ⟨x,rfl⟩:=this
  exact vC _ _
section
variable {T:FK->Option Fn}{G:Str->Option W}
theorem uM (P:P01 T G) (k:Nat) (d:D) (h:HH):runN T G (k+1) "is_whole" [.p d] h=some (.p (.bl (whB d)),h):=by
 rw[run_eq P.is_whole rfl]
 cases d<;>simp[gA,whB,cS]
theorem CM (P:P01 T G) (k:Nat) (d:D) (h:HH):runN T G (k+2) "is_worth" [.p d] h=some (.p (.bl (gE d)),h):=by
 rw[run_eq P.is_worth rfl]
 have a:=uM P k d h
 cases d with
 | int i =>
  by_cases c:0<=i<;>simp[gn,a,whB,gE,P.WORTH_COUNT,c,cS]
 | _=>simp[gn,a,whB,gE,cS]
theorem zH (P:P01 T G) (k:Nat) (d:D) (h:HH):runN T G (k+1) "is_name" [.p d] h=some (.p (.bl (jA d)),h):=by
 rw[run_eq P.is_name rfl]
 have g:G "LETTERS"=some (.p (.tup zp)):=P.LETTERS
 have m:=qY d
 generalize zp=L at *
 simp[-cV,iG,g,m,cS]
theorem CO (P:P01 T G) (k:Nat) (d:D) (n:Int) (h:HH):runN T G (k+2) "is_place" [.p d,.p (.int n)] h=some (.p (.bl (iL n d)),h):=by
 rw[run_eq P.is_place rfl]
 have a:=uM P k d h
 cases d with
 | int i =>
  by_cases c:0<=i<;>simp[gq,a,whB,iL,c,cS]
 | _=>simp[gq,a,whB,iL,cS]
theorem uN (P:P01 T G) (k:Nat) (d:D) (h:HH):runN T G (k+1) "first_word" [.p d] h=some (.p (fwD d),h):=by
 rw[run_eq P.first_word rfl]
 cases d with
 | tup xs =>
  cases xs with
  | nil=>simp[e9,fwD,cS]
  | cons x r =>
   have i0:fU (.tup (x :: r)) (.int 0)=some x:=by
    show atP _ ((0:Nat):Int)=_
    rw[iH];rfl
   have l2:(0:Int) < (r.length:Int)+1:=by lia
   cases x<;>simp[-dI,e9,i0,l2,fwD,cS]
 | _=>simp[e9,fwD,cS]
end
theorem pN (x:D) (r:List D):biD .len [.tup (x :: r)]=some (.int ((r.length:Int)+1)):=by
 rw[dj,NJ];rfl
theorem Gn (x:D) (r:List D):fU (.tup (x :: r)) (.int 0)=some x:=by
 show atP _ ((0:Nat):Int)=_
 rw[iH];rfl
theorem ME (x y:D) (r:List D):fU (.tup (x :: y :: r)) (.int 1)=some y:=by
 show atP _ ((1:Nat):Int)=_
 rw[iH];rfl
theorem MF (x y z:D) (r:List D):fU (.tup (x :: y :: z :: r)) (.int 2)=some z:=by
 show atP _ ((2:Nat):Int)=_
 rw[iH];rfl
theorem JG (r:List D) (h:r.length=1):∃ a,r=[a]:=by
 match r,h with
 | [a],_=>exact ⟨a,rfl⟩
theorem DI (f:D->Bool) (r:List D) (h:¬ r.length=1):mT f r=false:=by
 match r,h with
 | [],_=>rfl
 | [a],h=>exact absurd rfl h
 | _ :: _ :: _,_=>rfl
section
variable {T:FK->Option Fn}{G:Str->Option W}
theorem CP {d:D} (h:fwD d=.non):dO d=false:=by
 cases d with
 | tup xs =>
  cases xs with
  | nil=>rfl
  | cons x r =>
   cases x with
   | str w=>exact nomatch h
   | _=>rfl
 | _=>rfl
theorem qZ (d:D):fwD d=.non\/∃ w r,d=.tup (.str w :: r):=by
 cases d with
 | tup xs =>
  cases xs with
  | nil=>exact .inl rfl
  | cons x r =>
   cases x with
   | str w=>exact .inr ⟨w,r,rfl⟩
   | _=>exact .inl rfl
 | _=>exact .inl rfl
theorem Gp (P:P01 T G) (k:Nat) (d:D) (h:HH):runN T G (k+3) "has_sum_form" [.p d] h=some (.p (.bl (dO d)),h):=by
 rw[run_eq P.has_sum_form rfl]
 have a:=uN P (k+1) d h
 rcases qZ d with e | ⟨w,r,rfl⟩
 ·rw[e] at a
  rw[CP e]
  simp[cW,a,P.INNER_COUNTS,cS]
 ·have a:runN T G (k+2) "first_word" [.p (.tup (.str w :: r))] h=some (.p (.str w),h):=a
  have ln:=pN (.str w) r
  show _=some (W.p (.bl (dF w r)),h)
  cases wc w with
  | num hw =>
   subst hw
   by_cases c:r.length=1
   ·obtain ⟨y,rfl⟩:=JG r c
    have b:=CM P k y h
    simp[cW,a,b,dF,mT,cS]
   ·have c2:¬ ((r.length:Int)+1=2):=by lia
    rw[show dF "num" r=false from DI gE r c]
    simp[-dj,cW,a,ln,c2,cS]
  | name hw =>
   subst hw
   by_cases c:r.length=1
   ·obtain ⟨y,rfl⟩:=JG r c
    have b:=zH P (k+1) y h
    simp[cW,a,b,dF,mT,cS]
   ·have c2:¬ ((r.length:Int)+1=2):=by lia
    rw[show dF "name" r=false from DI jA r c]
    simp[-dj,cW,a,ln,c2,cS]
  | cell hw =>
   subst hw
   rw[show dF "cell" r=decide (r.length=1) by simp[dF,ar]]
   by_cases c:r.length=1
   ·have c2:((r.length:Int)+1=1+1):=by lia
    simp[-dj,cW,a,ln,P.INNER_COUNTS,iK,c,c2,cS]
   ·have c2:¬ ((r.length:Int)+1=2):=by lia
    simp[-dj,cW,a,ln,P.INNER_COUNTS,iK,c,c2,cS]
  | add hw =>
   subst hw
   rw[show dF "add" r=decide (r.length=2) by simp[dF,ar]]
   by_cases c:r.length=2
   ·simp[-dj,cW,a,ln,P.INNER_COUNTS,iK,c,cS]
   ·have c2:¬ ((r.length:Int)+1=3):=by lia
    have c3:¬ ((r.length:Int)=2):=by lia
    simp[-dj,cW,a,ln,P.INNER_COUNTS,iK,c,c2,c3,cS]
  | sub hw =>
   subst hw
   rw[show dF "sub" r=decide (r.length=2) by simp[dF,ar]]
   by_cases c:r.length=2
   ·simp[-dj,cW,a,ln,P.INNER_COUNTS,iK,c,cS]
   ·have c2:¬ ((r.length:Int)+1=3):=by lia
    have c3:¬ ((r.length:Int)=2):=by lia
    simp[-dj,cW,a,ln,P.INNER_COUNTS,iK,c,c2,c3,cS]
  | mul hw =>
   subst hw
   rw[show dF "mul" r=decide (r.length=2) by simp[dF,ar]]
   by_cases c:r.length=2
   ·simp[-dj,cW,a,ln,P.INNER_COUNTS,iK,c,cS]
   ·have c2:¬ ((r.length:Int)+1=3):=by lia
    have c3:¬ ((r.length:Int)=2):=by lia
    simp[-dj,cW,a,ln,P.INNER_COUNTS,iK,c,c2,c3,cS]
  | less hw =>
   subst hw
   rw[show dF "less" r=decide (r.length=2) by simp[dF,ar]]
   by_cases c:r.length=2
   ·simp[-dj,cW,a,ln,P.INNER_COUNTS,iK,c,cS]
   ·have c2:¬ ((r.length:Int)+1=3):=by lia
    have c3:¬ ((r.length:Int)=2):=by lia
    simp[-dj,cW,a,ln,P.INNER_COUNTS,iK,c,c2,c3,cS]
  | no h1 h2 h3 h4 h5 h6 h7 =>
   rw[show dF w r=false by simp[dF,ar,h1,h2,h3,h4,h5,h6,h7]]
   simp[-dj,cW,a,ln,P.INNER_COUNTS,iK,h1,h2,h3,h4,h5,h6,h7,cS]
theorem CU (P:P01 T G) (k:Nat) {d:D} (f:dO d=true) (h:HH):runN T G (k+1) "inner_sums" [.p d] h=some (.p (.tup (fR d)),h):=by
 rw[run_eq P.inner_sums rfl]
 cases d with
 | tup xs =>
  cases xs with
  | nil=>exact dG f
  | cons x r =>
   cases x with
   | str w =>
    have f:dF w r=true:=f
    have i0:=Gn (.str w) r
    have s0:=zF (.str w) r
    show _=some (W.p (.tup (if 0 < ar w then r else [])),h)
    cases wc w with
    | num hw=>subst hw;rw[if_neg (by decide +kernel)];simp[-dI,-fD,dJ,i0,P.INNER_COUNTS,iK,cS]
    | name hw=>subst hw;rw[if_neg (by decide +kernel)];simp[-dI,-fD,dJ,i0,P.INNER_COUNTS,iK,cS]
    | cell hw=>subst hw;rw[if_pos (by decide +kernel)];simp[-dI,-fD,dJ,i0,s0,P.INNER_COUNTS,iK,cS]
    | add hw=>subst hw;rw[if_pos (by decide +kernel)];simp[-dI,-fD,dJ,i0,s0,P.INNER_COUNTS,iK,cS]
    | sub hw=>subst hw;rw[if_pos (by decide +kernel)];simp[-dI,-fD,dJ,i0,s0,P.INNER_COUNTS,iK,cS]
    | mul hw=>subst hw;rw[if_pos (by decide +kernel)];simp[-dI,-fD,dJ,i0,s0,P.INNER_COUNTS,iK,cS]
    | less hw=>subst hw;rw[if_pos (by decide +kernel)];simp[-dI,-fD,dJ,i0,s0,P.INNER_COUNTS,iK,cS]
    | no h1 h2 h3 h4 h5 h6 h7=>exact dG (show false=true by rw[← f];simp[dF,ar,h1,h2,h3,h4,h5,h6,h7])
   | _=>exact dG f
 | _=>exact dG f
theorem CV (P:P01 T G) (k:Nat) (h:HH) (t0:W) (j:Nat):∀ (m:Nat) (stk:List D) (c:Int) (x:Option W),c+(m:Int)=15->0<=c->stk.length<=2+2*c.toNat →
 (lp m stk=none/\∃ h',gu (BT.ev (runN T G (k+3)) G isC) (evS (runN T G (k+3)) G k9) (m+2+j) [some t0,some (.r h.length),some (.p (.int c)),x] (h++[.l stk.reverse])=some (.rt (.p (.bl false)) (h++[.l h']))) ∨
 ((lp m stk).isSome=true/\∃ c' x',gu (BT.ev (runN T G (k+3)) G isC) (evS (runN T G (k+3)) G k9) (m+2+j) [some t0,some (.r h.length),some (.p (.int c)),x] (h++[.l stk.reverse]) =
   some (.nx [some t0,some (.r h.length),c',x'] (h++[.l []]))):=by
 intro m
 induction m with
 | zero =>
  intro stk c x hc h0 hl
  cases stk with
  | nil=>exact .inr ⟨rfl,some (.p (.int c)),x,by rw[show 0+2+j=(1+j)+1 by lia];simp[gu,isC,rd]⟩
  | cons s l =>
   have c0:c=15:=by lia
   subst c0
   refine .inl ⟨rfl,l.reverse,?_⟩
   have c1:(0:Int) < (l.length:Int)+1:=by lia
   have e1:BT.ev (runN T G (k+3)) G isC [some t0,some (.r h.length),some (.p (.int 15)),x] (h++[.l (s :: l).reverse])=some (.p (.bl true),h++[.l (s :: l).reverse]):=by
    simp[isC,rd,c1]
   have e2:evS (runN T G (k+3)) G k9 [some t0,some (.r h.length),some (.p (.int 15)),x] (h++[.l (s :: l).reverse])=some (.rt (.p (.bl false)) (h++[.l l.reverse])):=by
    simp[k9,P.MOST_PARTS]
   rw[show 0+2+j=(1+j)+1 by lia,gu,e1,rZ,oM,e2];rfl
 | succ m ih =>
  intro stk c x hc h0 hl
  cases stk with
  | nil=>exact .inr ⟨rfl,some (.p (.int c)),x,by rw[show m+1+2+j=(m+2+j)+1 by lia];simp[gu,isC,rd]⟩
  | cons s l =>
   have c1:(0:Int) < (l.length:Int)+1:=by lia
   have c2:¬ (15 < c+1):=by lia
   have e1:BT.ev (runN T G (k+3)) G isC [some t0,some (.r h.length),some (.p (.int c)),x] (h++[.l (s :: l).reverse])=some (.p (.bl true),h++[.l (s :: l).reverse]):=by
    simp[isC,rd,c1]
   have r2:=Gp P k s
   cases f:dO s with
   | false =>
    rw[f] at r2
    refine .inl ⟨?_,l.reverse,?_⟩
    ·show (if dO s=true then _ else none)=none
     rw[f];rfl
    ·have e2:evS (runN T G (k+3)) G k9 [some t0,some (.r h.length),some (.p (.int c)),x] (h++[.l (s :: l).reverse])=some (.rt (.p (.bl false)) (h++[.l l.reverse])):=by
      simp[k9,P.MOST_PARTS,c2,r2]
     rw[show m+1+2+j=(m+2+j)+1 by lia,gu,e1,rZ,oM,e2];rfl
   | true =>
    rw[f] at r2
    have r:=CU P (k+2) f
    have il:=uL f
    have ct:(c+1).toNat=c.toNat+1:=by lia
    simp only[NJ] at hl
    have l1:l.length+(fR s).length<=100000:=by lia
    have e2:evS (runN T G (k+3)) G k9 [some t0,some (.r h.length),some (.p (.int c)),x] (h++[.l (s :: l).reverse])=some (.nx [some t0,some (.r h.length),some (.p (.int (c+1))),some (.p s)] (h++[.l ((fR s).reverse++l).reverse])):=by
     simp[k9,P.MOST_PARTS,c2,r,r2,l1]
    have el:lp (m+1) (s :: l)=lp m ((fR s).reverse++l):=by
     rw[Gm f]
     show (if dO s=true then _ else none)=_
     rw[if_pos f]
    have q:=ih ((fR s).reverse++l) (c+1) (some (.p s)) (by lia) (by lia) (by rw[NW,Qn,ct];lia)
    have st:gu (BT.ev (runN T G (k+3)) G isC) (evS (runN T G (k+3)) G k9) (m+1+2+j) [some t0,some (.r h.length),some (.p (.int c)),x] (h++[.l (s :: l).reverse])=gu (BT.ev (runN T G (k+3)) G isC) (evS (runN T G (k+3)) G k9) (m+2+j) [some t0,some (.r h.length),some (.p (.int (c+1))),some (.p s)] (h++[.l ((fR s).reverse++l).reverse]):=by
     rw[show m+1+2+j=(m+2+j)+1 by lia,gu,e1,rZ,oM,e2,gO]
    rw[el,st]
    exact q
theorem q8 (P:P01 T G) (k:Nat) (d:D) (h:HH):runN T G (k+4) "is_sum" [.p d] h=some (.p (.bl (j8 d)),h):=by
 rw[run_eq P.is_sum rfl]
 have eq:j6=⟨["thing"],["thing","waiting","parts","part"],.seq (.set 1 (.lst true (.cons (.var 0) .nil))) (.seq (.set 2 (.cst (.int 0))) (.seq (.whl isC k9) (.ret (.cst (.bl true)))))⟩:=rfl
 rcases CV P k h (.p d) 99983 15 [d] 0 none (by decide) (by decide) (by simp) with ⟨q1,h',q⟩ | ⟨q1,c',x',q⟩
 ·have f:=zo h [.l h'] (.bl false)
  have e:j8 d=false:=by unfold j8;rw[q1];rfl
  simp only[Ti] at q
  rw[eq,e]
  simp[turns,q,f]
 ·have f:=zo h [.l []] (.bl true)
  have e:j8 d=true:=q1
  simp only[Ti] at q
  rw[eq,e]
  simp[turns,q,f]
end
noncomputable def nA:S:=(.seq (.set 6 (.and (.bi .isInt false (.cons (.var 5) .nil)) (.and (.not (.bi .isBool false (.cons (.var 5) .nil))) (.chain .le .le (.cst (.int 0)) (.var 5) (.var 1)))))
 (.seq (.ife (.or (.and (.cmp .eq (.var 4) (.cst (.str "p"))) (.not (.var 6))) (.and (.cmp .eq (.var 4) (.cst (.str "s"))) (.not (.call "_law_is_sum" (.cons (.var 5) .nil))))) (.ret (.cst (.bl false))) .nil)
 (.ife (.and (.cmp .eq (.var 4) (.cst (.str "n"))) (.cmp .nmem (.var 5) (.tup (.cons (.cst (.str "a")) (.cons (.cst (.str "b")) (.cons (.cst (.str "c")) (.cons (.cst (.str "d")) (.cons (.cst (.str "e")) (.cons (.cst (.str "f")) .nil))))))))) (.ret (.cst (.bl false))) .nil)))
noncomputable def wk:E:=(.comp false .seq (.cons (.var 0) .nil) ["_law_row_here"] [(0,"_law_thing")] (.cons (.not (.call "_law_is_row" (.cons (.var 0) (.cons (.bi .len false (.cons (.var 1) .nil)) .nil)))) .nil) (.var 0))
noncomputable def pO:E:=(.comp false .seq (.cons (.call "_law_each" (.cons (.idx (.var 0) (.var 2)) .nil)) .nil) ["_law_part"] [(0,"_law_thing"),(2,"_law_place")] .nil (.bin .add (.bin .add (.slc (.var 1) .nil (.cons (.var 2) .nil)) (.tup (.cons (.var 0) .nil))) (.slc (.var 1) (.cons (.bin .add (.var 2) (.cst (.int 1))) .nil) .nil)))
noncomputable def CW:E:=(.comp false .seq (.cons (.bin .add (.lst false (.cons (.var 10) .nil)) (.call "_law_each" (.cons (.var 10) .nil))) .nil) ["_law_one"] [] (.cons (.cmp .ne (.call "is_program" (.cons (.var 0) .nil)) (.call "_law_is_program" (.cons (.var 0) .nil))) .nil) (.var 0))
noncomputable def q9:S:=(.seq (.set 5 (.call "_law_drawn" (.cons (.var 0) (.cons (.bin .add (.cst (.int 501)) (.var 4)) (.cons (.cst (.int 3)) .nil)))))
 (.set 3 (.idx (.lst false (.cons (.tup (.cons (.cst (.str "cell")) (.cons (.var 3) .nil))) (.cons (.tup (.cons (.cst (.str "add")) (.cons (.var 3) (.cons (.tup (.cons (.cst (.str "num")) (.cons (.cst (.int 1)) .nil))) .nil)))) (.cons (.tup (.cons (.cst (.str "less")) (.cons (.tup (.cons (.cst (.str "name")) (.cons (.cst (.str "f")) .nil))) (.cons (.var 3) .nil)))) .nil)))) (.var 5))))
noncomputable def rf:S:=(.seq (.set 8 (.call "is_sum" (.cons (.var 7) .nil)))
 (.ife (.or (.not (.bi .isBool false (.cons (.var 8) .nil))) (.cmp .ne (.var 8) (.call "_law_is_sum" (.cons (.var 7) .nil)))) (.ret (.cst (.bl false))) .nil))
noncomputable def pP:S:=(.seq (.set 8 (.call "is_program" (.cons (.var 7) .nil)))
 (.ife (.or (.not (.bi .isBool false (.cons (.var 8) .nil))) (.cmp .ne (.var 8) (.call "_law_is_program" (.cons (.var 7) .nil)))) (.ret (.cst (.bl false))) .nil))
noncomputable def rg:S:=(.seq (.set 10 (.tup (.cons (.tup (.cons (.cst (.str "jump")) (.cons (.cst (.int 1)) .nil))) (.cons (.tup (.cons (.cst (.str "set")) (.cons (.cst (.str "a")) (.cons (.tup (.cons (.cst (.str "num")) (.cons (.cst (.int 3)) .nil))) .nil)))) (.cons (.tup (.cons (.cst (.str "unless")) (.cons (.tup (.cons (.cst (.str "name")) (.cons (.cst (.str "a")) .nil))) (.cons (.cst (.int 3)) .nil)))) (.cons (.tup (.cons (.cst (.str "ask")) (.cons (.cst (.str "b")) .nil))) .nil))))))
 (.ret (.cmp .eq CW (.lst false .nil))))
noncomputable def rj:S:=(.seq (.for [(7,"_law_thing")] .seq (.cons (.tup (.cons (.var 2) (.cons (.var 9) (.cons (.bin .mul (.var 2) (.cst (.int 3))) (.cons (.bi .list false (.cons (.var 2) .nil)) (.cons (.bin .add (.var 2) (.tup (.cons (.tup (.cons (.cst (.str "say")) (.cons (.var 3) .nil))) .nil))) (.cons (.tup .nil) (.cons (.tup (.cons (.tup (.cons (.cst (.str "jump")) (.cons (.cst (.int 1)) .nil))) .nil)) .nil)))))))) .nil) pP)
 rg)
noncomputable def uO:S:=(.seq (.set 9 (.call "_law_spoilt" (.cons (.var 2) (.cons (.call "_law_drawn" (.cons (.var 0) (.cons (.cst (.int 522)) (.cons (.bin .pow (.cst (.int 10)) (.cst (.int 7))) .nil)))) (.cons (.call "_law_drawn" (.cons (.var 0) (.cons (.cst (.int 523)) (.cons (.cst (.int 5)) .nil)))) .nil)))))
 rj)
noncomputable def uP:S:=(.seq (.for [(7,"_law_thing")] .seq (.cons (.tup (.cons (.var 1) (.cons (.var 3) (.cons (.var 6) (.cons (.lst false (.cons (.var 1) .nil)) (.cons (.tup (.cons (.cst (.str "add")) (.cons (.var 6) (.cons (.var 1) .nil)))) .nil)))))) .nil) rf)
 uO)
noncomputable def uQ:S:=(.seq (.set 6 (.call "_law_spoilt" (.cons (.var 1) (.cons (.call "_law_drawn" (.cons (.var 0) (.cons (.cst (.int 520)) (.cons (.bin .pow (.cst (.int 10)) (.cst (.int 7))) .nil)))) (.cons (.call "_law_drawn" (.cons (.var 0) (.cons (.cst (.int 521)) (.cons (.cst (.int 5)) .nil)))) .nil)))))
 uP)
noncomputable def CY:S:=(.seq (.set 3 (.var 1))
 (.seq (.for [(4,"_law_k")] .rng1 (.cons (.call "_law_drawn" (.cons (.var 0) (.cons (.cst (.int 500)) (.cons (.cst (.int 9)) .nil)))) .nil) q9)
 uQ))
noncomputable def jy:Fn:=⟨["_law_number"],["_law_number","_law_some"],
 (.seq (.set 1 (.lst false (.cons (.neg (.cst (.int 1))) (.cons (.cst (.int 0)) (.cons (.cst (.int 1)) (.cons (.cst (.int 10006)) (.cons (.cst (.int 10007)) (.cons (.cst (.bl true)) (.cons (.cst .non) (.cons (.cst (.str "")) (.cons (.cst (.str "a")) (.cons (.cst (.str "g")) (.cons (.cst (.str "ab")) (.cons (.cst (.str "num")) (.cons (.tup .nil) (.cons (.lst false .nil) (.cons (.tup (.cons (.cst (.str "num")) (.cons (.cst (.int 0)) .nil))) (.cons (.tup (.cons (.cst (.str "name")) (.cons (.cst (.str "a")) .nil))) (.cons (.tup (.cons (.cst (.str "stop")) .nil)) .nil)))))))))))))))))))
 (.seq (.set 1 (.bin .add (.var 1) (.lst false (.cons (.tup (.cons (.cst (.str "cell")) (.cons (.tup (.cons (.cst (.str "num")) (.cons (.cst (.int 1)) .nil))) .nil))) (.cons (.tup (.cons (.cst (.str "num")) (.cons (.cst (.bl true)) .nil))) (.cons (.tup (.cons (.cst (.str "jump")) (.cons (.cst (.int 0)) .nil))) (.cons (.tup (.cons (.cst (.str "back")) .nil)) (.cons (.tup (.cons (.cst (.str "call")) (.cons (.cst (.int 21)) .nil))) (.cons (.tup (.cons (.cst (.str "num")) (.cons (.neg (.cst (.int 1))) .nil))) (.cons (.cst (.int 4)) .nil))))))))))
 (.ret (.idx (.var 1) (.bin .mod (.var 0) (.cst (.int 24)))))))⟩
noncomputable def f7:Fn:=⟨["_law_thing","_law_number","_law_deep"],["_law_thing","_law_number","_law_deep","_law_at","_law_part"],
 (.seq (.ife (.and (.cmp .gt (.var 2) (.cst (.int 0))) (.and (.bi .isTuple false (.cons (.var 0) .nil)) (.and (.cmp .gt (.bi .len false (.cons (.var 0) .nil)) (.cst (.int 0))) (.cmp .gt (.bin .mod (.var 1) (.cst (.int 7))) (.cst (.int 0)))))) (.seq (.set 3 (.bin .mod (.bin .fdiv (.var 1) (.cst (.int 7))) (.bi .len false (.cons (.var 0) .nil))))
 (.seq (.set 4 (.call "_law_spoilt" (.cons (.idx (.var 0) (.var 3)) (.cons (.bin .fdiv (.var 1) (.cst (.int 91))) (.cons (.bin .sub (.var 2) (.cst (.int 1))) .nil)))))
 (.ret (.bin .add (.bin .add (.slc (.var 0) .nil (.cons (.var 3) .nil)) (.tup (.cons (.var 4) .nil))) (.slc (.var 0) (.cons (.bin .add (.var 3) (.cst (.int 1))) .nil) .nil))))) .nil)
 (.seq (.ife (.and (.bi .isTuple false (.cons (.var 0) .nil)) (.and (.cmp .gt (.bi .len false (.cons (.var 0) .nil)) (.cst (.int 0))) (.cmp .eq (.bin .mod (.bin .fdiv (.var 1) (.cst (.int 7))) (.cst (.int 2))) (.cst (.int 0))))) (.ret (.idx (.lst false (.cons (.bi .list false (.cons (.var 0) .nil)) (.cons (.slc (.var 0) .nil (.cons (.neg (.cst (.int 1))) .nil)) (.cons (.bin .add (.var 0) (.slc (.var 0) (.cons (.neg (.cst (.int 1))) .nil) .nil)) (.cons (.slc (.var 0) (.cons (.cst (.int 1)) .nil) .nil) (.cons (.rvs (.var 0)) (.cons (.bin .mul (.var 0) (.cst (.int 2))) .nil))))))) (.bin .mod (.bin .fdiv (.var 1) (.cst (.int 14))) (.cst (.int 6))))) .nil)
 (.seq (.ife (.and (.bi .isInt false (.cons (.var 0) .nil)) (.cmp .eq (.bin .mod (.bin .fdiv (.var 1) (.cst (.int 7))) (.cst (.int 2))) (.cst (.int 0)))) (.ret (.idx (.lst false (.cons (.tx .str (.cons (.var 0) .nil)) (.cons (.bin .sub (.cst (.int 0)) (.var 0)) (.cons (.bin .add (.var 0) (.cst (.int 1))) (.cons (.cmp .eq (.var 0) (.cst (.int 1))) (.cons (.bin .sub (.var 0) (.cst (.int 1))) (.cons (.bin .add (.var 0) (.cst (.int 9))) .nil))))))) (.bin .mod (.bin .fdiv (.var 1) (.cst (.int 14))) (.cst (.int 6))))) .nil)
 (.ret (.call "_law_odd" (.cons (.bin .fdiv (.var 1) (.cst (.int 7))) .nil))))))⟩
noncomputable def eW:Fn:=⟨["_law_thing"],["_law_thing"],
 (.ret (.and (.bi .isInt false (.cons (.var 0) .nil)) (.and (.not (.bi .isBool false (.cons (.var 0) .nil))) (.chain .le .le (.cst (.int 0)) (.var 0) (.cst (.int 10006))))))⟩
noncomputable def cT:Fn:=⟨["_law_thing","_law_left_here"],["_law_thing","_law_left_here"],
 (.seq (.ife (.or (.cmp .lt (.var 1) (.cst (.int 1))) (.or (.not (.bi .isTuple false (.cons (.var 0) .nil))) (.or (.cmp .lt (.bi .len false (.cons (.var 0) .nil)) (.cst (.int 2))) (.not (.bi .isStr false (.cons (.idx (.var 0) (.cst (.int 0))) .nil)))))) (.ret (.neg (.cst (.int 1)))) .nil)
 (.seq (.ife (.and (.cmp .eq (.idx (.var 0) (.cst (.int 0))) (.cst (.str "num"))) (.cmp .eq (.bi .len false (.cons (.var 0) .nil)) (.cst (.int 2)))) (.ret (.idx (.lst false (.cons (.neg (.cst (.int 1))) (.cons (.bin .sub (.var 1) (.cst (.int 1))) .nil))) (.bi .int false (.cons (.call "_law_is_worth" (.cons (.idx (.var 0) (.cst (.int 1))) .nil)) .nil)))) .nil)
 (.seq (.ife (.and (.cmp .eq (.idx (.var 0) (.cst (.int 0))) (.cst (.str "name"))) (.cmp .eq (.bi .len false (.cons (.var 0) .nil)) (.cst (.int 2)))) (.ret (.idx (.lst false (.cons (.neg (.cst (.int 1))) (.cons (.bin .sub (.var 1) (.cst (.int 1))) .nil))) (.bi .int false (.cons (.cmp .mem (.idx (.var 0) (.cst (.int 1))) (.tup (.cons (.cst (.str "a")) (.cons (.cst (.str "b")) (.cons (.cst (.str "c")) (.cons (.cst (.str "d")) (.cons (.cst (.str "e")) (.cons (.cst (.str "f")) .nil)))))))) .nil)))) .nil)
 (.seq (.ife (.and (.cmp .eq (.idx (.var 0) (.cst (.int 0))) (.cst (.str "cell"))) (.cmp .eq (.bi .len false (.cons (.var 0) .nil)) (.cst (.int 2)))) (.ret (.call "_law_left" (.cons (.idx (.var 0) (.cst (.int 1))) (.cons (.bin .sub (.var 1) (.cst (.int 1))) .nil)))) .nil)
 (.seq (.ife (.and (.cmp .mem (.idx (.var 0) (.cst (.int 0))) (.tup (.cons (.cst (.str "add")) (.cons (.cst (.str "sub")) (.cons (.cst (.str "mul")) (.cons (.cst (.str "less")) .nil)))))) (.cmp .eq (.bi .len false (.cons (.var 0) .nil)) (.cst (.int 3)))) (.ret (.call "_law_left" (.cons (.idx (.var 0) (.cst (.int 2))) (.cons (.call "_law_left" (.cons (.idx (.var 0) (.cst (.int 1))) (.cons (.bin .sub (.var 1) (.cst (.int 1))) .nil))) .nil)))) .nil)
 (.ret (.neg (.cst (.int 1)))))))))⟩
noncomputable def f9:Fn:=⟨["_law_thing"],["_law_thing"],
 (.ret (.cmp .ge (.call "_law_left" (.cons (.var 0) (.cons (.cst (.int 15)) .nil))) (.cst (.int 0))))⟩
noncomputable def eg:Fn:=⟨["_law_thing","_law_size"],["_law_thing","_law_size","_law_shapes","_law_shape","_law_sign","_law_part","_law_is_there"],
 (.seq (.ife (.or (.not (.bi .isTuple false (.cons (.var 0) .nil))) (.or (.cmp .eq (.var 0) (.tup .nil)) (.not (.bi .isStr false (.cons (.idx (.var 0) (.cst (.int 0))) .nil))))) (.ret (.cst (.bl false))) .nil)
 (.seq (.set 2 (.dlit [("stop",(.str "")),("back",(.str "")),("say",(.str "s")),("ask",(.str "n")),("jump",(.str "p")),("call",(.str "p")),("set",(.str "ns")),("put",(.str "ss"))]))
 (.seq (.set 3 (.ite (.cmp .eq (.idx (.var 0) (.cst (.int 0))) (.cst (.str "unless"))) (.cst (.str "sp")) (.tx .dget (.cons (.var 2) (.cons (.idx (.var 0) (.cst (.int 0))) (.cons (.cst (.str "?????")) .nil))))))
 (.seq (.ife (.cmp .ne (.bi .len false (.cons (.var 0) .nil)) (.bin .add (.bi .len false (.cons (.var 3) .nil)) (.cst (.int 1)))) (.ret (.cst (.bl false))) .nil)
 (.seq (.for [(4,"_law_sign"),(5,"_law_part")] .zipG (.cons (.var 3) (.cons (.slc (.var 0) (.cons (.cst (.int 1)) .nil) .nil) .nil)) nA)
 (.ret (.cst (.bl true))))))))⟩
noncomputable def fc:Fn:=⟨["_law_thing"],["_law_thing"],
 (.seq (.ife (.or (.not (.bi .isTuple false (.cons (.var 0) .nil))) (.cmp .gt (.bi .len false (.cons (.var 0) .nil)) (.cst (.int 20)))) (.ret (.cst (.bl false))) .nil)
 (.ret (.cmp .eq wk (.lst false .nil))))⟩
noncomputable def eX:Fn:=⟨["_law_thing"],["_law_thing","_law_found","_law_place"],
 (.seq (.ife (.bi .isInt false (.cons (.var 0) .nil)) (.ret (.lst false (.cons (.cst .non) (.cons (.cst (.bl true)) (.cons (.bin .sub (.var 0) (.cst (.int 1))) (.cons (.bin .add (.var 0) (.cst (.int 1))) (.cons (.cst (.int 1000)) .nil))))))) .nil)
 (.seq (.ife (.not (.bi .isTuple false (.cons (.var 0) .nil))) (.ret (.lst false (.cons (.cst .non) (.cons (.cst (.str "")) (.cons (.cst (.str "A")) (.cons (.cst (.str "set")) .nil)))))) .nil)
 (.seq (.set 1 (.lst false (.cons (.cst .non) (.cons (.bi .list false (.cons (.var 0) .nil)) (.cons (.bin .add (.var 0) (.slc (.var 0) (.cons (.neg (.cst (.int 1))) .nil) .nil)) (.cons (.slc (.var 0) (.cons (.cst (.int 1)) .nil) .nil) .nil))))))
 (.seq (.for [(2,"_law_place")] .rng1 (.cons (.bi .len false (.cons (.var 0) .nil)) .nil) (.set 1 (.bin .add (.var 1) pO)))
 (.ret (.var 1))))))⟩
noncomputable def rm:Fn:=⟨["_law_script"],["_law_script","_law_one","_law_program_here","_law_great","_law_k","_law_way","_law_spoilt_sum","_law_thing","_law_said","_law_spoilt_here","_law_base"],
 (.seq (.set 1 (.call "_law_sum" (.cons (.var 0) (.cons (.cst (.int 1)) (.cons (.cst (.int 3)) .nil)))))
 (.seq (.set 2 (.call "_law_program" (.cons (.var 0) (.cons (.cst (.int 20)) .nil))))
 CY))⟩
structure L01 (T:FK->Option Fn):Prop where
 odd:T "_law_odd"=some jy
 spoilt:T "_law_spoilt"=some f7
 worth:T "_law_is_worth"=some eW
 left:T "_law_left"=some cT
 is_sum:T "_law_is_sum"=some f9
 is_row:T "_law_is_row"=some eg
 is_program:T "_law_is_program"=some fc
 each:T "_law_each"=some eX
 law:T "law"=some rm
noncomputable def eH (z:Int) (d:D):Int:=((lp z.toNat [d]).map fun m:Nat=>(m:Int)).getD (-1)
noncomputable def opB (w:Str):Bool:=decide (w="add"\/w="sub"\/w="mul"\/w="less")
theorem CZ (w:Str):eZ .mem (.str w) (.tup [.str "add",.str "sub",.str "mul",.str "less"])=some (opB w):=by
 rw[cV,if_pos (by simp)]
 congr 1
 unfold opB
 rw[QX,decide_eq_true_eq]
 show ((("add":Str)==w)||((("sub":Str)==w)||((("mul":Str)==w)||((("less":Str)==w)||false))))=true↔_
 simp only[Bool.or_false,Pk,beq_iff_eq]
 exact ⟨fun q=>q.imp Eq.symm fun q=>q.imp Eq.symm fun q=>q.imp Eq.symm Eq.symm,fun q=>q.imp Eq.symm fun q=>q.imp Eq.symm fun q=>q.imp Eq.symm Eq.symm⟩
theorem uR (d:D):eZ .mem d (.tup [.str "a",.str "b",.str "c",.str "d",.str "e",.str "f"])=some (jA d):=qY d
theorem mU {m:Nat}{z:Int} (hz:z=(m:Int)+1) (d:D):eH z d=((if dO d=true then lp m (fR d) else none).map fun m:Nat=>(m:Int)).getD (-1):=by
 unfold eH
 rw[show z.toNat=m+1 by lia]
 show ((if dO d=true then lp m (fR d++[]) else none).map fun m:Nat=>(m:Int)).getD (-1)=_
 rw[Pj]
theorem eU {m:Nat}{z:Int} (hz:z=(m:Int)+1) {d:D} (f:dO d=false):eH z d=-1:=by
 rw[mU hz,f];rfl
theorem pQ {z:Int} (hz:z < 1) (d:D):eH z d=-1:=by
 unfold eH
 rw[show z.toNat=0 by lia];rfl
theorem zI {m:Nat} (a b:D):((lp m [a,b]).map fun m:Nat=>(m:Int)).getD (-1)=eH (eH m a) b:=by
 rw[show [a,b]=[a]++[b] from rfl,jb]
 have e:eH (m:Int) a=((lp m [a]).map fun m:Nat=>(m:Int)).getD (-1):=by unfold eH;rw[OU]
 rw[e]
 cases lp m [a] with
 | none=>exact (pQ (by decide) b).symm
 | some q =>
  show _=eH (q:Int) b
  unfold eH
  rw[OU];rfl
section
variable {T:FK->Option Fn}{G:Str->Option W}
theorem C4 (L:L01 T) (k:Nat) (d:D) (h:HH):runN T G (k+1) "_law_is_worth" [.p d] h=some (.p (.bl (gE d)),h):=by
 rw[run_eq L.worth rfl]
 cases d with
 | int i =>
  have e:decide (i < 10007)=decide (i<=10006):=by rw[QX,decide_eq_true_eq,decide_eq_true_eq];lia
  by_cases c:0<=i<;>simp[eW,gE,c,e,cS]
 | _=>simp[eW,gE,cS]
theorem Gq (L:L01 T) (k:Nat):∀ (N:Nat) (d:D) (z:Int),z<=N->∀ h,runN T G (k+N+2) "_law_left" [.p d,.p (.int z)] h=some (.p (.int (eH z d)),h):=by
 intro N
 induction N with
 | zero =>
  intro d z hz h
  have z1:z < 1:=by lia
  rw[run_eq L.left rfl,pQ z1]
  simp[cT,z1,cS]
 | succ N ih =>
  intro d z hz h
  rw[show k+(N+1)+2=(k+N+2)+1 by lia,run_eq L.left rfl]
  by_cases z1:z < 1
  ·rw[pQ z1]
   simp[cT,z1,cS]
  ·obtain ⟨m,hm⟩:∃ m:Nat,z=(m:Int)+1:=⟨(z - 1).toNat,by lia⟩
   have z2:z - 1=(m:Int):=by lia
   cases d with
   | tup xs =>
    match xs with
    | []=>rw[eU hm rfl];simp[cT,z1,cS]
    | [x] =>
     have f:dO (.tup [x])=false:=by
      cases x with
      | str w =>
       show dF w []=false
       unfold dF mT
       split
       ·rfl
       ·split
        ·rfl
        ·rw[TM]
         by_cases c:0 < ar w
         ·right;exact decide_eq_false (by simp;lia)
         ·left;exact decide_eq_false c
      | _=>rfl
     rw[eU hm f];simp[cT,z1,cS]
    | x :: y :: r =>
     have i0:=Gn x (y :: r)
     have i1:=ME x y r
     have c0:¬ ((r.length:Int)+1+1 < 2):=by lia
     cases x with
     | str w =>
      have mo:=CZ w
      match r with
      | [] =>
       have wo:=C4 (G:=G) L (k+N+1) y h
       have mn:=uR y
       cases wc w with
       | num hw =>
        subst hw
        rw[mU hm,show dO (.tup [.str "num",y])=gE y from rfl]
        cases wb:gE y with
        | true=>rw[wb] at wo;simp[-cV,cT,z1,wo,z2,fR,ar,pM,cS]
        | false=>rw[wb] at wo;simp[-cV,cT,z1,wo,cS]
       | name hw =>
        subst hw
        rw[mU hm,show dO (.tup [.str "name",y])=jA y from rfl]
        cases wb:jA y with
        | true=>rw[wb] at mn;simp[-cV,cT,z1,mn,z2,fR,ar,pM,cS]
        | false=>rw[wb] at mn;simp[-cV,cT,z1,mn,cS]
       | cell hw =>
        subst hw
        have q:=ih y (z - 1) (by lia) h
        rw[mU hm,show dO (.tup [.str "cell",y])=true by simp[dO,dF,ar],if_pos rfl,show fR (.tup [.str "cell",y])=[y] by simp[fR,ar]]
        have e:eH (z - 1) y=((lp m [y]).map fun m:Nat=>(m:Int)).getD (-1):=by unfold eH;rw[z2,OU]
        rw[← e]
        generalize eH (z - 1) y=V at *
        simp[-cV,cT,z1,q,cS]
       | add hw=>subst hw;rw[eU hm (by simp[dO,dF,ar])];simp[-cV,cT,z1,mo,cS]
       | sub hw=>subst hw;rw[eU hm (by simp[dO,dF,ar])];simp[-cV,cT,z1,mo,cS]
       | mul hw=>subst hw;rw[eU hm (by simp[dO,dF,ar])];simp[-cV,cT,z1,mo,cS]
       | less hw=>subst hw;rw[eU hm (by simp[dO,dF,ar])];simp[-cV,cT,z1,mo,cS]
       | no h1 h2 h3 h4 h5 h6 h7 =>
        rw[eU hm (by simp[dO,dF,ar,h1,h2,h3,h4,h5,h6,h7])]
        simp[-cV,cT,z1,mo,opB,h1,h2,h3,h4,h5,h6,h7,cS]
      | [b] =>
       have i2:=MF (.str w) y b []
       have op:opB w=true->dO (.tup [.str w,y,b])=true->fR (.tup [.str w,y,b])=[y,b]->¬ w="num"->¬ w="name"->¬ w="cell"->qB (evS (runN T G (k+N+2)) G cT.body [some (.p (.tup [.str w,y,b])),some (.p (.int z))] h) (fin h)=some (.p (.int (eH z (.tup [.str w,y,b]))),h):=by
        intro o1 o2 o3 h1 h2 h3
        rw[o1] at mo
        rw[mU hm,o2,if_pos rfl,o3,zI,← z2]
        have q1:=ih y (z - 1) (by lia) h
        have lz:eH (z - 1) y<=N:=by
         unfold eH
         rw[z2,OU]
         obtain ⟨c,hc⟩:=lI m [y]
         rw[hc m (NI _)]
         split
         ·show ((m - c:Nat):Int)<=N
          lia
         ·show (-1:Int)<=N
          lia
        have q2:=ih b (eH (z - 1) y) lz h
        generalize eH (eH (z - 1) y) b=V at *
        generalize eH (z - 1) y=V' at *
        simp[-cV,cT,z1,mo,h1,h2,h3,q1,q2,cS]
       cases wc w with
       | num hw=>subst hw;rw[eU hm rfl];simp[-cV,cT,z1,mo,opB,cS]
       | name hw=>subst hw;rw[eU hm rfl];simp[-cV,cT,z1,mo,opB,cS]
       | cell hw=>subst hw;rw[eU hm (by simp[dO,dF,ar])];simp[-cV,cT,z1,mo,opB,cS]
       | add hw=>subst hw;exact op (by decide +kernel) (by simp[dO,dF,ar]) (by simp[fR,ar]) (by decide +kernel) (by decide +kernel) (by decide +kernel)
       | sub hw=>subst hw;exact op (by decide +kernel) (by simp[dO,dF,ar]) (by simp[fR,ar]) (by decide +kernel) (by decide +kernel) (by decide +kernel)
       | mul hw=>subst hw;exact op (by decide +kernel) (by simp[dO,dF,ar]) (by simp[fR,ar]) (by decide +kernel) (by decide +kernel) (by decide +kernel)
       | less hw=>subst hw;exact op (by decide +kernel) (by simp[dO,dF,ar]) (by simp[fR,ar]) (by decide +kernel) (by decide +kernel) (by decide +kernel)
       | no h1 h2 h3 h4 h5 h6 h7 =>
        rw[eU hm (by simp[dO,dF,ar,h1,h2,h3,h4,h5,h6,h7])]
        simp[-cV,cT,z1,mo,opB,h1,h2,h3,h4,h5,h6,h7,cS]
      | b :: c :: r =>
       have f:dO (.tup (.str w :: y :: b :: c :: r))=false:=by
        show dF w (y :: b :: c :: r)=false
        unfold dF mT
        split
        ·rfl
        ·split
         ·rfl
         ·rw[TM]
          right
          refine decide_eq_false ?_
          have:ar w<=2:=by unfold ar;split;decide;split<;>decide
          simp only[NJ]
          lia
       have e2:¬ ((r.length:Int)+1+1+1+1=2):=by lia
       have e3:¬ ((r.length:Int)+1+1+1+1=3):=by lia
       have e4:¬ ((r.length:Int)+1+1+1+1 < 2):=by lia
       rw[eU hm f]
       cases wc w with
       | num hw=>subst hw;simp[-cV,-dI,cT,z1,i0,mo,opB,e2,e3,e4,cS]
       | name hw=>subst hw;simp[-cV,-dI,cT,z1,i0,mo,opB,e2,e3,e4,cS]
       | cell hw=>subst hw;simp[-cV,-dI,cT,z1,i0,mo,opB,e2,e3,e4,cS]
       | add hw=>subst hw;simp[-cV,-dI,cT,z1,i0,mo,opB,e2,e3,e4,cS]
       | sub hw=>subst hw;simp[-cV,-dI,cT,z1,i0,mo,opB,e2,e3,e4,cS]
       | mul hw=>subst hw;simp[-cV,-dI,cT,z1,i0,mo,opB,e2,e3,e4,cS]
       | less hw=>subst hw;simp[-cV,-dI,cT,z1,i0,mo,opB,e2,e3,e4,cS]
       | no h1 h2 h3 h4 h5 h6 h7=>simp[-cV,-dI,cT,z1,i0,mo,opB,e2,e3,e4,h1,h2,h3,h4,h5,h6,h7,cS]
     | _=>rw[eU hm rfl];simp[-dI,cT,z1,i0,c0,cS]
   | _=>rw[eU hm rfl];simp[cT,z1,cS]
theorem rA (L:L01 T) (k:Nat) (d:D) (h:HH):runN T G (k+18) "_law_is_sum" [.p d] h=some (.p (.bl (j8 d)),h):=by
 rw[run_eq L.is_sum rfl]
 have q:=Gq (G:=G) L k 15 d 15 (by decide) h
 have e:j8 d=decide (0<=eH 15 d):=by
  unfold j8 eH
  show _=decide (0<=((lp 15 [d]).map fun m:Nat=>(m:Int)).getD (-1))
  cases lp 15 [d] with
  | none=>rfl
  | some m=>exact (decide_eq_true (show (0:Int)<=(m:Int) by lia)).symm
 rw[e]
 generalize eH 15 d=V at *
 have q:runN T G (k+17) "_law_left" [.p d,.p (.int 15)] h=some (.p (.int V),h):=q
 simp[f9,q,cS]
end
noncomputable def gX (n:Int) (f:Str) (d:D):Bool:=if f="name" then jA d else if f="place" then iL n d else j8 d
noncomputable def jc (w:Str):Option (List Str):=if w="set" then some ["name","sum"] else if w="put" then some ["sum","sum"] else if w="ask" then some ["name"] else if w="say" then some ["sum"] else if w="jump" then some ["place"] else if w="unless" then some ["sum","place"] else if w="call" then some ["place"] else if w="back" then some [] else if w="stop" then some [] else none
noncomputable def zJ (n:Int) (w:Str) (ps:List D):Bool:=match jc w with
 | some fs=>decide (ps.length=fs.length)&&(ps.zip fs).all fun q=>gX n q.2 q.1
 | none=>false
noncomputable def fC (n:Int):D->Bool
 | .tup (.str w :: ps)=>zJ n w ps
 | _=>false
theorem Gs (w:Str):ef w sL=(jc w).map fun fs=>.tup (fs.map .str):=by
 unfold jc sL
 simp only[ef]
 by_cases h1:w="set"
 ·rw[if_pos h1,if_pos h1];rfl
 ·rw[if_neg h1,if_neg h1]
  by_cases h2:w="put"
  ·rw[if_pos h2,if_pos h2];rfl
  ·rw[if_neg h2,if_neg h2]
   by_cases h3:w="ask"
   ·rw[if_pos h3,if_pos h3];rfl
   ·rw[if_neg h3,if_neg h3]
    by_cases h4:w="say"
    ·rw[if_pos h4,if_pos h4];rfl
    ·rw[if_neg h4,if_neg h4]
     by_cases h5:w="jump"
     ·rw[if_pos h5,if_pos h5];rfl
     ·rw[if_neg h5,if_neg h5]
      by_cases h6:w="unless"
      ·rw[if_pos h6,if_pos h6];rfl
      ·rw[if_neg h6,if_neg h6]
       by_cases h7:w="call"
       ·rw[if_pos h7,if_pos h7];rfl
       ·rw[if_neg h7,if_neg h7]
        by_cases h8:w="back"
        ·rw[if_pos h8,if_pos h8];rfl
        ·rw[if_neg h8,if_neg h8]
         by_cases h9:w="stop"
         ·rw[if_pos h9,if_pos h9];rfl
         ·rw[if_neg h9,if_neg h9];rfl
theorem uS {w:Str}{fs:List Str} (h:jc w=some fs):fs.length<=2:=by
 unfold jc at h
 repeat' split at h
 all_goals first | (cases h;decide) | exact iT h
section
variable {T:FK->Option Fn}{G:Str->Option W}
theorem Gu (P:P01 T G) (k:Nat) (d:D) (f:Str) (n:Int) (h:HH):runN T G (k+5) "fits" [.p d,.p (.str f),.p (.int n)] h=some (.p (.bl (gX n f d)),h):=by
 rw[run_eq P.fits rfl]
 have a:=zH P (k+3) d h
 have b:=CO P (k+2) d n h
 have c:=q8 P k d h
 unfold gX
 by_cases h1:f="name"
 ·rw[if_pos h1]
  simp[kO,h1,a,cS]
 ·rw[if_neg h1]
  by_cases h2:f="place"
  ·rw[if_pos h2]
   subst h2
   simp[kO,b,cS]
  ·rw[if_neg h2]
   simp[kO,h1,h2,c,cS]
theorem uT (F:FK->List W->HH->Option (W×HH)) (n:Int) (h:HH) (hF:∀ d f,F (.f "fits") [.p d,.p (.str f),.p (.int n)] h=some (.p (.bl (gX n f d)),h)):∀ qs:List (D×Str),
 dm (dX (evs F G .nil) (BT.ev F G frE) [some (.p (.int n))]) 2 (qs.map fun q=>.tup [q.1,.str q.2]) h=some ((qs.map fun q=>gX n q.2 q.1).map .bl,h)
 | []=>rfl
 | q :: qs=>by
  have r:dm (dX (evs F G .nil) (BT.ev F G frE) [some (.p (.int n))]) 2 (qs.map fun q=>.tup [q.1,.str q.2]) h=some ((qs.map fun q=>gX n q.2 q.1).map .bl,h):=uT F n h hF qs
  have st:dm (dX (evs F G .nil) (BT.ev F G frE) [some (.p (.int n))]) 2 ((q :: qs).map fun q=>.tup [q.1,.str q.2]) h=bnd (bnd (F (.f "fits") [.p q.1,.p (.str q.2),.p (.int n)] h) kC) (qz (dm (dX (evs F G .nil) (BT.ev F G frE) [some (.p (.int n))]) 2 (qs.map fun q=>.tup [q.1,.str q.2]))):=rfl
  rw[st,hF q.1 q.2,dH]
  show bnd (some (some (D.bl (gX n q.2 q.1)),h)) _=_
  rw[dH,jj,r];rfl
theorem zK:∀ (ps:List D) (fs:List Str),gH ps (fs.map .str)=(ps.zip fs).map fun q=>.tup [q.1,.str q.2]
 | [],fs=>by cases fs<;>rfl
 | p :: ps,[]=>rfl
 | p :: ps,f :: fs=>by simp[zK ps fs]
theorem zL (P:P01 T G) (k:Nat) (d:D) (n:Int) (h:HH):runN T G (k+6) "is_row" [.p d,.p (.int n)] h=some (.p (.bl (fC n d)),h):=by
 rw[run_eq P.is_row rfl]
 have a:=uN P (k+4) d h
 have eq:j7=⟨["thing","row_count"],["thing","row_count","forms"],.seq (.set 2 (.tx .dget (.cons (.glo "ROW_FORMS") (.cons (.call "first_word" (.cons (.var 0) .nil)) .nil)))) (.seq (.ife (.or (.cmp .isN (.var 2) (.cst .non)) (.cmp .ne (.bi .len false (.cons (.var 0) .nil)) (.bin .add (.bi .len false (.cons (.var 2) .nil)) (.cst (.int 1))))) (.ret (.cst (.bl false))) .nil) (.ret (.tx .all (.cons (.comp false .zipG (.cons (.slc (.var 0) (.cons (.cst (.int 1)) .nil) .nil) (.cons (.var 2) .nil)) ["part","form"] [(1,"row_count")] .nil frE) .nil))))⟩:=rfl
 rw[eq]
 rcases qZ d with e | ⟨w,ps,rfl⟩
 ·rw[e] at a
  have g:kTx .dget [.k (.t sL),.p .non] h=some (.p .non,h):=rfl
  have rb:fC n d=false:=by
   cases d with
   | tup xs =>
    cases xs with
    | nil=>rfl
    | cons x r =>
     cases x with
     | str w=>exact nomatch e
     | _=>rfl
   | _=>rfl
  rw[rb]
  simp[P.ROW_FORMS,a,g,cS]
 ·have a:runN T G (k+5) "first_word" [.p (.tup (.str w :: ps))] h=some (.p (.str w),h):=a
  have g:=dg1 sL w h
  rw[Gs] at g
  show _=some (W.p (.bl (zJ n w ps)),h)
  unfold zJ
  cases q:jc w with
  | none =>
   rw[q] at g
   have g:kTx .dget [.k (.t sL),.p (.str w)] h=some (.p .non,h):=g
   simp[P.ROW_FORMS,a,g,cS]
  | some fs =>
   rw[q] at g
   have g:kTx .dget [.k (.t sL),.p (.str w)] h=some (.p (.tup (fs.map .str)),h):=g
   have ln:=pN (.str w) ps
   have fl:=uS q
   show _=some (W.p (.bl (decide (ps.length=fs.length)&&(ps.zip fs).all fun q=>gX n q.2 q.1)),h)
   by_cases c:ps.length=fs.length
   ·rw[show (decide (ps.length=fs.length))=true from decide_eq_true c,Ro]
    have cc:=uT (G:=G) (runN T G (k+5)) n h (fun d f=>Gu P k d f n h) (ps.zip fs)
    have s0:=zF (.str w) ps
    have z:=zK ps fs
    have t:=zG ((ps.zip fs).map fun q=>gX n q.2 q.1) h
    rw[List.all_map] at t
    have t:kTx .all [.p (.lst (((ps.zip fs).map fun q=>gX n q.2 q.1).map .bl))] h=some (.p (.bl ((ps.zip fs).all fun q=>gX n q.2 q.1)),h):=t
    have lb:(((ps.zip fs).map fun q=>gX n q.2 q.1).map D.bl).length<=100000:=by
     rw[NS,NS,List.length_zip]
     lia
    generalize ((ps.zip fs).map fun q=>gX n q.2 q.1).map D.bl=PB at *
    generalize ((ps.zip fs).all fun q=>gX n q.2 q.1)=AL at *
    generalize ((ps.zip fs).map fun q=>D.tup [q.1,.str q.2])=PZ at *
    have lf:(fs.map D.str).length=ps.length:=by rw[NS,c]
    generalize fs.map D.str=PF at *
    have sr:fP .zipG [.tup ps,.tup PF]=some PZ:=by rw[ji,← z];rfl
    have c2:BT.ev (runN T G (k+5)) G (.comp false .zipG (.cons (.slc (.var 0) (.cons (.cst (.int 1)) .nil) .nil) (.cons (.var 2) .nil)) ["part","form"] [(1,"row_count")] .nil frE) [some (.p (.tup (.str w :: ps))),some (.p (.int n)),some (.p (.tup PF))] h=some (.p (.lst PB),h) :=
     cgo (ws:=[.p (.tup ps),.p (.tup PF)]) (h1:=h) (fs:=[some (.p (.int n))]) (by simp[-fD,s0]) (by rw[show rds [.p (.tup ps),.p (.tup PF)] h=some [.tup ps,.tup PF] from rfl,ON,sr]) rfl rfl cc lb
    generalize (E.comp false .zipG (.cons (.slc (.var 0) (.cons (.cst (.int 1)) .nil) .nil) (.cons (.var 2) .nil)) ["part","form"] [(1,"row_count")] .nil frE)=EE at *
    simp[P.ROW_FORMS,a,g,lf,c2,t,cS]
   ·rw[show (decide (ps.length=fs.length))=false from decide_eq_false c,SJ]
    generalize (E.comp false .zipG (.cons (.slc (.var 0) (.cons (.cst (.int 1)) .nil) .nil) (.cons (.var 2) .nil)) ["part","form"] [(1,"row_count")] .nil frE)=EE at *
    have ci:¬ ((ps.length:Int)=(fs.length:Int)):=by lia
    simp[P.ROW_FORMS,a,g]
    rw[if_neg ci,mw]
    simp[cS]
noncomputable def fW:D->Bool
 | .tup xs=>if 20 < xs.length then false else xs.all (fC xs.length)
 | _=>false
theorem uU (F:FK->List W->HH->Option (W×HH)) (ds:List D) (h:HH) (hF:∀ d,F (.f "is_row") [.p d,.p (.int ds.length)] h=some (.p (.bl (fC ds.length d)),h)):∀ xs:List D,
 dm (dX (evs F G .nil) (BT.ev F G ipE) [some (.p (.tup ds))]) 1 xs h=some ((xs.map (fC ds.length)).map .bl,h)
 | []=>rfl
 | x :: xs=>by
  have q:dm (dX (evs F G .nil) (BT.ev F G ipE) [some (.p (.tup ds))]) 1 xs h=some ((xs.map (fC ds.length)).map .bl,h):=uU F ds h hF xs
  have f1:=hF x
  have el:BT.ev F G ipE [some (.p x),some (.p (.tup ds))] h=some (.p (.bl (fC ds.length x)),h):=by simp[ipE,f1]
  have st:dm (dX (evs F G .nil) (BT.ev F G ipE) [some (.p (.tup ds))]) 1 (x :: xs) h=bnd (bnd (BT.ev F G ipE [some (.p x),some (.p (.tup ds))] h) kC) (qz (dm (dX (evs F G .nil) (BT.ev F G ipE) [some (.p (.tup ds))]) 1 xs)):=rfl
  rw[st,el,dH]
  show bnd (some (some (D.bl _),h)) _=_
  rw[dH,jj,q];rfl
theorem j9 (P:P01 T G) (k:Nat) (d:D) (h:HH):runN T G (k+7) "is_program" [.p d] h=some (.p (.bl (fW d)),h):=by
 rw[run_eq P.is_program rfl]
 have eq:f6=⟨["thing"],["thing"],.seq (.ife (.or (.not (.bi .isTuple false (.cons (.var 0) .nil))) (.cmp .gt (.bi .len false (.cons (.var 0) .nil)) (.glo "MOST_ROWS"))) (.ret (.cst (.bl false))) .nil) (.ret (.tx .all (.cons (.comp false .seq (.cons (.var 0) .nil) ["row"] [(0,"thing")] .nil ipE) .nil)))⟩:=rfl
 rw[eq]
 cases d with
 | tup xs =>
  by_cases c:20 < xs.length
  ·rw[show fW (.tup xs)=false from if_pos c]
   have ci:(20:Int) < (xs.length:Int):=by lia
   simp[P.MOST_ROWS]
   rw[if_pos ci,mw]
   simp[cS]
  ·rw[show fW (.tup xs)=xs.all (fC xs.length) from if_neg c]
   have cc:=uU (G:=G) (runN T G (k+6)) xs h (fun d=>zL P k d xs.length h) xs
   have t:=zG (xs.map (fC xs.length)) h
   rw[List.all_map] at t
   have t:kTx .all [.p (.lst ((xs.map (fC xs.length)).map .bl))] h=some (.p (.bl (xs.all (fC xs.length))),h):=t
   have lb:((xs.map (fC xs.length)).map D.bl).length<=100000:=by rw[NS,NS];lia
   generalize (xs.map (fC xs.length)).map D.bl=PB at *
   generalize xs.all (fC xs.length)=AL at *
   have c2:BT.ev (runN T G (k+6)) G (.comp false .seq (.cons (.var 0) .nil) ["row"] [(0,"thing")] .nil ipE) [some (.p (.tup xs))] h=some (.p (.lst PB),h) :=
    cgo (ws:=[.p (.tup xs)]) (h1:=h) (fs:=[some (.p (.tup xs))]) (by simp) rfl rfl rfl cc lb
   generalize (E.comp false .seq (.cons (.var 0) .nil) ["row"] [(0,"thing")] .nil ipE)=EE at *
   have ci:¬ ((20:Int) < (xs.length:Int)):=by lia
   simp[P.MOST_ROWS]
   rw[if_neg ci,qA]
   simp[c2,t,cS]
 | _=>simp[fW,cS]
end
noncomputable def sgn (f:Str):Str:=if f="name" then "n" else if f="place" then "p" else "s"
noncomputable def shS (w:Str):Str:=if w="set" then "ns" else if w="put" then "ss" else if w="ask" then "n" else if w="say" then "s" else if w="jump" then "p" else if w="unless" then "sp" else if w="call" then "p" else if w="back" then "" else if w="stop" then "" else "?????"
noncomputable def shK:List (Str×D):=[("stop",.str ""),("back",.str ""),("say",.str "s"),("ask",.str "n"),("jump",.str "p"),("call",.str "p"),("set",.str "ns"),("put",.str "ss")]
noncomputable def shD:List (Ky×D):=(shK.map fun p=>((.inr p.1:Ky),p.2)).foldl (fun c p=>jS c p.1 p.2) []
theorem Gv:shD=shK.map fun p=>((.inr p.1:Ky),p.2):=by
 simp[shD,shK,jS]
theorem Gw (w:Str) (hu:¬ w="unless"):(fq shD (.inr w)).getD (.str "?????")=.str (shS w):=by
 rw[Gv]
 unfold shS fq shK
 by_cases h1:w="set"
 ·subst h1;simp
 by_cases h2:w="put"
 ·subst h2;simp
 by_cases h3:w="ask"
 ·subst h3;simp
 by_cases h4:w="say"
 ·subst h4;simp
 by_cases h5:w="jump"
 ·subst h5;simp
 by_cases h6:w="call"
 ·subst h6;simp
 by_cases h7:w="back"
 ·subst h7;simp
 by_cases h8:w="stop"
 ·subst h8;simp
 have g:∀ x:Str,¬ w=x->¬ x=w:=fun x h e=>h e.symm
 simp[h1,h2,h3,h4,h5,h6,h7,h8,hu,g _ h1,g _ h2,g _ h3,g _ h4,g _ h5,g _ h6,g _ h7,g _ h8]
theorem zM {w:Str}{fs:List Str} (h:jc w=some fs):jT (shS w)=fs.map fun f=>.str (sgn f):=by
 unfold jc at h
 unfold shS
 by_cases h1:w="set"
 ·rw[if_pos h1] at h ⊢;cases h;rfl
 rw[if_neg h1] at h ⊢
 by_cases h2:w="put"
 ·rw[if_pos h2] at h ⊢;cases h;rfl
 rw[if_neg h2] at h ⊢
 by_cases h3:w="ask"
 ·rw[if_pos h3] at h ⊢;cases h;rfl
 rw[if_neg h3] at h ⊢
 by_cases h4:w="say"
 ·rw[if_pos h4] at h ⊢;cases h;rfl
 rw[if_neg h4] at h ⊢
 by_cases h5:w="jump"
 ·rw[if_pos h5] at h ⊢;cases h;rfl
 rw[if_neg h5] at h ⊢
 by_cases h6:w="unless"
 ·rw[if_pos h6] at h ⊢;cases h;rfl
 rw[if_neg h6] at h ⊢
 by_cases h7:w="call"
 ·rw[if_pos h7] at h ⊢;cases h;rfl
 rw[if_neg h7] at h ⊢
 by_cases h8:w="back"
 ·rw[if_pos h8] at h ⊢;cases h;rfl
 rw[if_neg h8] at h ⊢
 by_cases h9:w="stop"
 ·rw[if_pos h9] at h ⊢;cases h;rfl
 rw[if_neg h9] at h
 exact iT h
theorem jw (x:Str):(jT x).length=x.length:=by
 unfold jT
 rw[NS,Ql];rfl
theorem zN {w:Str}{fs:List Str} (h:jc w=some fs):(shS w).length=fs.length:=by
 rw[← jw,zM h,NS]
theorem uV {w:Str} (h:jc w=none):shS w="?????":=by
 unfold jc at h
 unfold shS
 by_cases h1:w="set"
 ·rw[if_pos h1] at h;exact nomatch h
 rw[if_neg h1] at h ⊢
 by_cases h2:w="put"
 ·rw[if_pos h2] at h;exact nomatch h
 rw[if_neg h2] at h ⊢
 by_cases h3:w="ask"
 ·rw[if_pos h3] at h;exact nomatch h
 rw[if_neg h3] at h ⊢
 by_cases h4:w="say"
 ·rw[if_pos h4] at h;exact nomatch h
 rw[if_neg h4] at h ⊢
 by_cases h5:w="jump"
 ·rw[if_pos h5] at h;exact nomatch h
 rw[if_neg h5] at h ⊢
 by_cases h6:w="unless"
 ·rw[if_pos h6] at h;exact nomatch h
 rw[if_neg h6] at h ⊢
 by_cases h7:w="call"
 ·rw[if_pos h7] at h;exact nomatch h
 rw[if_neg h7] at h ⊢
 by_cases h8:w="back"
 ·rw[if_pos h8] at h;exact nomatch h
 rw[if_neg h8] at h ⊢
 by_cases h9:w="stop"
 ·rw[if_pos h9] at h;exact nomatch h
 rw[if_neg h9]
noncomputable def OkR (d:D):Prop:=∀ w ps,d=.tup (.str w :: ps)->jc w=none->ps.length≠5
theorem zO (d:D):eZ .nmem d (.tup [.str "a",.str "b",.str "c",.str "d",.str "e",.str "f"])=some (!jA d):=by
 have:=uR d
 rw[cV] at this
 rw[dM]
 split at this
 ·rename_i q
  rw[if_pos q,NO this]
 ·exact iT this
section
variable {T:FK->Option Fn}{G:Str->Option W}
theorem Gx (L:L01 T) (k:Nat) (w0 w2 w3 x6:Option W) (n:Int) (f:Str) (p:D) (h:HH) :
 evS (runN T G (k+18)) G nA [w0,some (.p (.int n)),w2,w3,some (.p (.str (sgn f))),some (.p p),x6] h =
  if gX n f p=true then some (.nx [w0,some (.p (.int n)),w2,w3,some (.p (.str (sgn f))),some (.p p),some (.p (.bl (iL n p)))] h) else some (.rt (.p (.bl false)) h):=by
 have s:=rA (G:=G) L k p h
 have m:=zO p
 have a:BT.ev (runN T G (k+18)) G (.and (.bi .isInt false (.cons (.var 5) .nil)) (.and (.not (.bi .isBool false (.cons (.var 5) .nil))) (.chain .le .le (.cst (.int 0)) (.var 5) (.var 1)))) [w0,some (.p (.int n)),w2,w3,some (.p (.str (sgn f))),some (.p p),x6] h=some (.p (.bl (iL n p)),h):=by
  cases p with
  | int i=>by_cases c:0<=i<;>simp[iL,c]
  | _=>simp[iL]
 rw[nA]
 generalize (E.and (.bi .isInt false (.cons (.var 5) .nil)) (.and (.not (.bi .isBool false (.cons (.var 5) .nil))) (.chain .le .le (.cst (.int 0)) (.var 5) (.var 1))))=EE at *
 unfold gX sgn at *
 by_cases h1:f="name"
 ·rw[if_pos h1] at a ⊢
  rw[if_pos h1]
  cases q:jA p with
  | true=>rw[q] at m;simp[-dM,a,m]
  | false=>rw[q] at m;simp[-dM,a,m]
 ·rw[if_neg h1] at a ⊢
  rw[if_neg h1]
  by_cases h2:f="place"
  ·rw[if_pos h2] at a ⊢
   rw[if_pos h2]
   cases q:iL n p with
   | true=>rw[q] at a;simp[-dM,a,m]
   | false=>rw[q] at a;simp[-dM,a,m]
  ·rw[if_neg h2] at a ⊢
   rw[if_neg h2]
   cases q:j8 p with
   | true=>rw[q] at s;simp[-dM,a,s,m]
   | false=>rw[q] at s;simp[-dM,a,s,m]
theorem zP (L:L01 T) (k:Nat) (w0 w2 w3:Option W) (n:Int) (h:HH):∀ (qs:List (D×Str)) (x4 x5 x6:Option W),
 (((qs.all fun q=>gX n q.2 q.1)=true/\∃ y4 y5 y6,dZ (evS (runN T G (k+18)) G nA) [(4,"_law_sign"),(5,"_law_part")] (qs.map fun q=>.tup [.str (sgn q.2),q.1]) [w0,some (.p (.int n)),w2,w3,x4,x5,x6] h=some (.nx [w0,some (.p (.int n)),w2,w3,y4,y5,y6] h)) ∨
  ((qs.all fun q=>gX n q.2 q.1)=false/\dZ (evS (runN T G (k+18)) G nA) [(4,"_law_sign"),(5,"_law_part")] (qs.map fun q=>.tup [.str (sgn q.2),q.1]) [w0,some (.p (.int n)),w2,w3,x4,x5,x6] h=some (.rt (.p (.bl false)) h)))
 | [],x4,x5,x6=>.inl ⟨rfl,x4,x5,x6,by simp⟩
 | q :: qs,x4,x5,x6=>by
  have s:=Gx (G:=G) L k w0 w2 w3 x6 n q.2 q.1 h
  have st:dZ (evS (runN T G (k+18)) G nA) [(4,"_law_sign"),(5,"_law_part")] ((q :: qs).map fun q=>.tup [.str (sgn q.2),q.1]) [w0,some (.p (.int n)),w2,w3,x4,x5,x6] h=gM (evS (runN T G (k+18)) G nA [w0,some (.p (.int n)),w2,w3,some (.p (.str (sgn q.2))),some (.p q.1),x6] h) (dZ (evS (runN T G (k+18)) G nA) [(4,"_law_sign"),(5,"_law_part")] (qs.map fun q=>.tup [.str (sgn q.2),q.1])):=rfl
  rw[st,s,SY]
  cases e:gX n q.2 q.1 with
  | false=>exact .inr ⟨rfl,rfl⟩
  | true =>
   rw[if_pos rfl,gO,Ro]
   exact zP L k w0 w2 w3 n h qs _ _ _
theorem zQ:∀ (fs:List Str) (ps:List D),gH (fs.map fun f=>.str (sgn f)) ps=(ps.zip fs).map fun q=>.tup [.str (sgn q.2),q.1]
 | [],ps=>by cases ps<;>rfl
 | f :: fs,[]=>rfl
 | f :: fs,p :: ps=>by simp[zQ fs ps]
theorem zR (L:L01 T) (k:Nat) {d:D} (ok:OkR d) (n:Int) (h:HH):runN T G (k+19) "_law_is_row" [.p d,.p (.int n)] h=some (.p (.bl (fC n d)),h):=by
 rw[run_eq L.is_row rfl]
 cases d with
 | tup xs =>
  cases xs with
  | nil=>rw[show fC n (.tup [])=false from rfl];simp[eg,cS]
  | cons x ps =>
   have i0:=Gn x ps
   have ln:=pN x ps
   have s0:=zF x ps
   cases x with
   | str w =>
    have hd:BT.ev (runN T G (k+18)) G (.dlit [("stop",(.str "")),("back",(.str "")),("say",(.str "s")),("ask",(.str "n")),("jump",(.str "p")),("call",(.str "p")),("set",(.str "ns")),("put",(.str "ss"))]) [some (.p (.tup (.str w :: ps))),some (.p (.int n)),none,none,none,none,none] h=some (.k (.l shD),h):=rfl
    have hs:BT.ev (runN T G (k+18)) G (.ite (.cmp .eq (.idx (.var 0) (.cst (.int 0))) (.cst (.str "unless"))) (.cst (.str "sp")) (.tx .dget (.cons (.var 2) (.cons (.idx (.var 0) (.cst (.int 0))) (.cons (.cst (.str "?????")) .nil))))) [some (.p (.tup (.str w :: ps))),some (.p (.int n)),some (.k (.l shD)),none,none,none,none] h=some (.p (.str (shS w)),h):=by
     by_cases hu:w="unless"
     ·subst hu
      rw[show shS "unless"="sp" by decide +kernel]
      simp[-dI,i0]
     ·have g:kTx .dget [.k (.l shD),.p (.str w),.p (.str "?????")] h=some (.p (.str (shS w)),h):=by
       rw[← Gw w hu];rfl
      generalize shD=SD at *
      simp[-dI,i0,hu,g]
    have e0:eZ .eq (.tup (.str w :: ps)) (.tup [])=some false:=by rw[fX,if_pos (vD _)];rfl
    have ls:(shS w).length<=5:=by
     cases q:jc w with
     | none=>rw[uV q];decide
     | some fs=>rw[zN q];have:=uS q;lia
    have nl:biD .len [.str (shS w)]=some (.int ((shS w).length:Int)):=by
     rw[gf,if_pos (show (shS w).length<=lim from (by lia:(shS w).length<=100000))]
    show _=some (W.p (.bl (zJ n w ps)),h)
    unfold zJ
    rw[eg]
    generalize (E.dlit [("stop",(.str "")),("back",(.str "")),("say",(.str "s")),("ask",(.str "n")),("jump",(.str "p")),("call",(.str "p")),("set",(.str "ns")),("put",(.str "ss"))])=ED at *
    generalize (E.ite (.cmp .eq (.idx (.var 0) (.cst (.int 0))) (.cst (.str "unless"))) (.cst (.str "sp")) (.tx .dget (.cons (.var 2) (.cons (.idx (.var 0) (.cst (.int 0))) (.cons (.cst (.str "?????")) .nil)))))=EH at *
    cases q:jc w with
    | none =>
     show _=some (W.p (.bl false),h)
     have l5:=ok w ps rfl q
     have ne:eZ .ne (.int ((ps.length:Int)+1)) (.int (((shS w).length:Int)+1))=some true:=by
      rw[uV q,eS,if_pos (lV _ _)]
      show some (!decide ((ps.length:Int)+1=((5:Nat):Int)+1))=_
      rw[decide_eq_false (by lia)];rfl
     generalize shS w=SW at *
     simp[-dI,-fX,-eS,-dj,-gf,hd,hs,i0,e0,ln,nl,ne,cS]
    | some fs =>
     show _=some (W.p (.bl (decide (ps.length=fs.length)&&(ps.zip fs).all fun q=>gX n q.2 q.1)),h)
     have sl:=zN q
     by_cases c:ps.length=fs.length
     ·rw[show (decide (ps.length=fs.length))=true from decide_eq_true c,Ro]
      have ne:eZ .ne (.int ((ps.length:Int)+1)) (.int (((shS w).length:Int)+1))=some false:=by
       rw[sl,c,eS,if_pos (lV _ _),gW];rfl
      have sr:fP .zipG [.str (shS w),.tup ps]=some ((ps.zip fs).map fun q=>.tup [.str (sgn q.2),q.1]):=by
       show some (gH (jT (shS w)) ps)=_
       rw[zM q,zQ]
      rcases zP (G:=G) L k (some (.p (.tup (.str w :: ps)))) (some (.k (.l shD))) (some (.p (.str (shS w)))) n h (ps.zip fs) none none none with ⟨q1,y4,y5,y6,lo⟩ | ⟨q1,lo⟩
      ·rw[q1]
       generalize ((ps.zip fs).map fun q=>D.tup [.str (sgn q.2),q.1])=PZ at *
       generalize shS w=SW at *
       generalize shD=SD at *
       generalize nA=KR at *
       simp[-dZ,-fD,-ji,-dI,-fX,-eS,-dj,-gf,hd,hs,i0,e0,ln,nl,ne,s0,sr,iQ,lo,cS]
      ·rw[q1]
       generalize ((ps.zip fs).map fun q=>D.tup [.str (sgn q.2),q.1])=PZ at *
       generalize shS w=SW at *
       generalize shD=SD at *
       generalize nA=KR at *
       simp[-dZ,-fD,-ji,-dI,-fX,-eS,-dj,-gf,hd,hs,i0,e0,ln,nl,ne,s0,sr,iQ,lo,cS]
     ·rw[show (decide (ps.length=fs.length))=false from decide_eq_false c,SJ]
      have ne:eZ .ne (.int ((ps.length:Int)+1)) (.int (((shS w).length:Int)+1))=some true:=by
       rw[sl,eS,if_pos (lV _ _)]
       show some (!decide ((ps.length:Int)+1=(fs.length:Int)+1))=_
       rw[decide_eq_false (by lia)];rfl
      generalize shS w=SW at *
      simp[-dI,-fX,-eS,-dj,-gf,hd,hs,i0,e0,ln,nl,ne,cS]
   | _ =>
    rw[show fC n _=false from rfl]
    simp[-dI,eg,i0,cS]
 | _=>rw[show fC n _=false from rfl];simp[eg,cS]
end
noncomputable def OkP (d:D):Prop:=∀ xs,d=.tup xs->xs.length<=20->∀ x∈xs,OkR x
noncomputable def sM:E:=(.not (.call "_law_is_row" (.cons (.var 0) (.cons (.bi .len false (.cons (.var 1) .nil)) .nil))))
theorem eq_nil (l:List D):eZ .eq (.lst l) (.lst [])=some l.isEmpty:=by
 rw[fX,if_pos (vE _)]
 cases l<;>rfl
section
variable {T:FK->Option Fn}{G:Str->Option W}
theorem uW (F:FK->List W->HH->Option (W×HH)) (ds:List D) (h:HH):∀ xs:List D,(∀ x∈xs,F (.f "_law_is_row") [.p x,.p (.int ds.length)] h=some (.p (.bl (fC ds.length x)),h)) →
 dm (dX (evs F G (.cons sM .nil)) (BT.ev F G (.var 0)) [some (.p (.tup ds))]) 1 xs h=some (xs.filter fun x=>!fC ds.length x,h)
 | [],_=>rfl
 | x :: xs,hF=>by
  have q:dm (dX (evs F G (.cons sM .nil)) (BT.ev F G (.var 0)) [some (.p (.tup ds))]) 1 xs h=some (xs.filter fun x=>!fC ds.length x,h):=uW F ds h xs fun y hy=>hF y (NP _ hy)
  have f1:=hF x NV
  have el:evs F G (.cons sM .nil) [some (.p x),some (.p (.tup ds))] h=some ([.p (.bl (!fC ds.length x))],h):=by simp[sM,f1]
  have st:dm (dX (evs F G (.cons sM .nil)) (BT.ev F G (.var 0)) [some (.p (.tup ds))]) 1 (x :: xs) h=bnd (bnd (evs F G (.cons sM .nil) [some (.p x),some (.p (.tup ds))] h) (nP (BT.ev F G (.var 0) [some (.p x),some (.p (.tup ds))]))) (qz (dm (dX (evs F G (.cons sM .nil)) (BT.ev F G (.var 0)) [some (.p (.tup ds))]) 1 xs)):=rfl
  rw[st,el,dH]
  cases rb:fC ds.length x with
  | true =>
   rw[List.filter_cons_of_neg (by simp[rb])]
   show bnd (some (none,h)) _=_
   rw[dH,jj,q];rfl
  | false =>
   rw[List.filter_cons_of_pos (by simp[rb])]
   show bnd (some (some x,h)) _=_
   rw[dH,jj,q];rfl
theorem kg (L:L01 T) (k:Nat) {d:D} (ok:OkP d) (h:HH):runN T G (k+20) "_law_is_program" [.p d] h=some (.p (.bl (fW d)),h):=by
 rw[run_eq L.is_program rfl]
 have eq:fc=⟨["_law_thing"],["_law_thing"],.seq (.ife (.or (.not (.bi .isTuple false (.cons (.var 0) .nil))) (.cmp .gt (.bi .len false (.cons (.var 0) .nil)) (.cst (.int 20)))) (.ret (.cst (.bl false))) .nil) (.ret (.cmp .eq wk (.lst false .nil)))⟩:=rfl
 rw[eq]
 cases d with
 | tup xs =>
  by_cases c:20 < xs.length
  ·rw[show fW (.tup xs)=false from if_pos c]
   have ci:(20:Int) < (xs.length:Int):=by lia
   generalize wk=XEP at *
   simp
   rw[if_pos ci,mw]
   simp[cS]
  ·rw[show fW (.tup xs)=xs.all (fC xs.length) from if_neg c]
   have ci:¬ ((20:Int) < (xs.length:Int)):=by lia
   have cc:=uW (G:=G) (runN T G (k+19)) xs h xs fun x hx=>zR L k (ok xs rfl (by lia) x hx) xs.length h
   have lb:(xs.filter fun x=>!fC xs.length x).length<=100000:=Ol (List.length_filter_le _ _) (by lia)
   have c2:BT.ev (runN T G (k+19)) G wk [some (.p (.tup xs))] h=some (.p (.lst (xs.filter fun x=>!fC xs.length x)),h) :=
    cgo (ws:=[.p (.tup xs)]) (h1:=h) (fs:=[some (.p (.tup xs))]) (by simp) rfl rfl rfl cc lb
   have en:=eq_nil (xs.filter fun x=>!fC xs.length x)
   have ea:(xs.filter fun x=>!fC xs.length x).isEmpty=xs.all (fC xs.length):=by
    rw[QX,List.isEmpty_iff,List.filter_eq_nil_iff,Oz]
    simp
   rw[ea] at en
   generalize (xs.filter fun x=>!fC xs.length x)=PB at *
   generalize xs.all (fC xs.length)=AL at *
   generalize wk=XEP at *
   simp
   rw[if_neg ci,qA]
   simp[-fX,c2,en,cS]
 | _=>generalize wk=XEP at *;simp[fW,cS]
noncomputable def zS:List D:=[.int (-1),.int 0,.int 1,.int 10006,.int 10007,.bl true,.non,.str "",.str "a",.str "g",.str "ab",.str "num",.tup [],.lst [],.tup [.str "num",.int 0],.tup [.str "name",.str "a"],.tup [.str "stop"],.tup [.str "cell",.tup [.str "num",.int 1]],.tup [.str "num",.bl true],.tup [.str "jump",.int 0],.tup [.str "back"],.tup [.str "call",.int 21],.tup [.str "num",.int (-1)],.int 4]
noncomputable def sm5:D->Bool
 | .tup xs=>decide (xs.length<=5)
 | _=>true
noncomputable def JH:D->Bool
 | .tup xs=>xs.all sm5
 | _=>true
theorem jd {d:D} (h:sm5 d=true):OkR d:=fun w ps e _ l=>by
 subst e
 have h:decide ((D.str w :: ps).length<=5)=true:=h
 rw[decide_eq_true_eq,NJ] at h
 lia
theorem C5 {d:D} (h:JH d=true):OkP d:=fun xs e _ x hx=>by
 subst e
 exact jd (List.all_eq_true.mp h x hx)
theorem zT:∀ d∈zS,OkR d/\OkP d:=by
 have h:(zS.all fun d=>sm5 d&&JH d)=true:=by decide +kernel
 intro d hd
 have:=List.all_eq_true.mp h d hd
 rw[NG] at this
 exact ⟨jd this.1,C5 this.2⟩
theorem lJ (l:List D) (z:Int) (h0:0<=z) (h1:z < l.length):∃ d∈l,fU (.lst l) (.int z)=some d:=by
 obtain ⟨m,rfl⟩:=Int.eq_ofNat_of_zero_le h0
 have hm:m < l.length:=by lia
 refine ⟨l[m],QM hm,?_⟩
 show atP l ((m:Nat):Int)=_
 rw[iH,NN hm]
theorem JI (L:L01 T) (k:Nat) (z:Int) (h:HH):∃ d∈zS,runN T G (k+1) "_law_odd" [.p (.int z)] h=some (.p d,h):=by
 have m0:0<=z % 24:=by lia
 have m1:z % 24 < (zS.length:Int):=by show z % 24 < 24;lia
 obtain ⟨d,hd,e⟩:=lJ zS (z % 24) m0 m1
 refine ⟨d,hd,?_⟩
 rw[run_eq L.odd rfl]
 have e:fU (.lst [.int (-1),.int 0,.int 1,.int 10006,.int 10007,.bl true,.non,.str "",.str "a",.str "g",.str "ab",.str "num",.tup [],.lst [],.tup [.str "num",.int 0],.tup [.str "name",.str "a"],.tup [.str "stop"],.tup [.str "cell",.tup [.str "num",.int 1]],.tup [.str "num",.bl true],.tup [.str "jump",.int 0],.tup [.str "back"],.tup [.str "call",.int 21],.tup [.str "num",.int (-1)],.int 4]) (.int (z % 24))=some d:=e
 simp[-fy,jy,e,cS]
end
noncomputable def sc1:E:=(.and (.cmp .gt (.var 2) (.cst (.int 0))) (.and (.bi .isTuple false (.cons (.var 0) .nil)) (.and (.cmp .gt (.bi .len false (.cons (.var 0) .nil)) (.cst (.int 0))) (.cmp .gt (.bin .mod (.var 1) (.cst (.int 7))) (.cst (.int 0))))))
noncomputable def sb1:S:=(.seq (.set 3 (.bin .mod (.bin .fdiv (.var 1) (.cst (.int 7))) (.bi .len false (.cons (.var 0) .nil))))
 (.seq (.set 4 (.call "_law_spoilt" (.cons (.idx (.var 0) (.var 3)) (.cons (.bin .fdiv (.var 1) (.cst (.int 91))) (.cons (.bin .sub (.var 2) (.cst (.int 1))) .nil)))))
 (.ret (.bin .add (.bin .add (.slc (.var 0) .nil (.cons (.var 3) .nil)) (.tup (.cons (.var 4) .nil))) (.slc (.var 0) (.cons (.bin .add (.var 3) (.cst (.int 1))) .nil) .nil)))))
noncomputable def sc2:E:=(.and (.bi .isTuple false (.cons (.var 0) .nil)) (.and (.cmp .gt (.bi .len false (.cons (.var 0) .nil)) (.cst (.int 0))) (.cmp .eq (.bin .mod (.bin .fdiv (.var 1) (.cst (.int 7))) (.cst (.int 2))) (.cst (.int 0)))))
noncomputable def sl2:E:=(.lst false (.cons (.bi .list false (.cons (.var 0) .nil)) (.cons (.slc (.var 0) .nil (.cons (.neg (.cst (.int 1))) .nil)) (.cons (.bin .add (.var 0) (.slc (.var 0) (.cons (.neg (.cst (.int 1))) .nil) .nil)) (.cons (.slc (.var 0) (.cons (.cst (.int 1)) .nil) .nil) (.cons (.rvs (.var 0)) (.cons (.bin .mul (.var 0) (.cst (.int 2))) .nil)))))))
noncomputable def sc3:E:=(.and (.bi .isInt false (.cons (.var 0) .nil)) (.cmp .eq (.bin .mod (.bin .fdiv (.var 1) (.cst (.int 7))) (.cst (.int 2))) (.cst (.int 0))))
noncomputable def sl3:E:=(.lst false (.cons (.tx .str (.cons (.var 0) .nil)) (.cons (.bin .sub (.cst (.int 0)) (.var 0)) (.cons (.bin .add (.var 0) (.cst (.int 1))) (.cons (.cmp .eq (.var 0) (.cst (.int 1))) (.cons (.bin .sub (.var 0) (.cst (.int 1))) (.cons (.bin .add (.var 0) (.cst (.int 9))) .nil)))))))
theorem pR:f7=⟨["_law_thing","_law_number","_law_deep"],["_law_thing","_law_number","_law_deep","_law_at","_law_part"],
 (.seq (.ife sc1 sb1 .nil)
 (.seq (.ife sc2 (.ret (.idx sl2 (.bin .mod (.bin .fdiv (.var 1) (.cst (.int 14))) (.cst (.int 6))))) .nil)
 (.seq (.ife sc3 (.ret (.idx sl3 (.bin .mod (.bin .fdiv (.var 1) (.cst (.int 14))) (.cst (.int 6))))) .nil)
 (.ret (.call "_law_odd" (.cons (.bin .fdiv (.var 1) (.cst (.int 7))) .nil))))))⟩:=rfl
inductive Tm:D->Prop where
 | str (x:Str):Tm (.str x)
 | int (i:Int) (h:big i=true):Tm (.int i)
 | tup (xs:List D) (l:xs.length<=30) (h:∀ x,x∈xs->Tm x):Tm (.tup xs)
noncomputable def Rr (d:D):Prop:=∃ w ps,d=.tup (.str w :: ps)/\ps.length<=2/\jc w≠none
noncomputable def Pp (d:D):Prop:=∃ xs,d=.tup xs/\∀ x∈xs,Rr x
theorem mV {d:D} (h:Rr d):OkR d:=by
 obtain ⟨w,ps,rfl,l,_⟩:=h
 exact jd (decide_eq_true (by rw[NJ];lia))
theorem kh {xs:List D} (h:∀ x∈xs,OkR x):OkP (.tup xs):=fun ys e _ x hx=>by
 cases e;exact h x hx
noncomputable def kj:D->Bool
 | .tup (_ :: _)=>true
 | _=>false
theorem zU (xs:List D) {z:Int}{n:Nat} (hz:z=(n:Int)) (hn:n<=xs.length):ng (.tup xs) none (some z)=some (.tup (xs.take n)):=by
 subst hz
 have e1:clip xs.length 0 none=0:=rfl
 have e2:clip xs.length xs.length (some (n:Int))=n:=by
  show (if (n:Int) < 0 then ((n:Int)+(xs.length:Int)).toNat else if (n:Int)<=(xs.length:Int) then (n:Int).toNat else xs.length)=n
  rw[if_neg (by lia),if_pos (by lia)];rfl
 show some (D.tup (cut xs none (some (n:Int))))=_
 unfold cut
 rw[e1,e2]
 simp
theorem zV (xs:List D) {z:Int}{n:Nat} (hz:z=(n:Int)) (hn:n<=xs.length):ng (.tup xs) (some z) none=some (.tup (xs.drop n)):=by
 subst hz
 have e2:clip xs.length 0 (some (n:Int))=n:=by
  show (if (n:Int) < 0 then ((n:Int)+(xs.length:Int)).toNat else if (n:Int)<=(xs.length:Int) then (n:Int).toNat else xs.length)=n
  rw[if_neg (by lia),if_pos (by lia)];rfl
 have e1:clip xs.length xs.length none=xs.length:=rfl
 show some (D.tup (cut xs (some (n:Int)) none))=_
 unfold cut
 rw[e1,e2]
 congr 2
 rw[Th]
 rw[Ot];exact NI _
theorem Gy (x:D) (r:List D):ng (.tup (x :: r)) none (some (-1))=some (.tup ((x :: r).take r.length)):=by
 have e1:clip (x :: r).length 0 none=0:=rfl
 have e2:clip (x :: r).length (x :: r).length (some (-1))=r.length:=by
  show (if (-1:Int) < 0 then ((-1:Int)+((x :: r).length:Int)).toNat else if (-1:Int)<=((x :: r).length:Int) then (-1:Int).toNat else (x :: r).length)=r.length
  rw[if_pos (by decide),NJ];lia
 show some (D.tup (cut (x :: r) none (some (-1))))=_
 unfold cut
 rw[e1,e2]
 simp
theorem zW (x:D) (r:List D):ng (.tup (x :: r)) (some (-1)) none=some (.tup ((x :: r).drop r.length)):=by
 have e1:clip (x :: r).length (x :: r).length none=(x :: r).length:=rfl
 have e2:clip (x :: r).length 0 (some (-1))=r.length:=by
  show (if (-1:Int) < 0 then ((-1:Int)+((x :: r).length:Int)).toNat else if (-1:Int)<=((x :: r).length:Int) then (-1:Int).toNat else (x :: r).length)=r.length
  rw[if_pos (by decide),NJ];lia
 show some (D.tup (cut (x :: r) (some (-1)) none))=_
 unfold cut
 rw[e1,e2]
 congr 2
 rw[Th]
 rw[Ot];exact NI _
section
variable {T:FK->Option Fn}{G:Str->Option W}
theorem DJ (F:FK->List W->HH->Option (W×HH)) (d:D) (z:Int) (p:Int) (x3 x4:Option W) (h:HH):BT.ev F G sc1 [some (.p d),some (.p (.int z)),some (.p (.int p)),x3,x4] h=some (.p (.bl (decide (0 < p)&&(kj d&&decide (0 < z % 7)))),h):=by
 by_cases c:0 < p
 ·cases d with
  | tup xs =>
   cases xs with
   | nil=>simp[sc1,c,kj]
   | cons x r =>
    have l2:(0:Int) < (r.length:Int)+1:=by lia
    simp[sc1,c,kj,l2]
  | _=>simp[sc1,c,kj]
 ·simp[sc1,c]
theorem JJ (F:FK->List W->HH->Option (W×HH)) (d:D) (z:Int) (w2 x3 x4:Option W) (h:HH):BT.ev F G sc2 [some (.p d),some (.p (.int z)),w2,x3,x4] h=some (.p (.bl (kj d&&decide (z / 7 % 2=0))),h):=by
 cases d with
 | tup xs =>
  cases xs with
  | nil=>simp[sc2,kj]
  | cons x r =>
   have l2:(0:Int) < (r.length:Int)+1:=by lia
   simp[sc2,kj,l2];rfl
 | _=>simp[sc2,kj]
end
noncomputable def sp6 (x:D) (r:List D):List D:=[.lst (x :: r),.tup ((x :: r).take r.length),.tup ((x :: r)++(x :: r).drop r.length),.tup r,.tup (x :: r).reverse,.tup (rep 2 (x :: r))]
noncomputable def sp3 (i:Int):List D:=[.str (wj i),.int (0 - i),.int (i+1),.bl (i==1),.int (i - 1),.int (i+9)]
theorem rep2 (xs:List D):rep 2 xs=xs++xs:=by simp[rep,NX]
theorem kP {x:D}{r:List D} (l:r.length<=29):∀ d∈sp6 x r,(Rr (.tup (x :: r))->OkR d)/\(Pp (.tup (x :: r))->OkP d):=by
 intro d hd
 have five:∀ ys:List D,Rr (.tup (x :: r))->ys.length<=r.length+3->OkR (.tup ys):=by
  intro ys ⟨w,ps,e,hl,_⟩ h
  cases e
  exact jd (decide_eq_true (by lia))
 have sub:∀ ys:List D,(∀ y∈ys,y∈x :: r)->Pp (.tup (x :: r))->OkP (.tup ys):=by
  intro ys hy ⟨xs,e,hx⟩
  cases e
  exact kh fun y q=>mV (hx y (hy y q))
 rcases (show d=.lst (x :: r)\/d=.tup ((x :: r).take r.length)\/d=.tup ((x :: r)++(x :: r).drop r.length)\/d=.tup r\/d=.tup (x :: r).reverse\/d=.tup (rep 2 (x :: r)) by simpa [sp6] using hd) with rfl | rfl | rfl | rfl | rfl | rfl
 ·exact ⟨fun _ w ps e=>(nomatch e),fun _ xs e=>(nomatch e)⟩
 ·exact ⟨fun q=>five _ q (by rw[OP];lia),sub _ fun y hy=>Q7 hy⟩
 ·exact ⟨fun q=>five _ q (by rw[NW,Ot,NJ];lia),sub _ fun y hy=>by
   rcases List.mem_append.mp hy with z | z
   ·exact z
   ·exact Q8 z⟩
 ·exact ⟨fun q=>five _ q (by lia),sub _ fun y hy=>NP _ hy⟩
 ·exact ⟨fun q=>five _ q (by rw[Qn,NJ];lia),sub _ fun y hy=>List.mem_reverse.mp hy⟩
 ·rw[rep2]
  refine ⟨fun ⟨w,ps,e,hl,hf⟩ w' ps' e' hn=>?_,sub _ fun y hy=>by rcases List.mem_append.mp hy with z | z<;>exact z⟩
  have e2:D.tup (x :: (r++x :: r))=.tup (.str w' :: ps'):=e'
  injection e2 with e3
  injection e3 with e4 e5
  injection e with a1
  injection a1 with a2 a3
  rw[a2] at e4
  injection e4 with e6
  rw[e6] at hf
  exact absurd hn hf
theorem zX {i:Int}:∀ d∈sp3 i,OkR d/\OkP d:=by
 intro d hd
 rcases (show d=.str (wj i)\/d=.int (0 - i)\/d=.int (i+1)\/d=.bl (i==1)\/d=.int (i - 1)\/d=.int (i+9) by simpa [sp3] using hd) with rfl | rfl | rfl | rfl | rfl | rfl<;>exact ⟨fun w ps e=>(nomatch e),fun xs e=>(nomatch e)⟩
section
variable {T:FK->Option Fn}{G:Str->Option W}
theorem Gz (F:FK->List W->HH->Option (W×HH)) {x:D}{r:List D} (l:r.length<=29) (w1 w2 x3 x4:Option W) (h:HH):BT.ev F G sl2 [some (.p (.tup (x :: r))),w1,w2,x3,x4] h=some (.p (.lst (sp6 x r)),h):=by
 have s1:=Gy x r
 have s2:=zW x r
 have s3:=zF x r
 have b1:fJ .add (.tup (x :: r)) (.tup ((x :: r).drop r.length))=some (.tup ((x :: r)++(x :: r).drop r.length)):=by
  rw[dz,if_pos (show (x :: r).length+((x :: r).drop r.length).length<=lim from (by rw[Ot,NJ];lia:(x :: r).length+((x :: r).drop r.length).length<=100000))]
 have b2:fJ .mul (.tup (x :: r)) (.int 2)=some (.tup (rep 2 (x :: r))):=by
  rw[fL,if_pos]
  ·rfl
  ·have:(r.length+1)*2<=100000:=by lia
   simp[this]
 have rv:EL (.p (.tup (x :: r))) h=some (.p (.tup (x :: r).reverse),h):=rfl
 show _=some (W.p (.lst [.lst (x :: r),.tup ((x :: r).take r.length),.tup ((x :: r)++(x :: r).drop r.length),.tup r,.tup (x :: r).reverse,.tup (rep 2 (x :: r))]),h)
 have li:biD .list [.tup (x :: r)]=some (.lst (x :: r)):=rfl
 generalize (x :: r)++(x :: r).drop r.length=A1 at *
 generalize (x :: r).drop r.length=A2 at *
 generalize (x :: r).take r.length=A3 at *
 generalize rep 2 (x :: r)=A4 at *
 generalize (x :: r).reverse=A5 at *
 generalize x :: r=XS at *
 simp[-EL,-fD,-dz,-fL,sl2,s1,s2,s3,b1,b2,rv,li]
theorem GA (F:FK->List W->HH->Option (W×HH)) {i:Int} (hb:big i=true) (w1 w2 x3 x4:Option W) (h:HH):BT.ev F G sl3 [some (.p (.int i)),w1,w2,x3,x4] h=some (.p (.lst (sp3 i)),h):=by
 have t:=Gi hb h
 simp[sl3,sp3,t]
theorem zY (F:FK->List W->HH->Option (W×HH)) {d:D} (hd:isI d=false) (w1 w2 x3 x4:Option W) (h:HH):BT.ev F G sc3 [some (.p d),w1,w2,x3,x4] h=some (.p (.bl false),h):=by
 simp[sc3,hd]
theorem GB (F:FK->List W->HH->Option (W×HH)) (i z:Int) (w2 x3 x4:Option W) (h:HH):BT.ev F G sc3 [some (.p (.int i)),some (.p (.int z)),w2,x3,x4] h=some (.p (.bl (decide (z / 7 % 2=0))),h):=by
 simp[sc3];rfl
theorem pS (L:L01 T) (k:Nat) {d:D}{z:Int} (p:Int) (h:HH) (c1:BT.ev (runN T G (k+1)) G sc1 [some (.p d),some (.p (.int z)),some (.p (.int p)),none,none] h=some (.p (.bl false),h)) (c2:BT.ev (runN T G (k+1)) G sc2 [some (.p d),some (.p (.int z)),some (.p (.int p)),none,none] h=some (.p (.bl false),h)) (c3:BT.ev (runN T G (k+1)) G sc3 [some (.p d),some (.p (.int z)),some (.p (.int p)),none,none] h=some (.p (.bl false),h)) :
 ∃ d',runN T G (k+2) "_law_spoilt" [.p d,.p (.int z),.p (.int p)] h=some (.p d',h)/\(Rr d->OkR d')/\(Pp d->OkP d'):=by
 obtain ⟨d',hd,o⟩:=JI (G:=G) L k (z / 7) h
 refine ⟨d',?_,fun _=>(zT d' hd).1,fun _=>(zT d' hd).2⟩
 rw[run_eq L.spoilt rfl,pR]
 generalize sc1=C1 at *
 generalize sc2=C2 at *
 generalize sc3=C3 at *
 generalize sb1=XBa at *
 generalize sl2=XLb at *
 generalize sl3=XLc at *
 simp[c1,c2,c3,o,cS]
theorem uX (L:L01 T) (k:Nat) {d:D} (ht:Tm d) {z:Int} (hz:0<=z) (p:Int) (h:HH) (c1:BT.ev (runN T G (k+1)) G sc1 [some (.p d),some (.p (.int z)),some (.p (.int p)),none,none] h=some (.p (.bl false),h)) :
 ∃ d',runN T G (k+2) "_law_spoilt" [.p d,.p (.int z),.p (.int p)] h=some (.p d',h)/\(Rr d->OkR d')/\(Pp d->OkP d'):=by
 have m0:0<=z / 14 % 6:=by lia
 have m1:z / 14 % 6 < 6:=by lia
 have c2:=JJ (G:=G) (runN T G (k+1)) d z (some (.p (.int p))) none none h
 cases ht with
 | str x=>exact pS L k p h c1 c2 (zY _ rfl _ _ _ _ _)
 | int i hb =>
  have c3:=GB (G:=G) (runN T G (k+1)) i z (some (.p (.int p))) none none h
  by_cases c:z / 7 % 2=0
  ·rw[decide_eq_true c] at c3
   obtain ⟨d',hd,e⟩:=lJ (sp3 i) (z / 14 % 6) m0 m1
   refine ⟨d',?_,fun _=>(zX d' hd).1,fun _=>(zX d' hd).2⟩
   have s3:=GA (G:=G) (runN T G (k+1)) hb (some (.p (.int z))) (some (.p (.int p))) none none h
   have c2:BT.ev (runN T G (k+1)) G sc2 [some (.p (.int i)),some (.p (.int z)),some (.p (.int p)),none,none] h=some (.p (.bl false),h):=c2
   rw[run_eq L.spoilt rfl,pR]
   generalize sc1=C1 at *
   generalize sc2=C2 at *
   generalize sc3=C3 at *
   generalize sb1=XBa at *
   generalize sl2=XLb at *
   generalize sl3=XLc at *
   generalize sp3 i=PL at *
   simp[-fy,c1,c2,c3,s3,e,cS]
  ·rw[decide_eq_false c] at c3
   exact pS L k p h c1 c2 c3
 | tup xs l hx =>
  cases xs with
  | nil=>exact pS L k p h c1 c2 (zY _ rfl _ _ _ _ _)
  | cons x r =>
   have l29:r.length<=29:=by rw[NJ] at l;lia
   have c2:BT.ev (runN T G (k+1)) G sc2 [some (.p (.tup (x :: r))),some (.p (.int z)),some (.p (.int p)),none,none] h=some (.p (.bl (decide (z / 7 % 2=0))),h):=c2
   by_cases c:z / 7 % 2=0
   ·rw[decide_eq_true c] at c2
    obtain ⟨d',hd,e⟩:=lJ (sp6 x r) (z / 14 % 6) m0 m1
    refine ⟨d',?_,(kP l29 d' hd).1,(kP l29 d' hd).2⟩
    have s2:=Gz (G:=G) (runN T G (k+1)) (x:=x) l29 (some (.p (.int z))) (some (.p (.int p))) none none h
    rw[run_eq L.spoilt rfl,pR]
    generalize sc1=C1 at *
    generalize sc2=C2 at *
    generalize sc3=C3 at *
    generalize sb1=XBa at *
    generalize sl2=XLb at *
    generalize sl3=XLc at *
    generalize sp6 x r=PL at *
    simp[-fy,c1,c2,s2,e,cS]
   ·rw[decide_eq_false c] at c2
    exact pS L k p h c1 c2 (zY _ rfl _ _ _ _ _)
theorem zZ (L:L01 T) (k:Nat):∀ (p:Nat) (d:D) (z:Int),Tm d->0<=z->∀ h,∃ d',runN T G (k+p+2) "_law_spoilt" [.p d,.p (.int z),.p (.int p)] h=some (.p d',h)/\(Rr d->OkR d')/\(Pp d->OkP d'):=by
 intro p
 induction p with
 | zero =>
  intro d z ht hz h
  exact uX L k ht hz 0 h (DJ (G:=G) (runN T G (k+1)) d z 0 none none h)
 | succ p ih =>
  intro d z ht hz h
  have c1:=DJ (G:=G) (runN T G (k+p+2)) d z ((p+1:Nat):Int) none none h
  rw[show decide (0 < ((p+1:Nat):Int))=true from decide_eq_true (by lia),Ro] at c1
  rw[show k+(p+1)+2=(k+p+1)+2 by lia]
  cases q:(kj d&&decide (0 < z % 7)) with
  | false=>rw[q] at c1;exact uX L (k+p+1) ht hz _ h c1
  | true =>
   rw[q] at c1
   rw[NG] at q
   cases ht with
   | str x=>exact dG q.1
   | int i hb=>exact dG q.1
   | tup xs l hx =>
    cases xs with
    | nil=>exact dG q.1
    | cons x r =>
     have lp0:(0:Int) < (r.length:Int)+1:=by lia
     have a0:0<=z / 7 % ((r.length:Int)+1):=Ss _ (by lia)
     have a1:z / 7 % ((r.length:Int)+1) < (r.length:Int)+1:=Ru _ lp0
     obtain ⟨n,hn⟩:∃ n:Nat,z / 7 % ((r.length:Int)+1)=(n:Int):=⟨_,(Rl a0).symm⟩
     have nl:n < (x :: r).length:=by rw[NJ];lia
     have ix:fU (.tup (x :: r)) (.int (n:Int))=some (x :: r)[n]:=by
      show atP _ ((n:Nat):Int)=_
      rw[iH,NN nl]
     have mem:=QM nl
     obtain ⟨d',rn,o1,o2⟩:=ih (x :: r)[n] (z / 91) (hx _ mem) (by lia) h
     have s1:=zU (x :: r) (z:=(n:Int)) rfl (PR nl)
     have s2:=zV (x :: r) (z:=(n:Int)+1) (n:=n+1) rfl nl
     have bm:fJ .mod (.int (z / 7)) (.int ((r.length:Int)+1))=some (.int (n:Int)):=by
      rw[iW,if_pos lp0,hn]
     have lt:((x :: r).take n).length<=30:=by rw[OP];exact Ol (R0 _ _) l
     have ld:((x :: r).drop (n+1)).length<=30:=by rw[Ot];exact Ol (Nat.sub_le _ _) l
     have b1:fJ .add (.tup ((x :: r).take n)) (.tup [d'])=some (.tup ((x :: r).take n++[d'])):=by
      rw[dz,if_pos (show ((x :: r).take n).length+[d'].length<=lim from (by rw[Oj];lia:((x :: r).take n).length+[d'].length<=100000))]
     have b2:fJ .add (.tup ((x :: r).take n++[d'])) (.tup ((x :: r).drop (n+1)))=some (.tup ((x :: r).take n++[d']++(x :: r).drop (n+1))):=by
      rw[dz,if_pos (show ((x :: r).take n++[d']).length+((x :: r).drop (n+1)).length<=lim from (by rw[NW,Oj];lia:((x :: r).take n++[d']).length+((x :: r).drop (n+1)).length<=100000))]
     refine ⟨.tup ((x :: r).take n++[d']++(x :: r).drop (n+1)),?_,?_,?_⟩
     ·have ln:=pN x r
      have pd:((p+1:Nat):Int) - 1=(p:Int):=by lia
      rw[run_eq L.spoilt rfl,pR]
      generalize ((p+1:Nat):Int)=PP at *
      generalize sc1=C1 at *
      generalize sc2=C2 at *
      generalize sc3=C3 at *
      generalize sl2=XLb at *
      generalize sl3=XLc at *
      generalize (x :: r).take n++[d']++(x :: r).drop (n+1)=Z1 at *
      generalize (x :: r).take n++[d']=Z2 at *
      generalize (x :: r).take n=Z3 at *
      generalize (x :: r).drop (n+1)=Z4 at *
      generalize (x :: r)[n]=ZX at *
      generalize x :: r=XS at *
      have rn:runN T G (k+p+1+1) "_law_spoilt" [.p ZX,.p (.int (z / 91)),.p (.int (p:Int))] h=some (.p d',h):=rn
      have c1:BT.ev (runN T G (k+p+1+1)) G C1 [some (.p (.tup XS)),some (.p (.int z)),some (.p (.int PP)),none,none] h=some (.p (.bl true),h):=c1
      simp[-dI,-fD,-dz,-iW,-dj,sb1,c1,ln,bm,ix,pd,rn,s1,s2,b1,b2,cS]
     ·intro ⟨w,ps,e,hl,_⟩
      cases e
      refine jd (decide_eq_true ?_)
      rw[NW,NW,OP,Ot,Oj,NJ]
      lia
     ·intro ⟨ys,e,hy⟩
      cases e
      refine kh fun y hm=>?_
      rcases List.mem_append.mp hm with hm | hm
      ·rcases List.mem_append.mp hm with hm | hm
       ·exact mV (hy y (Q7 hm))
       ·rw[show y=d' by simpa using hm]
        exact o1 (hy _ mem)
      ·exact mV (hy y (Q8 hm))
end
inductive Td:Nat->D->Prop where
 | str (n:Nat) (x:Str):Td n (.str x)
 | int (n:Nat) (i:Int):Td n (.int i)
 | tup (n:Nat) (x:D) (r:List D) (l:r.length<=3) (h:∀ y,y∈x :: r->Td n y):Td (n+1) (.tup (x :: r))
noncomputable def Bd:Nat->Nat
 | 0=>5
 | n+1=>4+4*Bd n
theorem bd5:∀ n,5<=Bd n
 | 0=>NI _
 | n+1=>by have:=bd5 n;show 5<=4+4*Bd n;lia
theorem GC (n:Nat) (d:D) (h:d∈upto 0 n):∃ i:Nat,d=.int (i:Int)/\i < n:=by
 obtain ⟨i,hi,rfl⟩:=List.mem_map.mp h
 exact ⟨i,by rw[Int.zero_add],List.mem_range.mp hi⟩
theorem z9 (n:Nat):(upto 0 n).length=n:=by simp[upto]
section
variable {T:FK->Option Fn}{G:Str->Option W}
noncomputable def eaE:E:=(.bin .add (.bin .add (.slc (.var 1) .nil (.cons (.var 2) .nil)) (.tup (.cons (.var 0) .nil))) (.slc (.var 1) (.cons (.bin .add (.var 2) (.cst (.int 1))) .nil) .nil))
noncomputable def je (xs:List D) (n:Nat) (p:D):D:=.tup (xs.take n++[p]++xs.drop (n+1))
theorem uY (F:FK->List W->HH->Option (W×HH)) {xs:List D} (l:xs.length<=30) {n:Nat} (hn:n < xs.length) (h:HH):∀ ps:List D,
 dm (dX (evs F G .nil) (BT.ev F G eaE) [some (.p (.tup xs)),some (.p (.int (n:Int)))]) 1 ps h=some (ps.map (je xs n),h)
 | []=>rfl
 | p :: ps=>by
  have q:dm (dX (evs F G .nil) (BT.ev F G eaE) [some (.p (.tup xs)),some (.p (.int (n:Int)))]) 1 ps h=some (ps.map (je xs n),h):=uY F l hn h ps
  have s1:=zU xs (z:=(n:Int)) rfl (PR hn)
  have s2:=zV xs (z:=(n:Int)+1) (n:=n+1) rfl hn
  have lt:(xs.take n).length<=30:=by rw[OP];exact Ol (R0 _ _) l
  have ld:(xs.drop (n+1)).length<=30:=by rw[Ot];exact Ol (Nat.sub_le _ _) l
  have b1:fJ .add (.tup (xs.take n)) (.tup [p])=some (.tup (xs.take n++[p])):=by
   rw[dz,if_pos (show (xs.take n).length+[p].length<=lim from (by rw[Oj];lia:(xs.take n).length+[p].length<=100000))]
  have b2:fJ .add (.tup (xs.take n++[p])) (.tup (xs.drop (n+1)))=some (je xs n p):=by
   rw[dz,if_pos (show (xs.take n++[p]).length+(xs.drop (n+1)).length<=lim from (by rw[NW,Oj];lia:(xs.take n++[p]).length+(xs.drop (n+1)).length<=100000))];rfl
  have el:BT.ev F G eaE [some (.p p),some (.p (.tup xs)),some (.p (.int (n:Int)))] h=some (.p (je xs n p),h):=by
   generalize je xs n p=PU at *
   generalize xs.take n++[p]=Z2 at *
   generalize xs.take n=Z3 at *
   generalize xs.drop (n+1)=Z4 at *
   simp[-fD,-dz,eaE,s1,s2,b1,b2]
  have st:dm (dX (evs F G .nil) (BT.ev F G eaE) [some (.p (.tup xs)),some (.p (.int (n:Int)))]) 1 (p :: ps) h=bnd (bnd (BT.ev F G eaE [some (.p p),some (.p (.tup xs)),some (.p (.int (n:Int)))] h) kC) (qz (dm (dX (evs F G .nil) (BT.ev F G eaE) [some (.p (.tup xs)),some (.p (.int (n:Int)))]) 1 ps)):=rfl
  rw[st,el,dH]
  show bnd (some (some (je xs n p),h)) _=_
  rw[dH,jj,q];rfl
theorem Aa {xs:List D} (l:xs.length<=5) (n:Nat) (hn:n < xs.length) (p:D):OkR (je xs n p)/\((∀ x∈xs,Rr x)->OkR p->OkP (je xs n p)):=by
 constructor
 ·refine jd (decide_eq_true ?_)
  rw[NW,NW,OP,Ot,Oj]
  lia
 ·intro hx hp
  refine kh fun y hm=>?_
  rcases List.mem_append.mp hm with hm | hm
  ·rcases List.mem_append.mp hm with hm | hm
   ·exact mV (hx y (Q7 hm))
   ·rw[show y=p by simpa using hm];exact hp
  ·exact mV (hx y (Q8 hm))
noncomputable def Ea (d:D) (l:List D):Prop:=(Rr d->∀ x∈l,OkR x)/\(Pp d->∀ x∈l,OkP x)
theorem uZ (F:FK->List W->HH->Option (W×HH)) {xs:List D} (l:xs.length<=4) (B:Nat) (hB:B<=1000) (h:HH) (hF:∀ x∈xs,∃ ps,F (.f "_law_each") [.p x] h=some (.p (.lst ps),h)/\ps.length<=B/\Ea x ps):∀ (is:List D) (acc:List D) (x2:Option W),(∀ d∈is,∃ i:Nat,d=.int (i:Int)/\i < xs.length)->acc.length+is.length*B<=10000->Ea (.tup xs) acc →
 ∃ acc' y2,dZ (evS F G (.set 1 (.bin .add (.var 1) pO))) [(2,"_law_place")] is [some (.p (.tup xs)),some (.p (.lst acc)),x2] h=some (.nx [some (.p (.tup xs)),some (.p (.lst acc')),y2] h)/\acc'.length<=acc.length+is.length*B/\Ea (.tup xs) acc'
 | [],acc,x2,_,_,ha=>⟨acc,x2,rfl,by simp,ha⟩
 | d :: is,acc,x2,hi,hl,ha=>by
  obtain ⟨i,rfl,il⟩:=hi d NV
  have ix:fU (.tup xs) (.int (i:Int))=some xs[i]:=by
   show atP _ ((i:Nat):Int)=_
   rw[iH,NN il]
  have mem:=QM il
  obtain ⟨ps,f1,pl,pe⟩:=hF xs[i] mem
  have cc:=uY (G:=G) F (xs:=xs) (by lia) il h ps
  have c2:BT.ev F G pO [some (.p (.tup xs)),some (.p (.lst acc)),some (.p (.int (i:Int)))] h=some (.p (.lst (ps.map (je xs i))),h) :=
   cgo (ws:=[.p (.lst ps)]) (h1:=h) (fs:=[some (.p (.tup xs)),some (.p (.int (i:Int)))]) (by simp[-dI,ix,f1]) rfl rfl rfl cc (by rw[NS];lia)
  have hm:(d:Nat)->(d+1)*B=d*B+B:=fun d=>Nat.succ_mul d B
  rw[NJ,hm] at hl
  have ba:fJ .add (.lst acc) (.lst (ps.map (je xs i)))=some (.lst (acc++ps.map (je xs i))):=by
   rw[fK,if_pos (show acc.length+(ps.map (je xs i)).length<=lim from (by rw[NS];lia:acc.length+(ps.map (je xs i)).length<=100000))]
  have st:evS F G (.set 1 (.bin .add (.var 1) pO)) [some (.p (.tup xs)),some (.p (.lst acc)),some (.p (.int (i:Int)))] h=some (.nx [some (.p (.tup xs)),some (.p (.lst (acc++ps.map (je xs i)))),some (.p (.int (i:Int)))] h):=by
   generalize pO=KE at *
   generalize acc++ps.map (je xs i)=AC at *
   generalize ps.map (je xs i)=PM at *
   simp[-fK,c2,ba]
  obtain ⟨acc',y2,q,ql,qe⟩:=uZ F l B hB h hF is (acc++ps.map (je xs i)) (some (.p (.int (i:Int)))) (fun d hd=>hi d (NP _ hd)) (by rw[NW,NS];lia) ⟨fun r x hx=>by
   rcases List.mem_append.mp hx with hx | hx
   ·exact ha.1 r x hx
   ·obtain ⟨p,_,rfl⟩:=List.mem_map.mp hx
    exact (Aa (by lia) i il p).1,fun r x hx=>by
   rcases List.mem_append.mp hx with hx | hx
   ·exact ha.2 r x hx
   ·obtain ⟨p,hp,rfl⟩:=List.mem_map.mp hx
    obtain ⟨ys,e,hy⟩:=r
    cases e
    exact (Aa (by lia) i il p).2 hy (pe.1 (hy _ mem) p hp)⟩
  refine ⟨acc',y2,?_,?_,qe⟩
  ·have sf:dZ (evS F G (.set 1 (.bin .add (.var 1) pO))) [(2,"_law_place")] (.int (i:Int) :: is) [some (.p (.tup xs)),some (.p (.lst acc)),x2] h=gM (evS F G (.set 1 (.bin .add (.var 1) pO)) [some (.p (.tup xs)),some (.p (.lst acc)),some (.p (.int (i:Int)))] h) (dZ (evS F G (.set 1 (.bin .add (.var 1) pO))) [(2,"_law_place")] is):=rfl
   rw[sf,st,gO,q]
  ·rw[NW,NS] at ql
   rw[NJ,hm]
   lia
theorem GD (L:L01 T) (k:Nat):∀ (n:Nat) (d:D),n<=3->Td n d->∀ h,∃ ps,runN T G (k+n+1) "_law_each" [.p d] h=some (.p (.lst ps),h)/\ps.length<=Bd n/\Ea d ps:=by
 intro n
 induction n with
 | zero =>
  intro d _ ht h
  cases ht with
  | str _ x =>
   refine ⟨[.non,.str "",.str "A",.str "set"],?_,by decide,fun ⟨w,ps,e,_⟩=>(nomatch e),fun ⟨w,e,_⟩=>(nomatch e)⟩
   rw[run_eq L.each rfl]
   simp[eX,cS]
  | int _ i =>
   refine ⟨[.non,.bl true,.int (i - 1),.int (i+1),.int 1000],?_,(show 5<=Bd 0 from NI _),fun ⟨w,ps,e,_⟩=>(nomatch e),fun ⟨w,e,_⟩=>(nomatch e)⟩
   rw[run_eq L.each rfl]
   simp[eX,cS]
 | succ n ih =>
  intro d hn3 ht h
  have b5:=bd5 (n+1)
  cases ht with
  | str _ x =>
   refine ⟨[.non,.str "",.str "A",.str "set"],?_,Ol (by decide) b5,fun ⟨w,ps,e,_⟩=>(nomatch e),fun ⟨w,e,_⟩=>(nomatch e)⟩
   rw[run_eq L.each rfl]
   simp[eX,cS]
  | int _ i =>
   refine ⟨[.non,.bl true,.int (i - 1),.int (i+1),.int 1000],?_,(show 5<=Bd (n+1) from b5),fun ⟨w,ps,e,_⟩=>(nomatch e),fun ⟨w,e,_⟩=>(nomatch e)⟩
   rw[run_eq L.each rfl]
   simp[eX,cS]
  | tup _ x r l hx =>
   have bn:Bd n<=404:=by
    have:n<=2:=by lia
    rcases (show n=0\/n=1\/n=2 by lia) with rfl | rfl | rfl<;>decide
   have l4:(x :: r).length<=4:=by rw[NJ];lia
   have a0:Ea (.tup (x :: r)) [.non,.lst (x :: r),.tup ((x :: r)++(x :: r).drop r.length),.tup r]:=by
    constructor
    ·intro q y hy
     rcases (show y=.non\/y=.lst (x :: r)\/y=.tup ((x :: r)++(x :: r).drop r.length)\/y=.tup r by simpa using hy) with rfl | rfl | rfl | rfl
     ·exact fun w ps e=>(nomatch e)
     ·exact fun w ps e=>(nomatch e)
     ·exact (kP (x:=x) (r:=r) (by lia) _ (by simp[sp6])).1 q
     ·exact (kP (x:=x) (r:=r) (by lia) _ (by simp[sp6])).1 q
    ·intro q y hy
     rcases (show y=.non\/y=.lst (x :: r)\/y=.tup ((x :: r)++(x :: r).drop r.length)\/y=.tup r by simpa using hy) with rfl | rfl | rfl | rfl
     ·exact fun xs e=>(nomatch e)
     ·exact fun xs e=>(nomatch e)
     ·exact (kP (x:=x) (r:=r) (by lia) _ (by simp[sp6])).2 q
     ·exact (kP (x:=x) (r:=r) (by lia) _ (by simp[sp6])).2 q
   obtain ⟨acc',y2,q,ql,qe⟩:=uZ (G:=G) (runN T G (k+n+1)) l4 (Bd n) (by lia) h (fun y hy=>ih y (by lia) (hx y hy) h) (upto 0 (x :: r).length) [.non,.lst (x :: r),.tup ((x :: r)++(x :: r).drop r.length),.tup r] none (fun d hd=>GC _ d hd) (by
    rw[z9]
    have:(x :: r).length*Bd n<=4*404:=SO l4 bn
    show 4+(x :: r).length*Bd n<=10000
    lia) a0
   refine ⟨acc',?_,?_,qe⟩
   ·rw[show k+(n+1)+1=(k+n+1)+1 by lia,run_eq L.each rfl]
    have s2:=zW x r
    have s3:=zF x r
    have b1:fJ .add (.tup (x :: r)) (.tup ((x :: r).drop r.length))=some (.tup ((x :: r)++(x :: r).drop r.length)):=by
     rw[dz,if_pos (show (x :: r).length+((x :: r).drop r.length).length<=lim from (by rw[Ot,NJ];lia:(x :: r).length+((x :: r).drop r.length).length<=100000))]
    have li:biD .list [.tup (x :: r)]=some (.lst (x :: r)):=rfl
    have ln:biD .len [.tup (x :: r)]=some (.int ((x :: r).length:Int)):=rfl
    have sr:fP .rng1 [.int ((x :: r).length:Int)]=some (upto 0 (x :: r).length):=by
     rw[gJ,if_pos (by simp;simp at l4;lia)];rfl
    rw[eX]
    generalize upto 0 (x :: r).length=UP at *
    generalize ((x :: r).length:Int)=LN at *
    generalize (x :: r)++(x :: r).drop r.length=A1 at *
    generalize (x :: r).drop r.length=A2 at *
    generalize x :: r=XS at *
    generalize (S.set 1 (.bin .add (.var 1) pO))=KB at *
    simp[-dZ,-fD,-dz,-dj,-gJ,s2,s3,b1,li,ln,sr,iQ,q,cS]
   ·rw[z9] at ql
    have:(x :: r).length*Bd n<=4*Bd n:=Nat.mul_le_mul_right _ l4
    show acc'.length<=4+4*Bd n
    have:acc'.length<=4+(x :: r).length*Bd n:=ql
    lia
end
theorem rB:∀ s:Sm,s.ok->Tm s.enc
 | .num n,h=>.tup _ (by simp) fun x hx=>by
  rcases (show x=.str "num"\/x=.int n by simpa using hx) with rfl | rfl
  ·exact .str _
  ·exact .int _ (uH h)
 | .nam i,h=>.tup _ (by simp) fun x hx=>by
  rcases (show x=.str "name"\/x=.str i.w by simpa using hx) with rfl | rfl<;>exact .str _
 | .cell s,h=>.tup _ (by simp) fun x hx=>by
  rcases (show x=.str "cell"\/x=s.enc by simpa using hx) with rfl | rfl
  ·exact .str _
  ·exact rB s h
 | .two o a b,h=>.tup _ (by simp) fun x hx=>by
  rcases (show x=.str o.w\/x=a.enc\/x=b.enc by simpa using hx) with rfl | rfl | rfl
  ·exact .str _
  ·exact rB a h.1
  ·exact rB b h.2
theorem JK {n:Nat} (hn:n<=100) {r:Rw} (h:r.ok n):Tm r.enc:=by
 rw[uJ]
 refine .tup _ (by have:=uK r;simp;lia) fun x hx=>?_
 rcases List.mem_cons.mp hx with rfl | hx
 ·exact .str _
 ·obtain ⟨p,hp,rfl⟩:=List.mem_map.mp hx
  cases Gj h p hp with
  | sm s hs=>exact rB s hs.1
  | nm x=>exact .str _
  | pl q hq=>exact .int _ (uH (Gk hn hq))
theorem DK (r:Rw):Rr r.enc:=⟨r.wd,r.prt.map Prt.d,uJ r,by have:=uK r;simpa using this,fun e=>by
 have h:∀ w∈(["set","put","ask","say","jump","unless","call","back","stop"]:List String),(jc (NY w)).isSome=true:=by decide +kernel
 have q:=h _ (CJ r)
 rw[show jc (NY r.word)=none from e] at q
 exact dG q⟩
theorem JL (pg:Pg):Pp (kN pg):=⟨pg.map Rw.enc,rfl,fun x hx=>by
 obtain ⟨r,_,rfl⟩:=List.mem_map.mp hx
 exact DK r⟩
theorem JM {n:Nat} (hn:n<=100) {pg:Pg} (hl:pg.length<=20) (h:∀ r∈pg,r.ok n):Tm (kN pg):=.tup _ (by rw[NS];lia) fun x hx=>by
 obtain ⟨r,hr,rfl⟩:=List.mem_map.mp hx
 exact JK hn (h r hr)
section
variable {T:FK->Option Fn}{G:Str->Option W}
theorem Ab (P:P01 T G) (L:L01 T) (k:Nat) (h:HH) (w0 w1 w2 w3 w4 w5 w6 w9 w10:Option W):∀ (ds:List D) (x7 x8:Option W),
 ∃ y7 y8,dZ (evS (runN T G (k+20)) G rf) [(7,"_law_thing")] ds [w0,w1,w2,w3,w4,w5,w6,x7,x8,w9,w10] h=some (.nx [w0,w1,w2,w3,w4,w5,w6,y7,y8,w9,w10] h)
 | [],x7,x8=>⟨x7,x8,rfl⟩
 | d :: ds,x7,x8=>by
  have a:=q8 P (k+16) d h
  have b:=rA (G:=G) L (k+2) d h
  have cb:eZ .ne (.bl (j8 d)) (.bl (j8 d))=some false:=by rw[eS,if_pos (oG _ _),gW];rfl
  obtain ⟨y7,y8,q⟩:=Ab P L k h w0 w1 w2 w3 w4 w5 w6 w9 w10 ds (some (.p d)) (some (.p (.bl (j8 d))))
  refine ⟨y7,y8,?_⟩
  have e:evS (runN T G (k+20)) G rf [w0,w1,w2,w3,w4,w5,w6,some (.p d),x8,w9,w10] h=some (.nx [w0,w1,w2,w3,w4,w5,w6,some (.p d),some (.p (.bl (j8 d))),w9,w10] h):=by
   generalize j8 d=SB at *
   simp[-eS,rf,a,b,cb]
  have st:dZ (evS (runN T G (k+20)) G rf) [(7,"_law_thing")] (d :: ds) [w0,w1,w2,w3,w4,w5,w6,x7,x8,w9,w10] h=gM (evS (runN T G (k+20)) G rf [w0,w1,w2,w3,w4,w5,w6,some (.p d),x8,w9,w10] h) (dZ (evS (runN T G (k+20)) G rf) [(7,"_law_thing")] ds):=rfl
  rw[st,e,gO,q]
theorem Ac (P:P01 T G) (L:L01 T) (k:Nat) (h:HH) (w0 w1 w2 w3 w4 w5 w6 w9 w10:Option W):∀ (ds:List D) (x7 x8:Option W),(∀ d∈ds,OkP d) →
 ∃ y7 y8,dZ (evS (runN T G (k+20)) G pP) [(7,"_law_thing")] ds [w0,w1,w2,w3,w4,w5,w6,x7,x8,w9,w10] h=some (.nx [w0,w1,w2,w3,w4,w5,w6,y7,y8,w9,w10] h)
 | [],x7,x8,_=>⟨x7,x8,rfl⟩
 | d :: ds,x7,x8,ok=>by
  have a:=j9 P (k+13) d h
  have b:=kg (G:=G) L k (ok d NV) h
  have cb:eZ .ne (.bl (fW d)) (.bl (fW d))=some false:=by rw[eS,if_pos (oG _ _),gW];rfl
  obtain ⟨y7,y8,q⟩:=Ac P L k h w0 w1 w2 w3 w4 w5 w6 w9 w10 ds (some (.p d)) (some (.p (.bl (fW d)))) fun x hx=>ok x (NP _ hx)
  refine ⟨y7,y8,?_⟩
  have e:evS (runN T G (k+20)) G pP [w0,w1,w2,w3,w4,w5,w6,some (.p d),x8,w9,w10] h=some (.nx [w0,w1,w2,w3,w4,w5,w6,some (.p d),some (.p (.bl (fW d))),w9,w10] h):=by
   generalize fW d=SB at *
   simp[-eS,pP,a,b,cb]
  have st:dZ (evS (runN T G (k+20)) G pP) [(7,"_law_thing")] (d :: ds) [w0,w1,w2,w3,w4,w5,w6,x7,x8,w9,w10] h=gM (evS (runN T G (k+20)) G pP [w0,w1,w2,w3,w4,w5,w6,some (.p d),x8,w9,w10] h) (dZ (evS (runN T G (k+20)) G pP) [(7,"_law_thing")] ds):=rfl
  rw[st,e,gO,q]
noncomputable def wm:E:=(.cmp .ne (.call "is_program" (.cons (.var 0) .nil)) (.call "_law_is_program" (.cons (.var 0) .nil)))
theorem Ad (P:P01 T G) (L:L01 T) (k:Nat) (h:HH):∀ ds:List D,(∀ d∈ds,OkP d)->dm (dX (evs (runN T G (k+20)) G (.cons wm .nil)) (BT.ev (runN T G (k+20)) G (.var 0)) []) 1 ds h=some ([],h)
 | [],_=>rfl
 | d :: ds,ok=>by
  have q:=Ad P L k h ds fun x hx=>ok x (NP _ hx)
  have a:=j9 P (k+13) d h
  have b:=kg (G:=G) L k (ok d NV) h
  have cb:eZ .ne (.bl (fW d)) (.bl (fW d))=some false:=by rw[eS,if_pos (oG _ _),gW];rfl
  have el:evs (runN T G (k+20)) G (.cons wm .nil) [some (.p d)] h=some ([.p (.bl false)],h):=by
   generalize fW d=SB at *
   simp[-eS,wm,a,b,cb]
  have st:dm (dX (evs (runN T G (k+20)) G (.cons wm .nil)) (BT.ev (runN T G (k+20)) G (.var 0)) []) 1 (d :: ds) h=bnd (bnd (evs (runN T G (k+20)) G (.cons wm .nil) [some (.p d)] h) (nP (BT.ev (runN T G (k+20)) G (.var 0) [some (.p d)]))) (qz (dm (dX (evs (runN T G (k+20)) G (.cons wm .nil)) (BT.ev (runN T G (k+20)) G (.var 0)) []) 1 ds)):=rfl
  rw[st,el,dH]
  show bnd (some (none,h)) _=_
  rw[dH,jj,q];rfl
theorem Ae (W1:Lw T) (k:Nat) (h:HH) (ns:List Int) (hl:ns.length<=1000) (w1 w2 w6 w7 w8 w9 w10:Option W):∀ (is:List Nat) (g:D) (x4 x5:Option W),
 ∃ g' y4 y5,dZ (evS (runN T G (k+20)) G q9) [(4,"_law_k")] (is.map fun (i:Nat)=>.int (i:Int)) [some (.p (.lst (c9 ns))),w1,w2,some (.p g),x4,x5,w6,w7,w8,w9,w10] h=some (.nx [some (.p (.lst (c9 ns))),w1,w2,some (.p g'),y4,y5,w6,w7,w8,w9,w10] h)
 | [],g,x4,x5=>⟨g,x4,x5,rfl⟩
 | i :: is,g,x4,x5=>by
  have r:=eN (G:=G) W1 (k+18) ns hl (501+(i:Int)) 3 (by decide) h
  have d0:=fj ns (501+(i:Int)) (many:=3) (by decide)
  have d1:=fB ns (501+(i:Int)) (many:=3) (by decide)
  obtain ⟨g2,_,e⟩:=lJ [.tup [.str "cell",g],.tup [.str "add",g,.tup [.str "num",.int 1]],.tup [.str "less",.tup [.str "name",.str "f"],g]] (drw ns (501+(i:Int)) 3) d0 d1
  generalize drw ns (501+(i:Int)) 3=V at *
  obtain ⟨g',y4,y5,q⟩:=Ae W1 k h ns hl w1 w2 w6 w7 w8 w9 w10 is g2 (some (.p (.int (i:Int)))) (some (.p (.int V)))
  refine ⟨g',y4,y5,?_⟩
  have s:evS (runN T G (k+20)) G q9 [some (.p (.lst (c9 ns))),w1,w2,some (.p g),some (.p (.int (i:Int))),x5,w6,w7,w8,w9,w10] h=some (.nx [some (.p (.lst (c9 ns))),w1,w2,some (.p g2),some (.p (.int (i:Int))),some (.p (.int V)),w6,w7,w8,w9,w10] h):=by
   generalize c9 ns=IL at *
   generalize (i:Int)=II at *
   simp[-fy,q9,r,e]
  have st:dZ (evS (runN T G (k+20)) G q9) [(4,"_law_k")] ((i :: is).map fun (i:Nat)=>.int (i:Int)) [some (.p (.lst (c9 ns))),w1,w2,some (.p g),x4,x5,w6,w7,w8,w9,w10] h=gM (evS (runN T G (k+20)) G q9 [some (.p (.lst (c9 ns))),w1,w2,some (.p g),some (.p (.int (i:Int))),x5,w6,w7,w8,w9,w10] h) (dZ (evS (runN T G (k+20)) G q9) [(4,"_law_k")] (is.map fun (i:Nat)=>.int (i:Int))):=rfl
  rw[st,s,gO,q]
end
noncomputable def fH:List D:=[.tup [.str "jump",.int 1],.tup [.str "set",.str "a",.tup [.str "num",.int 3]],.tup [.str "unless",.tup [.str "name",.str "a"],.int 3],.tup [.str "ask",.str "b"]]
theorem C6:Td 3 (.tup fH):=by
 refine .tup 2 _ _ (by decide) fun y hy=>?_
 rcases (show y=.tup [.str "jump",.int 1]\/y=.tup [.str "set",.str "a",.tup [.str "num",.int 3]]\/y=.tup [.str "unless",.tup [.str "name",.str "a"],.int 3]\/y=.tup [.str "ask",.str "b"] by simpa using hy) with rfl | rfl | rfl | rfl
 ·refine .tup 1 _ _ (by decide) fun y hy=>?_
  rcases (show y=.str "jump"\/y=.int 1 by simpa using hy) with rfl | rfl
  ·exact .str _ _
  ·exact .int _ _
 ·refine .tup 1 _ _ (by decide) fun y hy=>?_
  rcases (show y=.str "set"\/y=.str "a"\/y=.tup [.str "num",.int 3] by simpa using hy) with rfl | rfl | rfl
  ·exact .str _ _
  ·exact .str _ _
  ·refine .tup 0 _ _ (by decide) fun y hy=>?_
   rcases (show y=.str "num"\/y=.int 3 by simpa using hy) with rfl | rfl
   ·exact .str _ _
   ·exact .int _ _
 ·refine .tup 1 _ _ (by decide) fun y hy=>?_
  rcases (show y=.str "unless"\/y=.tup [.str "name",.str "a"]\/y=.int 3 by simpa using hy) with rfl | rfl | rfl
  ·exact .str _ _
  ·refine .tup 0 _ _ (by decide) fun y hy=>?_
   rcases (show y=.str "name"\/y=.str "a" by simpa using hy) with rfl | rfl
   ·exact .str _ _
   ·exact .str _ _
  ·exact .int _ _
 ·refine .tup 1 _ _ (by decide) fun y hy=>?_
  rcases (show y=.str "ask"\/y=.str "b" by simpa using hy) with rfl | rfl
  ·exact .str _ _
  ·exact .str _ _
theorem u0:Pp (.tup fH):=⟨fH,rfl,fun y hy=>by
 rcases (show y=.tup [.str "jump",.int 1]\/y=.tup [.str "set",.str "a",.tup [.str "num",.int 3]]\/y=.tup [.str "unless",.tup [.str "name",.str "a"],.int 3]\/y=.tup [.str "ask",.str "b"] by simpa [fH] using hy) with rfl | rfl | rfl | rfl
 ·exact ⟨"jump",[.int 1],rfl,by simp,by decide +kernel⟩
 ·exact ⟨"set",[.str "a",.tup [.str "num",.int 3]],rfl,by simp,by decide +kernel⟩
 ·exact ⟨"unless",[.tup [.str "name",.str "a"],.int 3],rfl,by simp,by decide +kernel⟩
 ·exact ⟨"ask",[.str "b"],rfl,by simp,by decide +kernel⟩⟩
theorem GE {d:D} (h:Pp d):OkP d:=by
 obtain ⟨xs,rfl,hx⟩:=h
 exact kh fun x q=>mV (hx x q)
section
variable {T:FK->Option Fn}{G:Str->Option W}
theorem JN (P:P01 T G) (L:L01 T) (k:Nat) (h:HH) (w0 w1 w2 w3 w4 w5 w6 w7 w8 w9 x10:Option W):evS (runN T G (k+20)) G rg [w0,w1,w2,w3,w4,w5,w6,w7,w8,w9,x10] h=some (.rt (.p (.bl true)) h):=by
 obtain ⟨ps,f1,pl,pe⟩:=GD (G:=G) L (k+16) 3 (.tup fH) (by decide) C6 h
 have f1:runN T G (k+20) "_law_each" [.p (.tup fH)] h=some (.p (.lst ps),h):=f1
 have b404:Bd 3=404:=rfl
 rw[b404] at pl
 have ba:fJ .add (.lst [.tup fH]) (.lst ps)=some (.lst (.tup fH :: ps)):=by
  rw[fK,if_pos (show [D.tup fH].length+ps.length<=lim from (by rw[Oj];lia:[D.tup fH].length+ps.length<=100000))];rfl
 have cc:=Ad P L k h (.tup fH :: ps) fun d hd=>by
  rcases List.mem_cons.mp hd with rfl | hd
  ·exact GE u0
  ·exact pe.2 u0 d hd
 have s1:BT.ev (runN T G (k+20)) G (.tup (.cons (.tup (.cons (.cst (.str "jump")) (.cons (.cst (.int 1)) .nil))) (.cons (.tup (.cons (.cst (.str "set")) (.cons (.cst (.str "a")) (.cons (.tup (.cons (.cst (.str "num")) (.cons (.cst (.int 3)) .nil))) .nil)))) (.cons (.tup (.cons (.cst (.str "unless")) (.cons (.tup (.cons (.cst (.str "name")) (.cons (.cst (.str "a")) .nil))) (.cons (.cst (.int 3)) .nil)))) (.cons (.tup (.cons (.cst (.str "ask")) (.cons (.cst (.str "b")) .nil))) .nil))))) [w0,w1,w2,w3,w4,w5,w6,w7,w8,w9,x10] h=some (.p (.tup fH),h):=by simp[fH]
 have c2:BT.ev (runN T G (k+20)) G CW [w0,w1,w2,w3,w4,w5,w6,w7,w8,w9,some (.p (.tup fH))] h=some (.p (.lst []),h):=by
  refine cgo (ws:=[.p (.lst (.tup fH :: ps))]) (h1:=h) (fs:=[]) ?_ rfl rfl rfl cc (by simp)
  generalize D.tup fH :: ps=BP at *
  generalize D.tup fH=BL at *
  simp[-fK,f1,ba]
 have eq:rg=.seq (.set 10 (.tup (.cons (.tup (.cons (.cst (.str "jump")) (.cons (.cst (.int 1)) .nil))) (.cons (.tup (.cons (.cst (.str "set")) (.cons (.cst (.str "a")) (.cons (.tup (.cons (.cst (.str "num")) (.cons (.cst (.int 3)) .nil))) .nil)))) (.cons (.tup (.cons (.cst (.str "unless")) (.cons (.tup (.cons (.cst (.str "name")) (.cons (.cst (.str "a")) .nil))) (.cons (.cst (.int 3)) .nil)))) (.cons (.tup (.cons (.cst (.str "ask")) (.cons (.cst (.str "b")) .nil))) .nil)))))) (.ret (.cmp .eq CW (.lst false .nil))):=rfl
 rw[eq,Gd s1]
 have en:eZ .eq (.lst []) (.lst [])=some true:=eq_nil []
 generalize CW=KF at *
 generalize D.tup fH=BL at *
 simp[-fX,c2,en]
theorem JO (P:P01 T G) (L:L01 T) (k:Nat) (h:HH) (w0 w1:Option W) {xs:List D} (hne:xs≠[]) (hl:xs.length<=20) (hp:∀ x∈xs,Rr x) (g sp:D) (ok:OkP sp) (w4 w5 w6 x7 x8 x10:Option W) :
 evS (runN T G (k+20)) G rj [w0,w1,some (.p (.tup xs)),some (.p g),w4,w5,w6,x7,x8,some (.p sp),x10] h=some (.rt (.p (.bl true)) h):=by
 have xr:∀ x∈xs,OkR x:=fun x hx=>mV (hp x hx)
 have b1:fJ .mul (.tup xs) (.int 3)=some (.tup (rep 3 xs)):=by
  rw[fL,if_pos]
  ·rfl
  ·have:xs.length*3<=100000:=by lia
   cases xs with
   | nil=>exact absurd rfl hne
   | cons x r =>
    rw[NJ] at this
    simp[this]
 have b2:fJ .add (.tup xs) (.tup [.tup [.str "say",g]])=some (.tup (xs++[.tup [.str "say",g]])):=by
  rw[dz,if_pos (show xs.length+[D.tup [.str "say",g]].length<=lim from (by rw[Oj];lia:xs.length+[D.tup [.str "say",g]].length<=100000))]
 have r3:∀ x∈rep 3 xs,x∈xs:=by
  intro x hx
  obtain ⟨l,h1,h2⟩:=List.mem_flatten.mp hx
  rw[List.eq_of_mem_replicate h1] at h2
  exact h2
 obtain ⟨y7,y8,lo⟩:=Ac P L k h w0 w1 (some (.p (.tup xs))) (some (.p g)) w4 w5 w6 (some (.p sp)) x10 [.tup xs,sp,.tup (rep 3 xs),.lst xs,.tup (xs++[.tup [.str "say",g]]),.tup [],.tup [.tup [.str "jump",.int 1]]] x7 x8 (fun d hd=>by
  rcases (show d=.tup xs\/d=sp\/d=.tup (rep 3 xs)\/d=.lst xs\/d=.tup (xs++[.tup [.str "say",g]])\/d=.tup []\/d=.tup [.tup [.str "jump",.int 1]] by simpa using hd) with rfl | rfl | rfl | rfl | rfl | rfl | rfl
  ·exact kh xr
  ·exact ok
  ·exact kh fun x hx=>xr x (r3 x hx)
  ·exact fun ys e=>(nomatch e)
  ·refine kh fun x hx=>?_
   rcases List.mem_append.mp hx with hx | hx
   ·exact xr x hx
   ·rw[show x=.tup [.str "say",g] by simpa using hx]
    exact jd (show decide (2<=5)=true from rfl)
  ·exact kh fun x hx=>(nomatch hx)
  ·refine kh fun x hx=>?_
   rw[show x=.tup [.str "jump",.int 1] by simpa using hx]
   exact jd (show decide (2<=5)=true from rfl))
 have t4:=JN P L k h w0 w1 (some (.p (.tup xs))) (some (.p g)) w4 w5 w6 y7 y8 (some (.p sp)) x10
 have li:biD .list [.tup xs]=some (.lst xs):=rfl
 have sr:fP .seq [.tup [.tup xs,sp,.tup (rep 3 xs),.lst xs,.tup (xs++[.tup [.str "say",g]]),.tup [],.tup [.tup [.str "jump",.int 1]]]]=some [.tup xs,sp,.tup (rep 3 xs),.lst xs,.tup (xs++[.tup [.str "say",g]]),.tup [],.tup [.tup [.str "jump",.int 1]]]:=rfl
 have se:evs (runN T G (k+20)) G (.cons (.tup (.cons (.var 2) (.cons (.var 9) (.cons (.bin .mul (.var 2) (.cst (.int 3))) (.cons (.bi .list false (.cons (.var 2) .nil)) (.cons (.bin .add (.var 2) (.tup (.cons (.tup (.cons (.cst (.str "say")) (.cons (.var 3) .nil))) .nil))) (.cons (.tup .nil) (.cons (.tup (.cons (.tup (.cons (.cst (.str "jump")) (.cons (.cst (.int 1)) .nil))) .nil)) .nil)))))))) .nil) [w0,w1,some (.p (.tup xs)),some (.p g),w4,w5,w6,x7,x8,some (.p sp),x10] h=some ([.p (.tup [.tup xs,sp,.tup (rep 3 xs),.lst xs,.tup (xs++[.tup [.str "say",g]]),.tup [],.tup [.tup [.str "jump",.int 1]]])],h):=by
  generalize rep 3 xs=R3 at *
  generalize xs++[.tup [.str "say",g]]=XG at *
  simp[-fL,-dz,b1,b2,li]
 have eq:rj=.seq (.for [(7,"_law_thing")] .seq (.cons (.tup (.cons (.var 2) (.cons (.var 9) (.cons (.bin .mul (.var 2) (.cst (.int 3))) (.cons (.bi .list false (.cons (.var 2) .nil)) (.cons (.bin .add (.var 2) (.tup (.cons (.tup (.cons (.cst (.str "say")) (.cons (.var 3) .nil))) .nil))) (.cons (.tup .nil) (.cons (.tup (.cons (.tup (.cons (.cst (.str "jump")) (.cons (.cst (.int 1)) .nil))) .nil)) .nil)))))))) .nil) pP) rg:=rfl
 rw[eq]
 generalize (Es.cons (.tup (.cons (.var 2) (.cons (.var 9) (.cons (.bin .mul (.var 2) (.cst (.int 3))) (.cons (.bi .list false (.cons (.var 2) .nil)) (.cons (.bin .add (.var 2) (.tup (.cons (.tup (.cons (.cst (.str "say")) (.cons (.var 3) .nil))) .nil))) (.cons (.tup .nil) (.cons (.tup (.cons (.tup (.cons (.cst (.str "jump")) (.cons (.cst (.int 1)) .nil))) .nil)) .nil)))))))) .nil)=ES at *
 generalize rg=K4 at *
 generalize pP=KC at *
 generalize [.tup xs,sp,.tup (rep 3 xs),.lst xs,.tup (xs++[.tup [.str "say",g]]),.tup [],.tup [.tup [.str "jump",.int 1]]]=DL at *
 simp[-dZ,se,sr,iQ,lo,t4]
end
section
variable {T:FK->Option Fn}{G:Str->Option W}
theorem MG:fJ .pow (.int 10) (.int 7)=some (.int 10000000):=by
 rw[gI,if_pos (by decide)];rfl
theorem u5 (W1:Lw T) (L:L01 T) (k:Nat) (h:HH) (ns:List Int) (hl:ns.length<=1000) (a b:Int) {d:D} (ht:Tm d):∃ (z p:Int) (d':D),runN T G (k+20) "_law_drawn" [.p (.lst (c9 ns)),.p (.int a),.p (.int 10000000)] h=some (.p (.int z),h)/\runN T G (k+20) "_law_drawn" [.p (.lst (c9 ns)),.p (.int b),.p (.int 5)] h=some (.p (.int p),h)/\runN T G (k+20) "_law_spoilt" [.p d,.p (.int z),.p (.int p)] h=some (.p d',h)/\(Pp d->OkP d'):=by
 have r1:=eN (G:=G) W1 (k+18) ns hl a 10000000 (by decide) h
 have r2:=eN (G:=G) W1 (k+18) ns hl b 5 (by decide) h
 have d0:=fj ns a (many:=10000000) (by decide)
 have p0:=fj ns b (many:=5) (by decide)
 have p1:=fB ns b (many:=5) (by decide)
 obtain ⟨p,hp⟩:∃ p:Nat,drw ns b 5=(p:Int):=⟨_,(Rl p0).symm⟩
 obtain ⟨d',r3,_,o2⟩:=zZ (G:=G) L (k+18 - p) p d (drw ns a 10000000) ht d0 h
 rw[show k+18 - p+p+2=k+20 by lia] at r3
 exact ⟨drw ns a 10000000,drw ns b 5,d',r1,r2,by rw[hp];exact r3,o2⟩
theorem wu (P:P01 T G) (L:L01 T) (W1:Lw T) (hP:T "_law_program"=some eV) (ns:List Int) (hl:ns.length<=1000) (k:Nat):∃ h',runN T G (k+21) "law" [.p (.lst (c9 ns))] []=some (.p (.bl true),h'):=by
 obtain ⟨s,so,sz,rs⟩:=pK (G:=G) W1 ns hl 3 1
 obtain ⟨pg,dp,rp⟩:=qW (G:=G) W1 hP ns hl 20
 have hok:∀ r∈pg,r.ok pg.length:=dp.ok
 have hp:=dp.hi
 have hn:pg.length<=100:=by lia
 have r1:runN T G (k+20) "_law_sum" [.p (.lst (c9 ns)),.p (.int 1),.p (.int 3)] []=some (.p s.enc,[]):=rs (k+14) []
 have r2:=rp (k+13) []
 have r3:=eN (G:=G) W1 (k+18) ns hl 500 9 (by decide) []
 have d0:=fj ns 500 (many:=9) (by decide)
 have d1:=fB ns 500 (many:=9) (by decide)
 obtain ⟨q,hq⟩:∃ q:Nat,drw ns 500 9=(q:Int):=⟨_,(Rl d0).symm⟩
 rw[hq] at r3
 have sq:fP .rng1 [.int (q:Int)]=some ((OR q).map fun (i:Nat)=>.int (i:Int)):=by
  rw[gJ,if_pos (by simp;lia)]
  congr 1
  show upto 0 ((q:Int)).toNat=_
  rw[OU]
  unfold upto
  apply List.map_congr_left
  intro i _
  rw[Int.zero_add]
 obtain ⟨g,y4,y5,lo1⟩:=Ae (G:=G) W1 k [] ns hl (some (.p s.enc)) (some (.p (kN pg))) none none none none none (OR q) s.enc none none
 obtain ⟨z1,p1,sp1,e1,e2,e3,_⟩:=u5 (G:=G) W1 L k [] ns hl 520 521 (rB s so)
 obtain ⟨z2,p2,sp2,e4,e5,e6,ok2⟩:=u5 (G:=G) W1 L k [] ns hl 522 523 (JM hn (by lia) hok)
 obtain ⟨y7,y8,lo2⟩:=Ab P L k [] (some (.p (.lst (c9 ns)))) (some (.p s.enc)) (some (.p (kN pg))) (some (.p g)) y4 y5 (some (.p sp1)) none none [s.enc,g,sp1,.lst [s.enc],.tup [.str "add",sp1,s.enc]] none none
 have pl:(pg.map Rw.enc).length<=20:=by rw[NS];lia
 have pn:pg.map Rw.enc≠[]:=by
  have:=dp.lo
  intro e
  have:=congrArg Sb e
  rw[NS,Pi] at this
  lia
 have t3:=JO P L k [] (some (.p (.lst (c9 ns)))) (some (.p s.enc)) pn pl (fun x hx=>by
  obtain ⟨r,_,rfl⟩:=List.mem_map.mp hx
  exact DK r) g sp2 (ok2 (JL pg)) y4 y5 (some (.p sp1)) y7 y8 none
 have t3:evS (runN T G (k+20)) G rj [some (.p (.lst (c9 ns))),some (.p s.enc),some (.p (kN pg)),some (.p g),y4,y5,some (.p sp1),y7,y8,some (.p sp2),none] []=some (.rt (.p (.bl true)) []):=t3
 have f0:fin [] (.p (.bl true)) []=some (.p (.bl true),[]):=by
  have:=zo [] [] (.bl true)
  simpa using this
 have p7:=MG
 refine ⟨[],?_⟩
 generalize s.enc=EN at *
 generalize kN pg=PE at *
 generalize c9 ns=IL at *
 have t2:evS (runN T G (k+20)) G uO [some (.p (.lst IL)),some (.p EN),some (.p PE),some (.p g),y4,y5,some (.p sp1),y7,y8,none,none] []=some (.rt (.p (.bl true)) []):=by
  rw[uO]
  generalize rj=K3 at *
  simp[-gI,p7,e4,e5,e6,t3]
 have sr5:fP .seq [.tup [EN,g,sp1,.lst [EN],.tup [.str "add",sp1,EN]]]=some [EN,g,sp1,.lst [EN],.tup [.str "add",sp1,EN]]:=rfl
 have se5:evs (runN T G (k+20)) G (.cons (.tup (.cons (.var 1) (.cons (.var 3) (.cons (.var 6) (.cons (.lst false (.cons (.var 1) .nil)) (.cons (.tup (.cons (.cst (.str "add")) (.cons (.var 6) (.cons (.var 1) .nil)))) .nil)))))) .nil) [some (.p (.lst IL)),some (.p EN),some (.p PE),some (.p g),y4,y5,some (.p sp1),none,none,none,none] []=some ([.p (.tup [EN,g,sp1,.lst [EN],.tup [.str "add",sp1,EN]])],[]):=by simp
 have t1:evS (runN T G (k+20)) G uP [some (.p (.lst IL)),some (.p EN),some (.p PE),some (.p g),y4,y5,some (.p sp1),none,none,none,none] []=some (.rt (.p (.bl true)) []):=by
  rw[uP]
  generalize (Es.cons (.tup (.cons (.var 1) (.cons (.var 3) (.cons (.var 6) (.cons (.lst false (.cons (.var 1) .nil)) (.cons (.tup (.cons (.cst (.str "add")) (.cons (.var 6) (.cons (.var 1) .nil)))) .nil)))))) .nil)=ES at *
  generalize [EN,g,sp1,.lst [EN],.tup [.str "add",sp1,EN]]=DL at *
  generalize uO=K2 at *
  generalize rf=KB at *
  simp[-dZ,se5,sr5,iQ,lo2,t2]
 have t0:evS (runN T G (k+20)) G uQ [some (.p (.lst IL)),some (.p EN),some (.p PE),some (.p g),y4,y5,none,none,none,none,none] []=some (.rt (.p (.bl true)) []):=by
  rw[uQ]
  generalize uP=K1 at *
  simp[-gI,p7,e1,e2,e3,t1]
 have ts:evS (runN T G (k+20)) G CY [some (.p (.lst IL)),some (.p EN),some (.p PE),none,none,none,none,none,none,none,none] []=some (.rt (.p (.bl true)) []):=by
  rw[CY]
  generalize ((OR q).map fun (i:Nat)=>D.int (i:Int))=RG at *
  generalize ((q:Nat):Int)=QI at *
  generalize uQ=K0 at *
  generalize q9=KA at *
  simp[-dZ,-gJ,r3,sq,iQ,lo1,t0]
 rw[run_eq L.law rfl,rm]
 generalize CY=XKS at *
 simp[r1,r2,ts,f0]
end
end BT
end
section
namespace BF
open PySem PySem.Spec PyProof.Rows L2 BS
noncomputable def pT (P:NT) (w:N7) (K:Nz) (mg:Str->Option Value) (x:Str) (z:BT.W):Prop:=∃ u v,mg x=some u/\RelV v u/\∀ m H,RW P w K m H v z
theorem Af {K:Nz} (X:K.In h) (G:h.Ns NU mg) (a:Od K NU x=some (some (.int n t))):pT P w K mg x (.p (.int n)) :=
 ⟨_,.int n,PJ X G a,⟨t,rfl⟩,fun _ _=>.p (.int n)⟩
inductive fu:List Str->List Value->Prop where
 | nil:fu [] []
 | cons {x:Str}{xs:List Str}{t:Tok}{vs:List Value} (h:PyData.strOk x=true) (r:fu xs vs):fu (x :: xs) (.str x t :: vs)
theorem fu.vals:∀ {xs:List Str}{vs:List Value},fu xs vs->cZ (xs.map V.str) vs
 | _,_,.nil=>.nil
 | _,_,.cons _ r=>.cons ⟨_,rfl⟩ r.vals
theorem fu.rds {K:Nz}:∀ {xs:List Str}{vs:List Value},fu xs vs->RDs K m H (xs.map V.str) (xs.map BT.D.str)
 | _,_,.nil=>.nil
 | _,_,.cons h r=>.cons (.str _ h) r.rds
theorem fu.len:∀ {xs:List Str}{vs:List Value},fu xs vs->vs.length=xs.length
 | _,_,.nil=>rfl
 | _,_,.cons _ r=>by simp[r.len]
theorem Ag {K:Nz} (X:K.In h) (G:h.Ns NU mg) (a:Od K NU x=some (some (.ref f)))
 (l:K.lookup f=some ⟨.type "tuple",none,.seq its n,sl⟩) (hl:xs.length<=1000) (r:fu xs its.toList):pT P w K mg x (.p (.tup (xs.map BT.D.str))):=by
 refine ⟨_,.ref f,PJ X G a,rfl,fun m H=>.p (.tup (.inr ⟨_,its,n,⟨l,rfl,rfl,?_,r.vals⟩,rfl⟩) r.rds)⟩
 have:=r.len
 have e:its.size=xs.length:=by rw[← this];simp
 rw[e]
 exact PR (nO hl)
inductive gB (w:N7):List (Str×Int)->List Qa->Prop where
 | nil:gB w [] []
 | cons {x:Str}{n:Int}{kvs:List (Str×Int)}{t u:Tok}{es:List Qa} (r:gB w kvs es):gB w ((x,n) :: kvs) (⟨PyData.keyHash w.params x,.str x t,.int n u⟩ :: es)
theorem gB.ex:∀ {kvs:List (Str×Int)}{es:List Qa},gB w kvs es->∃ vs:List (Key×Value),KV ((kvs.map fun q=>(q.1,V.int q.2)).map fun q=>((Sum.inr q.1:Key),q.2)) vs/\Pairs (c8 P w) es vs/\vs.map (·.1)=kvs.map (fun q=>(Sum.inr q.1:Key))/\(∀ e∈es,∃ k,(c8 P w).is k e.key=true/\e.hash=(c8 P w).hash k)
 | _,_,.nil=>⟨[],.nil,.nil,rfl,fun e he=>nomatch he⟩
 | _,_,@gB.cons _ x n kvs t u es r=>by
  obtain ⟨vs,h1,h2,h3,h4⟩:=r.ex (P:=P)
  have is:(c8 P w).is (Sum.inr x) (.str x t)=true:=by show Qg x (.str x t)=true;simp[Qg]
  refine ⟨(Sum.inr x,.int n u) :: vs,.cons ⟨rfl,u,rfl⟩ h1,.cons is rfl h2,by simp[h3],fun e he=>?_⟩
  rcases List.mem_cons.mp he with rfl | he
  ·exact ⟨Sum.inr x,is,rfl⟩
  ·exact h4 e he
theorem wA {P:NT}{w:N7}{K:Nz}{h:Heap}{mg:Str->Option Value} (X:K.In h) (G:h.Ns NU mg) {x:Str}{f:NL}{es:Array Qa}{n:Nat}{kvs:List (Str×Int)} (a:Od K NU x=some (some (.ref f)))
 (l:K.lookup f=some { cls:=.type "dict",data:=.dict es n }) (hf:(f==O9)=false) (r:gB w kvs es.toList) (nd:(kvs.map (·.1)).Nodup):pT P w K mg x (.k (.t (kvs.map fun q=>(q.1,BT.D.int q.2)))):=by
 obtain ⟨vs,h1,h2,h3,h4⟩:=r.ex (P:=P)
 refine ⟨_,.ref f,PJ X G a,rfl,fun m H=>.k (es:=kvs.map fun q=>(q.1,V.int q.2)) ⟨hf,vs,h1,fun hh Kh=>⟨_,es,n,Kh _ _ l,⟨rfl,rfl,rfl⟩,rfl,fun e he=>h4 e (by simpa using he),h2,?_⟩⟩ ?_⟩
 ·rw[h3]
  have e:(kvs.map fun q=>(Sum.inr q.1:Key))=(kvs.map (·.1)).map Sum.inr:=by simp
  rw[e]
  exact List.pairwise_map.mpr (nd.imp fun h z=>h (Sum.inr.inj z))
 ·clear r nd h1 h2 h3 h4 l
  induction kvs with
  | nil=>exact .nil
  | cons q kvs ih=>exact .cons (fun _ _=>.int _) ih
inductive gC (w:N7):List (Str×NL)->List Qa->Prop where
 | nil:gC w [] []
 | cons {x:Str}{a:NL}{kvs:List (Str×NL)}{t:Tok}{es:List Qa} (r:gC w kvs es):gC w ((x,a) :: kvs) (⟨PyData.keyHash w.params x,.str x t,.ref a⟩ :: es)
theorem gC.ex {P:NT}{w:N7}:∀ {kvs:List (Str×NL)}{es:List Qa},gC w kvs es->∃ vs:List (Key×Value),KV ((kvs.map fun q=>(q.1,V.ref q.2)).map fun q=>((Sum.inr q.1:Key),q.2)) vs/\Pairs (c8 P w) es vs/\vs.map (·.1)=kvs.map (fun q=>(Sum.inr q.1:Key))/\(∀ e∈es,∃ k,(c8 P w).is k e.key=true/\e.hash=(c8 P w).hash k)
 | _,_,.nil=>⟨[],.nil,.nil,rfl,fun e he=>nomatch he⟩
 | _,_,@gC.cons _ x a kvs t es r=>by
  obtain ⟨vs,h1,h2,h3,h4⟩:=r.ex (P:=P)
  have is:(c8 P w).is (Sum.inr x) (.str x t)=true:=by show Qg x (.str x t)=true;simp[Qg]
  refine ⟨(Sum.inr x,.ref a) :: vs,.cons ⟨rfl,rfl⟩ h1,.cons is rfl h2,by simp[h3],fun e he=>?_⟩
  rcases List.mem_cons.mp he with rfl | he
  ·exact ⟨Sum.inr x,is,rfl⟩
  ·exact h4 e he
theorem C7 {K:Nz}{f:NL}{its:Array Value}{n:Nat}{sl:Array (Option Value)}{xs:List Str}
 (l:K.lookup f=some ⟨.type "tuple",none,.seq its n,sl⟩) (hl:xs.length<=1000) (r:fu xs its.toList) (m:List NL) (H:Hp):RD K m H (.ref f) (.tup (xs.map BT.D.str)):=by
 refine .tup (.inr ⟨_,its,n,⟨l,rfl,rfl,?_,r.vals⟩,rfl⟩) r.rds
 have:=r.len
 have e:its.size=xs.length:=by rw[← this];simp
 rw[e]
 exact PR (nO hl)
theorem sN {P:NT}{w:N7}{K:Nz}{h:Heap}{mg:Str->Option Value} (X:K.In h) (G:h.Ns NU mg) {x:Str}{f:NL}{es:Array Qa}{n:Nat}{kvs:List (Str×NL×List Str)} (a:Od K NU x=some (some (.ref f)))
 (l:K.lookup f=some { cls:=.type "dict",data:=.dict es n }) (hf:(f==O9)=false) (r:gC w (kvs.map fun q=>(q.1,q.2.1)) es.toList) (nd:(kvs.map (·.1)).Nodup) (rd:∀ q∈kvs,∀ m H,RD K m H (.ref q.2.1) (.tup (q.2.2.map BT.D.str))):pT P w K mg x (.k (.t (kvs.map fun q=>(q.1,BT.D.tup (q.2.2.map BT.D.str))))):=by
 obtain ⟨vs,h1,h2,h3,h4⟩:=r.ex (P:=P)
 have h0:KV ((kvs.map fun q=>(q.1,V.ref q.2.1)).map fun q=>((Sum.inr q.1:Key),q.2)) vs:=by
  simp only[Tw,Function.comp_def] at h1 ⊢
  exact h1
 rw[Tw] at h3
 refine ⟨_,.ref f,PJ X G a,rfl,fun m H=>.k (es:=kvs.map fun (q:Str×NL×List Str)=>(q.1,V.ref q.2.1)) ⟨hf,vs,h0,fun hh Kh=>⟨_,es,n,Kh _ _ l,⟨rfl,rfl,rfl⟩,rfl,fun e he=>h4 e (by simpa using he),h2,?_⟩⟩ ?_⟩
 ·rw[h3]
  have e:(kvs.map ((fun q=>(Sum.inr q.1:Key)) ∘ fun q=>(q.1,q.2.1)))=(kvs.map (·.1)).map Sum.inr:=by simp
  rw[e]
  exact List.pairwise_map.mpr (nd.imp fun h z=>h (Sum.inr.inj z))
 ·clear r nd h0 h1 h2 h3 h4 l
  induction kvs with
  | nil=>exact .nil
  | cons q kvs ih=>exact .cons (fun m H=>rd q NV m H) (ih fun q hq=>rd q (NP _ hq))
noncomputable def look {κ α:Type} [DecidableEq κ] (l:List (κ×α)) (x:κ):Option α:=match l with
 | []=>none
 | (y,a) :: r=>if y=x then some a else look r x
theorem jf {κ α:Type} [DecidableEq κ] {Q:κ->α->Prop}:∀ {l:List (κ×α)} (_:∀ p∈l,Q p.1 p.2) {x:κ}{a:α},look l x=some a->Q x a
 | [],_,_,_,e=>by exact BT.iT e
 | (y,b) :: r,h,x,a,e=>by
  rw[look] at e
  split at e
  ·rename_i z
   cases e
   subst z
   exact h (y,b) NV
  ·exact jf (fun p hp=>h p (NP _ hp)) e
theorem jZ {K:Nz}:∀ ns:List Int,RDs K m H (ns.map V.int) (BT.c9 ns)
 | []=>.nil
 | n :: r=>.cons (.int n) (jZ r)
theorem Ah {K:Nz} (tb:TB K H) (hS:LL K H a (ns.map V.int)) (e:∃ h',g [.p (.lst (BT.c9 ns))] []=some (.p (.bl true),h')):spF P w K g [.ref a] H (fun v _=>v=.bl true) fun _ _ _=>False:=by
 obtain ⟨h',e⟩:=e
 refine ⟨[],_,[],_,h',⟨SE,rfl,fun i a xs z=>by simp at z,tb⟩,.cons (.p (.lst (hS.elim (fun q=>.inl ⟨q,by simp⟩) .inr) (jZ ns))) .nil,e,fun v H' m' _ _ r=>kF r⟩
end BF
end
section
namespace BG
open PySem PySem.Spec PySem.Calls PyProof.Rows L2 BS BF
theorem C8 {K:Nz} (H:∀ p∈K,h.get? p.1=some p.2):K.In h:=by
 intro a o e
 obtain ⟨p,hp,he⟩:∃ p∈K,p.1=a/\p.2=o:=by
  clear H
  induction K with
  | nil=>exact BT.iT e
  | cons q r ih =>
   rw[Pb] at e
   split at e
   ·rename_i c
    cases e
    exact ⟨q,NV,(eq_of_beq c).symm,rfl⟩
   ·obtain ⟨p,hp,he⟩:=ih e
    exact ⟨p,NP _ hp,he⟩
 rw[← he.1,← he.2]
 exact H p hp
inductive JP (K:Nz) (x qual:Str) (st:RX) (f:NL):Prop where
 | mk (fd:O8) (F:Fun K x qual st f fd) (kV doc pm:Value) (an:Option NL) (cdv ct:Value) (e:fd=O5 x qual (fN st) (dS st) (c7 st) .none kV doc pm an cdv ct):JP K x qual st f
theorem GF {K:Nz}{st:RX} (e:Av K f=some (sR x qual st)):JP K x qual st f:=by
 unfold Av at e
 split at e
 ·rename_i oc od fd sl l
  have e':=NO e
  unfold sR at e'
  obtain ⟨nm,ql,pa,bo,sc,gl,cl,de,kw,dc,pm,an,co,ct,bu⟩:=fd
  simp only[FS.mk.injEq] at e'
  obtain ⟨rfl,rfl,rfl,rfl,rfl,rfl,rfl,rfl,rfl,hc⟩:=e'
  have F:=Et (K:=K) (x:=nm) (qual:=ql) (st:=st) (f:=f) (kV:=kw) (doc:=dc) (pm:=pm) (an:=an) (cdv:=co) (ct:=ct) l hc (by simp only[OG,l])
  exact ⟨_,F,kw,dc,pm,an,co,ct,rfl⟩
 ·exact BT.iT e
theorem nth {α:Type}{l:List α}{a:α} (i:Nat) (h:l[i]?=some a):a∈l:=NZ h
noncomputable def Ai (ns:List Str):Bool:=ns.all fun n=>!(n.cps[0]?==some 60)
theorem JQ (y:Str):(BT.gj y).cps[0]?=some 60:=by
 show (((#[60]:Array Nat)++y.cps)++#[62])[0]?=some 60
 rw[← Tt]
 simp
theorem Aj (h:Ai ns=true) (y:Str):ns.contains (BT.gj y)=false:=by
 cases e:ns.contains (BT.gj y) with
 | false=>rfl
 | true =>
  have:=List.all_eq_true.mp h _ (List.contains_iff_mem.mp e)
  rw[JQ] at this
  exact BT.dG this
theorem GG {K:Nz} (h:Ai fn.ns=true):mR K q fd fn:=fun y hy=>by rw[Aj h y] at hy;exact BT.dG hy
section
variable {K:Nz}
theorem mW (e:refOf o=some f):o=some (some (.ref f)):=by
 unfold refOf at e
 split at e
 ·cases e;rfl
 ·exact BT.iT e
theorem GH (X:K.In h) (G:h.Ns NU mg) {st:RX} (e:fS K (.fn x f st)=fT w (.fn x f st))
 (sc:fO fn.ns fn.ps (c7 st)) (hb:∀ (kV doc pm:Value) (an:Option NL) (cdv ct:Value) (us:List Value),us.length=fn.ps.length->Uj (O5 x x (fN st) (dS st) (c7 st) .none kV doc pm an cdv ct) ⟨us,[]⟩=pure (fn.ps.zip us))
 (ck:CSs (c7 st) fn.ns fn.body (dS st)) (tg:∀ fd,Od K NU x=some (some (.ref f))->(∃ oc od sl,K.lookup f=some ⟨oc,od,.func fd,sl⟩)->mR K x fd fn):Def K mg x fn:=by
 simp only[fS,fT,Ov.fn.injEq] at e
 obtain ⟨fd,F,kV,doc,pm,an,cdv,ct,rfl⟩:=GF e.2
 refine ⟨f,_,st,PJ X G (mW e.1),F,sc,F.binds hb,ck,tg _ (mW e.1) ?_⟩
 obtain ⟨oc,od,kV,doc,pm,an,cdv,ct,osl,e1,lk,_⟩:=F.ex
 exact ⟨oc,od,osl,lk⟩
theorem none_of (X:K.In h) (G:h.Ns NU mg) (e:fS K (.no x)=fT w (.no x)):mg x=none:=by
 simp only[fS,fT,Ov.b.injEq,decide_eq_true_eq] at e
 exact PySem.W.mg_none_of X G e
theorem Ak (h:intOf v=some x):∃ t,v=.int x t:=by
 cases v<;>simp[intOf] at h
 exact ⟨_,by rw[h]⟩
theorem sO (h:strOf v=some x):∃ t,v=.str x t:=by
 cases v<;>simp[strOf] at h
 exact ⟨_,by rw[h]⟩
theorem mX (X:K.In h) (G:h.Ns NU mg) (e:fS K (.int x n)=fT w (.int x n)):pT P w K mg x (.p (.int n)):=by
 simp only[fS,fT,Ov.int.injEq] at e
 split at e
 ·rename_i v hv
  obtain ⟨t,rfl⟩:=Ak e
  exact Af X G hv
 ·exact BT.iT e
theorem pU:∀ {xs:List Str}{vs:List Value},xs.all PyData.strOk=true->vs.map strOf=xs.map some->fu xs vs
 | [],[],_,_=>.nil
 | [],_ :: _,_,h=>by simp at h
 | _ :: _,[],_,h=>by simp at h
 | x :: xs,v :: vs,k,h=>by
  simp only[OJ,QG] at h
  simp only[SY,NG] at k
  obtain ⟨t,rfl⟩:=sO h.1
  exact .cons k.1 (pU k.2 h.2)
theorem u6:∀ {kvs:List (Str×Int)}{es:List Qa},es.map (fun e=>(e.hash,strOf e.key,intOf e.val))=kvs.map (fun q=>(PyData.keyHash w.params q.1,some q.1,some q.2))->gB w kvs es
 | [],[],_=>.nil
 | [],_ :: _,h=>by simp at h
 | _ :: _,[],h=>by simp at h
 | (x,n) :: kvs,⟨ha,k,v⟩ :: es,h=>by
  simp only[OJ,QG,Qe] at h
  obtain ⟨⟨rfl,h2,h3⟩,hr⟩:=h
  obtain ⟨t,rfl⟩:=sO h2
  obtain ⟨u,rfl⟩:=Ak h3
  exact .cons (u6 hr)
theorem Al (X:K.In h) (G:h.Ns NU mg) (e:fS K (.tup x f xs)=fT w (.tup x f xs)) (hl:xs.length<=1000) (hs:xs.all PyData.strOk=true):pT P w K mg x (.p (.tup (xs.map BT.D.str))):=by
 simp only[fS,fT,Ov.seq.injEq] at e
 obtain ⟨e1,e2,e3⟩:=e
 obtain ⟨o,l,e4⟩:=Option.map_eq_some_iff.mp e2
 rw[l] at e3
 obtain ⟨cl,di,da,sl⟩:=o
 simp only[shp,Qe] at e4
 obtain ⟨rfl,rfl,e5⟩:=e4
 have:sl=#[]:=O7 e5
 subst this
 simp only[ON,sU] at e3
 cases da<;>simp only[PN,reduceCtorEq] at e3
 exact Ag X G (mW e1) l hl (pU hs e3)
theorem Am (X:K.In h) (G:h.Ns NU mg) {x:Str}{f:NL}{kvs:List (Str×Int)} (e:fS K (.dct x f kvs)=fT w (.dct x f kvs)) (hf:(f==O9)=false) (nd:(kvs.map (·.1)).Nodup):pT P w K mg x (.k (.t (kvs.map fun q=>(q.1,BT.D.int q.2)))):=by
 simp only[fS,fT,Ov.dct.injEq] at e
 obtain ⟨e1,e2,e3⟩:=e
 obtain ⟨o,l,e4⟩:=Option.map_eq_some_iff.mp e2
 rw[l] at e3
 obtain ⟨cl,di,da,sl⟩:=o
 simp only[shp,Qe] at e4
 obtain ⟨rfl,rfl,e5⟩:=e4
 have:sl=#[]:=O7 e5
 subst this
 simp only[ON,Dc] at e3
 cases da<;>simp only[PN,reduceCtorEq] at e3
 exact wA X G (mW e1) l hf (u6 e3) nd
theorem iM {f:NL}{xs:List Str} (e:fS K (.stp f xs)=fT w (.stp f xs)) (hl:xs.length<=1000) (hs:xs.all PyData.strOk=true) (m:List NL) (H:Hp):RD K m H (.ref f) (.tup (xs.map BT.D.str)):=by
 simp only[fS,fT,Ov.seq.injEq,true_and] at e
 obtain ⟨e2,e3⟩:=e
 obtain ⟨o,l,e4⟩:=Option.map_eq_some_iff.mp e2
 rw[l] at e3
 obtain ⟨cl,di,da,sl⟩:=o
 simp only[shp,Qe] at e4
 obtain ⟨rfl,rfl,e5⟩:=e4
 have:sl=#[]:=O7 e5
 subst this
 simp only[ON,sU] at e3
 cases da<;>simp only[PN,reduceCtorEq] at e3
 exact C7 l hl (pU hs e3) m H
theorem GI {v:Value}{a:NL} (h:sV v=some (a:Int)):v=.ref a:=by
 cases v<;>simp[sV] at h
 rw[Int.ofNat_inj.mp h]
theorem u9:∀ {kvs:List (Str×NL)}{es:List Qa},es.map (fun e=>(e.hash,strOf e.key,sV e.val))=kvs.map (fun q=>(PyData.keyHash w.params q.1,some q.1,some (q.2:Int)))->gC w kvs es
 | [],[],_=>.nil
 | [],_ :: _,h=>by simp at h
 | _ :: _,[],h=>by simp at h
 | (x,a) :: kvs,⟨ha,k,v⟩ :: es,h=>by
  simp only[OJ,QG,Qe] at h
  obtain ⟨⟨rfl,h2,h3⟩,hr⟩:=h
  obtain ⟨t,rfl⟩:=sO h2
  rw[GI h3]
  exact .cons (u9 hr)
theorem An (X:K.In h) (G:h.Ns NU mg) {x:Str}{f:NL} (kvs:List (Str×NL×List Str)) (e:fS K (.dtp x f (kvs.map fun q=>(q.1,q.2.1)))=fT w (.dtp x f (kvs.map fun q=>(q.1,q.2.1)))) (hf:(f==O9)=false) (nd:(kvs.map (·.1)).Nodup) (rd:∀ q∈kvs,∀ m H,RD K m H (.ref q.2.1) (.tup (q.2.2.map BT.D.str))):pT P w K mg x (.k (.t (kvs.map fun q=>(q.1,BT.D.tup (q.2.2.map BT.D.str))))):=by
 simp only[fS,fT,Ov.dct.injEq] at e
 obtain ⟨e1,e2,e3⟩:=e
 obtain ⟨o,l,e4⟩:=Option.map_eq_some_iff.mp e2
 rw[l] at e3
 obtain ⟨cl,di,da,sl⟩:=o
 simp only[shp,Qe] at e4
 obtain ⟨rfl,rfl,e5⟩:=e4
 have:sl=#[]:=O7 e5
 subst this
 simp only[ON,Dd] at e3
 cases da<;>simp only[PN,reduceCtorEq] at e3
 exact sN X G (mW e1) l hf (u9 e3) nd rd
end
theorem wB {α:Type}{us:List α}{n:Nat} (h:us.length=n+1):∃ a r,us=a :: r/\r.length=n:=by
 cases us with
 | nil=>simp at h
 | cons a r=>exact ⟨a,r,rfl,by simpa using h⟩
theorem len0 {α:Type}{us:List α} (h:us.length=0):us=[]:=List.eq_nil_of_length_eq_zero h
theorem GJ {α:Type}{us:List α} (h:us.length=1):∃ a0,us=[a0]:=by
 obtain ⟨a0,r,rfl,g⟩:=wB h
 exact ⟨a0,by rw[len0 g]⟩
theorem GK {α:Type}{us:List α} (h:us.length=2):∃ a0 a1,us=[a0,a1]:=by
 obtain ⟨a0,r,rfl,g⟩:=wB h
 obtain ⟨a1,rfl⟩:=GJ g
 exact ⟨a0,a1,rfl⟩
theorem C9 {α:Type}{us:List α} (h:us.length=3):∃ a0 a1 a2,us=[a0,a1,a2]:=by
 obtain ⟨a0,r,rfl,g⟩:=wB h
 obtain ⟨a1,a2,rfl⟩:=GK g
 exact ⟨a0,a1,a2,rfl⟩
theorem GL {α:Type}{us:List α} (h:us.length=4):∃ a0 a1 a2 a3,us=[a0,a1,a2,a3]:=by
 obtain ⟨a0,r,rfl,g⟩:=wB h
 obtain ⟨a1,a2,a3,rfl⟩:=C9 g
 exact ⟨a0,a1,a2,a3,rfl⟩
theorem JR {α:Type}{us:List α} (h:us.length=5):∃ a0 a1 a2 a3 a4,us=[a0,a1,a2,a3,a4]:=by
 obtain ⟨a0,r,rfl,g⟩:=wB h
 obtain ⟨a1,a2,a3,a4,rfl⟩:=GL g
 exact ⟨a0,a1,a2,a3,a4,rfl⟩
theorem MH {α:Type}{us:List α} (h:us.length=6):∃ a0 a1 a2 a3 a4 a5,us=[a0,a1,a2,a3,a4,a5]:=by
 obtain ⟨a0,r,rfl,g⟩:=wB h
 obtain ⟨a1,a2,a3,a4,a5,rfl⟩:=JR g
 exact ⟨a0,a1,a2,a3,a4,a5,rfl⟩
noncomputable abbrev BdT (x qual:Str) (st:RX) (fn:BT.Fn):Prop:=∀ (kV doc pm:Value) (an:Option NL) (cdv ct:Value) (us:List Value),us.length=fn.ps.length->Uj (O5 x qual (fN st) (dS st) (c7 st) .none kV doc pm an cdv ct) ⟨us,[]⟩=pure (fn.ps.zip us)
structure CkB (x qual:Str) (s:RX) (f:BT.Fn):Prop where
 ck:CSs (c7 s) f.ns f.body (dS s):=by repeat' (first | rfl | constructor | decide +kernel)
 sc:fO f.ns f.ps (c7 s):=by constructor<;>first | rfl | decide +kernel
 bd:BdT x qual s f:=by intro _ _ _ _ _ _ us hl;first | (obtain ⟨a0,a1,rfl⟩:=GK hl;rfl) | (obtain ⟨a0,rfl⟩:=GJ hl;rfl) | (obtain ⟨a0,a1,a2,rfl⟩:=C9 hl;rfl) | (obtain ⟨a0,a1,a2,a3,rfl⟩:=GL hl;rfl) | (obtain rfl:=len0 hl;rfl) | (obtain ⟨a0,a1,a2,a3,a4,rfl⟩:=JR hl;rfl) | (obtain ⟨a0,a1,a2,a3,a4,a5,rfl⟩:=MH hl;rfl)
theorem hn {K:Nz}{w:N7}{qs:List Qy} (hq:∀ q∈qs,fS K q=fT w q) (i:Nat) {a:Qy} (h:qs[i]?=some a):fS K a=fT w a:=hq _ (nth i h)
noncomputable def Ao (K:Nz) (mg:Str->Option Value) (p:BT.FK×BT.Fn):Prop:=(∀ x,p.1=.f x->Def K mg x p.2)/\(∀ c m,p.1=.m c m->Gb K mg c m p.2)/\∀ L,p.1=.l L->BT.r6 L=some p.2/\∃ ns bt,p.2=⟨ns,ns,.ret bt⟩/\∀ y,ns.contains (BT.gj y)=false
theorem dd {K:Nz} (d:Def K mg x fn):Ao K mg (.f x,fn):=⟨fun y e=>by cases e;exact d,fun c m e=>(by cases e),fun L e=>by cases e⟩
theorem c5 {α:Type}{Q:α->Prop}{a:α}{l:List α} (h:Q a) (t:∀ p∈l,Q p):∀ p∈a :: l,Q p:=List.forall_mem_cons.mpr ⟨h,t⟩
theorem vc {α:Type}{Q:α->Prop}:∀ p∈([]:List α),Q p:=fun _ h=>absurd h O0
section
variable {K:Nz}
theorem dd0 (X:K.In h) (G:h.Ns NU mg) {st:RX} (e:fS K (.fn x f st)=fT w (.fn x f st)) (c:CkB x x st fn) (tg:Ai fn.ns=true:=by decide +kernel):Ao K mg (.f x,fn) :=
 dd (GH X G e c.sc c.bd c.ck fun _ _ _=>GG tg)
end
structure GM (K:Nz) (tl:List (Str×NL×NL)):Prop where
 all:∀ z∈BT.gv,(∃ c P,(z,c,P)∈tl/\OY K z=some (c,P))\/OY K z=none
 hd:∀ q∈tl,Rq K q.2.1 q.2.2=true
theorem dR {K:Nz} (e:fS K (.no x)=fT w (.no x)):OY K x=none:=by
 simp only[fS,fT,Ov.b.injEq,decide_eq_true_eq] at e
 unfold OY
 rw[e]
theorem sP {K:Nz} (e:K.lookup b=some o):b∈K.map (·.1):=List.mem_map.mpr ⟨(b,o),PySem.W.mem_of_lookupK e,rfl⟩
theorem wC {K:Nz}
 (KX:K.In s₁.heap) (hns:s₁.heap.Ns NU mg) (hb:s₁.heap.Ns P4 mb) (hbb:∀ x:Str,x≠"__name__"->mb x=QJ x) (hlim:s₁.heap.NoLimit) (hg:s₁.gens=#[])
 (ha:s₁.heap.get? a=some { cls:=.type "list",data:=.seq vs.toArray }) (hi:IntsAre vs ns) (hl:ns.length<=sizeLine) (hr:fm k Ui)
 (hT:GM K tl) (hTs:∀ p∈tl,s₁.heap.get? p.2.2=some (QT #[])) (hTk:∀ p∈tl,K.lookup p.2.2=none)
 (F:∀ base:Heap,g9 P w K mg base CX0 k fa fd [x] sp) (hbind:∀ (s:ND) (u:Value),K.In s.heap->BindsTo s fd ⟨[u],[]⟩ [(x,u)])
 (hsp:∀ H:Hp,TB K H->LL K H a (ns.map V.int)->sp [.ref a] H (fun v _=>v=.bl true) fun _ _ _=>False) :
 codeAny (N5 P w) Ui (.call (.ref fa) ⟨[.ref a],[]⟩) (fun r s'=>r=.ok (.ret (.bool true))/\OldK s₁.heap s'.heap/\s'.os=s₁.os/\Tv s'.gens) s₁:=by
 have rv:=nM hi
 have lenV:=hi.length
 have tne:∀ p∈tl,p.2.2≠a:=fun p hp z=>by
  have:=hTs p hp
  rw[z,ha] at this;cases this
 let so:HO:=.frz { cls:=.type "list",data:=.seq vs.toArray } (.lst (ns.map V.int))
 let H:Hp:=fun b=>if ∃ p∈tl,p.2.2=b then some (.tbl #[]) else if b=a/\K.lookup a=none then some so else none
 have Ht:∀ p∈tl,H p.2.2=some (.tbl #[]):=fun p hp=>if_pos ⟨p,hp,rfl⟩
 have Hcase:∀ b u,H b=some u->(∃ p∈tl,p.2.2=b/\u=.tbl #[])\/(b=a/\K.lookup a=none/\u=so):=fun b u e=>by
  by_cases c1:∃ p∈tl,p.2.2=b
  ·have e':some (HO.tbl #[])=some u:=(if_pos c1).symm.trans e
   obtain ⟨p,hp,h2⟩:=c1
   exact .inl ⟨p,hp,h2,(NO e').symm⟩
  ·have e':(if b=a/\K.lookup a=none then some so else none)=some u:=(if_neg c1).symm.trans e
   by_cases c2:b=a/\K.lookup a=none
   ·rw[if_pos c2] at e'
    exact .inr ⟨c2.1,c2.2,(NO e').symm⟩
   ·rw[if_neg c2] at e';exact BT.iT e'
 have noA:∀ {b:NL}{o:Obj}{es:Array Qa}{ep:Nat},s₁.heap.get? b=some o->o.data=.dict es ep->H b=none:=fun {b o es ep} e d=>by
  cases q:H b with
  | none=>rfl
  | some u =>
   rcases Hcase b u q with ⟨p,hp,h2,_⟩ | ⟨h2,_⟩
   ·have z:=hTs p hp
    rw[h2,e] at z;cases z;cases d
   ·rw[h2,ha] at e;cases e
    have d':Data.seq vs.toArray _=Data.dict es ep:=d
    cases d'
 have nsK:∀ {b:NL}{m:Str->Option Value},s₁.heap.Ns b m->(pX s₁.heap H).Ns b m:=fun {b m} ⟨o,es,ep,e,d,r⟩=>⟨o,es,ep,pY e (noA e d),d,r⟩
 have hKb:K.In (pX s₁.heap H):=fun b o e=>pY (KX b o e) (by
  cases q:H b with
  | none=>rfl
  | some u =>
   rcases Hcase b u q with ⟨p,hp,h2,_⟩ | ⟨h2,h3,_⟩
   ·rw[← h2,hTk p hp] at e;exact BT.iT e
   ·rw[h2,h3] at e;exact BT.iT e)
 have hM:Mod K mg (pX s₁.heap H):=⟨hKb,nsK hns,⟨mb,nsK hb,hbb⟩,let ⟨mc,h1,h2⟩:=hlim;⟨mc,nsK h1,h2⟩⟩
 have hok:HOk P w H s₁.heap:=fun b u e=>by
  rcases Hcase b u e with ⟨p,hp,h2,rfl⟩ | ⟨h2,_,rfl⟩
  ·subst h2;exact hTs p hp
  ·subst h2;exact ⟨ha,by rw[NS];exact hl,vs,_,rv,ha⟩
 have e0:oq P w K mg (pX s₁.heap H) Ui [] s₁ H:=⟨rfl,hM,fun b o e=>Aw e,Nat.le_of_eq (vf _ _),trivial,fun b hb=>absurd (show b∈([]:List NL) from hb) (by simp),hok,.of_eq hg⟩
 have tb:TB K H:=fun z hz c Pt e=>by
  rcases hT.all z hz with ⟨c3,P3,m3,e3⟩ | e3
  ·rw[e] at e3;cases e3
   exact ⟨#[],Ht _ m3,trivial,fun pos v q=>by cases q⟩
  ·rw[e] at e3;cases e3
 have hS:LL K H a (ns.map V.int):=by
  cases hk:K.lookup a with
  | some o =>
   have e:=KX a o hk
   rw[ha] at e
   cases e
   exact .inr ⟨vs,_,hk,by rw[lenV];exact hl,rv⟩
  | none =>
   refine .inl (.inr ⟨{ cls:=.type "list",data:=.seq vs.toArray },?_⟩)
   have e1:H a=(if a=a/\K.lookup a=none then some so else none):=if_neg fun ⟨p,hp,z⟩=>tne p hp z
   rw[e1,if_pos ⟨rfl,hk⟩]
 refine Sx ((F _).run Ui [] s₁ H ⟨[.ref a],[]⟩ [.ref a] [.ref a] _ _ hr e0 (hbind s₁ (.ref a) KX) (.cons rfl .nil) (hsp H tb hS)) fun r s' h=>?_
 cases r with
 | error e=>exact OQ h
 | ok fl =>
  cases fl with
  | next=>exact OQ h
  | brk=>exact OQ h
  | cont=>exact OQ h
  | ret u =>
   obtain ⟨v,H',os,bare,un,hok',r',q⟩:=h
   have q':v=.bl true:=q
   subst q'
   obtain rfl:u=Qz true:=r'
   have kp:∀ b o,s₁.heap.get? b=some o->(s'.heap.get? b=some o)\/∃ p∈tl,p.2.2=b/\∃ more,s'.heap.get? b=some (QT (#[]++more)):=fun b o e=>by
    cases q:H b with
    | none=>exact .inl (un.keep b o e q (by intro z;exact absurd (show b∈([]:List NL) from z) (by simp)) (by simp))
    | some u =>
     rcases Hcase b u q with ⟨p,hp,h2,rfl⟩ | ⟨h2,h3,rfl⟩
     ·obtain ⟨more,z⟩:=un.tbls b _ q
      exact .inr ⟨p,hp,h2,more,hok' b _ z⟩
     ·have z2:=un.frzs b _ _ q
      obtain ⟨e1,_⟩:=hok b _ q
      obtain ⟨e2,_⟩:=hok' b _ z2
      rw[e] at e1;cases e1
      exact .inl e2
   refine ⟨rfl,⟨fun b o e=>?_,fun b o e=>?_⟩,os,bare⟩
   ·rcases kp b o e with z | ⟨p,hp,rfl,more,z⟩
    ·exact .inl z
    ·have e2:=hTs p hp
     rw[e] at e2
     cases e2
     have tA:=(Tg KX (hT.hd p hp)).tab e
     exact .inr (.inl ⟨tA.isCodeTable,rfl,#[],more,rfl,z⟩)
   ·rcases kp b o e with z | ⟨p,hp,rfl,more,z⟩
    ·exact ⟨o,z⟩
    ·exact ⟨_,z⟩
theorem Aq {l:PySem.W.OpenLaw}{n k:Nat}{q:NT}{loose:List Str}{XP:(Str->Option Value)->Heap->Prop}{d:DefRec}{as:List NL}{qs:List Qy}{ts:List NL}{tl:List (Str×NL×NL)}{T:BT.FK->Option BT.Fn}{G:Str->Option BT.W}{fn:BT.Fn}{x:Str}
 (hn:l.most=some n) (hn2:n<=sizeLine) (hdf:d.params.defaults=[]) (hr:fm (2*k) Ui) (hps:fn.ps=[x]) (hT:T (.f d.name)=some fn) (hts:ts=tl.map (·.2.2)) (hto:tl.all (fun p=>!as.contains p.2.2)=true)
 (FT:∀ (w:N7) (K:Nz),(∀ q∈qs,fS K q=fT w q)->GM K tl)
 (F:∀ (P:NT) (w:N7) (mg:Str->Option Value) (K:Nz) (h:Heap),K.In h->h.Ns NU mg->(∀ q∈qs,fS K q=fT w q)->Txt P w K mg T G)
 (hrun:∀ ns:List Int,ns.length<=n->∃ h',BT.runN T G k (.f d.name) [.p (.lst (BT.c9 ns))] []=some (.p (.bl true),h')) :
 PySem.W.WalkO q loose XP (sees as qs ts).says l.row.toRowW d [] (fun f vs=>Uk f vs):=by
 refine Att.qh hn hdf fun w s₀ s₁ mg mb fa o pm cd doc a vs ns Gr Y ho hd hcd hmg hobj hints hlen hg=>?_
 obtain ⟨K,k0,k1,k2,k3⟩:=Y
 have KX:=C8 k1
 have X:=F l.prog w mg K s₁.heap KX Gr.T.g k2
 obtain ⟨f,fd,st,h1,h2,h3,h4,h5,h6⟩:=(X.defs _ fn hT).ex
 rw[hmg] at h1
 cases h1
 refine wC (sp:=spF l.prog w K (BT.runN T G k (.f d.name))) (x:=x) (k:=2*k) (fd:=fd) (tl:=tl) KX Gr.T.g Gr.T.b Gr.T.builtins Gr.T.nolimit hg hobj hints (Ol hlen hn2) hr (FT w K k2) (fun p hp=>k3 _ (by rw[hts];exact List.mem_map_of_mem hp)) (fun p hp=>?_) (fun base=>?_) (fun s u hK=>?_) (fun H tb hS=>Ah tb hS (hrun ns hlen))
 ·cases e:K.lookup p.2.2 with
  | none=>rfl
  | some o =>
   have m:=sP e
   rw[k0] at m
   have:=List.all_eq_true.mp hto p hp
   rw[List.contains_iff_mem.mpr m] at this;exact BT.dG this
 ·have:=Gc (base:=base) X k (.f d.name) fn hT _ fd d.name d.name st h2 h3 h5 h6
  rw[hps] at this
  exact this
 ·have:=h4 s [u] hK (by rw[hps];rfl)
  rw[hps] at this
  exact this
end BG
end
section
namespace BL
open PySem PySem.Spec PyProof.Rows L2 BS BF BG
theorem ck7:CkB "is_whole" "is_whole" (top 7) BT.gA:={}
theorem ck8:CkB "is_worth" "is_worth" (top 8) BT.gn:={}
theorem ck9:CkB "is_name" "is_name" (top 9) BT.iG:={}
theorem MI:CkB "is_place" "is_place" (top 10) BT.gq:={}
theorem MJ:CkB "first_word" "first_word" (top 11) BT.e9:={}
theorem MK:CkB "inner_sums" "inner_sums" (top 12) BT.dJ:={}
theorem ML:CkB "has_sum_form" "has_sum_form" (top 13) BT.cW:={}
theorem MM:CkB "is_sum" "is_sum" (top 14) BT.j6:={}
theorem MN:CkB "fits" "fits" (top 15) BT.kO:={}
theorem MO:CkB "is_row" "is_row" (top 16) BT.j7:={}
theorem MP:CkB "is_program" "is_program" (top 17) BT.f6:={}
theorem MQ:CkB "_law_cell" "_law_cell" (top 19) BT.fQ:={}
theorem MR:CkB "_law_drawn" "_law_drawn" (top 20) BT.fZ:={}
theorem MS:CkB "_law_sum" "_law_sum" (top 21) BT.fz:={}
theorem MT:CkB "_law_row" "_law_row" (top 22) BT.iI:={}
theorem MU:CkB "_law_program" "_law_program" (top 23) BT.eV:={}
theorem MV:CkB "_law_asked" "_law_asked" (top 24) BT.iJ:={}
theorem MW:CkB "_law_odd" "_law_odd" (top 25) BT.jy:={}
theorem MY:CkB "_law_spoilt" "_law_spoilt" (top 26) BT.f7:={}
theorem MZ:CkB "_law_is_worth" "_law_is_worth" (top 27) BT.eW:={}
theorem M0:CkB "_law_left" "_law_left" (top 28) BT.cT:={}
theorem M1:CkB "_law_is_sum" "_law_is_sum" (top 29) BT.f9:={}
theorem M3:CkB "_law_is_row" "_law_is_row" (top 30) BT.eg:={}
theorem M4:CkB "_law_is_program" "_law_is_program" (top 31) BT.fc:={}
theorem M5:CkB "_law_each" "_law_each" (top 32) BT.eX:={}
theorem M6:CkB "law" "law" (top 33) BT.rm:={}
noncomputable def tab:List (BT.FK×BT.Fn):=[(.f "is_whole",BT.gA),(.f "is_worth",BT.gn),(.f "is_name",BT.iG),(.f "is_place",BT.gq),(.f "first_word",BT.e9),(.f "inner_sums",BT.dJ),(.f "has_sum_form",BT.cW),(.f "is_sum",BT.j6),(.f "fits",BT.kO),(.f "is_row",BT.j7),(.f "is_program",BT.f6),(.f "_law_cell",BT.fQ),(.f "_law_drawn",BT.fZ),(.f "_law_sum",BT.fz),(.f "_law_row",BT.iI),(.f "_law_program",BT.eV),(.f "_law_asked",BT.iJ),(.f "_law_odd",BT.jy),(.f "_law_spoilt",BT.f7),(.f "_law_is_worth",BT.eW),(.f "_law_left",BT.cT),(.f "_law_is_sum",BT.f9),(.f "_law_is_row",BT.eg),(.f "_law_is_program",BT.fc),(.f "_law_each",BT.eX),(.f "law",BT.rm)]
noncomputable def glo:List (Str×BT.W):=[("WORTH_COUNT",.p (.int 10007)),("MOST_PARTS",.p (.int 15)),("MOST_ROWS",.p (.int 20)),("LETTERS",.p (.tup ((["a","b","c","d","e","f"]:List Str).map BT.D.str))),("ROW_FORMS",.k (.t (([("set",18,["name","sum"]),("put",19,["sum","sum"]),("ask",20,["name"]),("say",21,["sum"]),("jump",22,["place"]),("unless",23,["sum","place"]),("call",24,["place"]),("back",25,[]),("stop",26,[])]:List (Str×NL×List Str)).map fun q=>(q.1,BT.D.tup (q.2.2.map BT.D.str))))),("INNER_COUNTS",.k (.t (([("num",0),("name",0),("cell",1),("add",2),("sub",2),("mul",2),("less",2)]:List (Str×Int)).map fun q=>(q.1,BT.D.int q.2))))]
noncomputable abbrev T:BT.FK->Option BT.Fn:=look tab
noncomputable abbrev G:Str->Option BT.W:=look glo
theorem prg:BT.P01 T G:=⟨rfl,rfl,rfl,rfl,rfl,rfl,rfl,rfl,rfl,rfl,rfl,rfl,rfl,rfl,rfl,rfl,rfl⟩
theorem run (ns:List Int) (h:ns.length<=1000):∃ h',BT.runN T G 40 "law" [.p (.lst (BT.c9 ns))] []=some (.p (.bl true),h'):=BT.wu prg ⟨rfl,rfl,rfl,rfl,rfl,rfl,rfl,rfl,rfl⟩ ⟨rfl,rfl,rfl,rfl,rfl⟩ rfl ns h 19
theorem JS (w:N7) (K:Nz) (hq:∀ q∈qys,fS K q=fT w q):GM K tl:=by
 refine ⟨fun z hz=>?_,fun p hp=>?_⟩
 ·simp only[BT.gv,PX,O0,or_false] at hz
  rcases hz with rfl | rfl | rfl | rfl | rfl | rfl | rfl | rfl | rfl | rfl | rfl | rfl | rfl | rfl | rfl
  ·exact .inr (dR (w:=w) (hn hq 62 rfl))
  ·exact .inr (dR (w:=w) (hn hq 63 rfl))
  ·exact .inr (dR (w:=w) (hn hq 64 rfl))
  ·exact .inr (dR (w:=w) (hn hq 65 rfl))
  ·exact .inr (dR (w:=w) (hn hq 66 rfl))
  ·exact .inr (dR (w:=w) (hn hq 67 rfl))
  ·exact .inr (dR (w:=w) (hn hq 68 rfl))
  ·exact .inr (dR (w:=w) (hn hq 69 rfl))
  ·exact .inr (dR (w:=w) (hn hq 70 rfl))
  ·exact .inr (dR (w:=w) (hn hq 71 rfl))
  ·exact .inr (dR (w:=w) (hn hq 72 rfl))
  ·exact .inr (dR (w:=w) (hn hq 73 rfl))
  ·exact .inr (dR (w:=w) (hn hq 74 rfl))
  ·exact .inr (dR (w:=w) (hn hq 75 rfl))
  ·exact .inr (dR (w:=w) (hn hq 76 rfl))
 ·simp[tl] at hp
theorem txt (P:NT) (w:N7) (mg:Str->Option Value) (K:Nz) (h:Heap) (X:K.In h) (Gh:h.Ns NU mg) (hq:∀ q∈qys,fS K q=fT w q):Txt P w K mg T G:=by
 have tbf:=JS w K hq
 have all:∀ p∈tab,Ao K mg p:=c5 (dd0 X Gh (hn hq 0 rfl) ck7) <| c5 (dd0 X Gh (hn hq 1 rfl) ck8) <| c5 (dd0 X Gh (hn hq 2 rfl) ck9) <| c5 (dd0 X Gh (hn hq 3 rfl) MI) <| c5 (dd0 X Gh (hn hq 4 rfl) MJ) <| c5 (dd0 X Gh (hn hq 5 rfl) MK) <| c5 (dd0 X Gh (hn hq 6 rfl) ML) <| c5 (dd0 X Gh (hn hq 7 rfl) MM) <| c5 (dd0 X Gh (hn hq 8 rfl) MN) <| c5 (dd0 X Gh (hn hq 9 rfl) MO) <| c5 (dd0 X Gh (hn hq 10 rfl) MP) <| c5 (dd0 X Gh (hn hq 11 rfl) MQ) <| c5 (dd0 X Gh (hn hq 12 rfl) MR) <| c5 (dd0 X Gh (hn hq 13 rfl) MS) <| c5 (dd0 X Gh (hn hq 14 rfl) MT) <| c5 (dd0 X Gh (hn hq 15 rfl) MU) <| c5 (dd0 X Gh (hn hq 16 rfl) MV) <| c5 (dd0 X Gh (hn hq 17 rfl) MW) <| c5 (dd0 X Gh (hn hq 18 rfl) MY) <| c5 (dd0 X Gh (hn hq 19 rfl) MZ) <| c5 (dd0 X Gh (hn hq 20 rfl) M0) <| c5 (dd0 X Gh (hn hq 21 rfl) M1) <| c5 (dd0 X Gh (hn hq 22 rfl) M3) <| c5 (dd0 X Gh (hn hq 23 rfl) M4) <| c5 (dd0 X Gh (hn hq 24 rfl) M5) <| c5 (dd0 X Gh (hn hq 25 rfl) M6) <| vc
 refine ⟨fun x fn e=>?_,fun c m fn e=>?_,fun L fn e=>?_,fun x z e=>?_,?_⟩
 ·exact jf (Q:=fun k fn=>∀ x,k=.f x->Def K mg x fn) (l:=tab) (fun p hp=>(all p hp).1) e x rfl
 ·exact jf (Q:=fun k fn=>∀ c m,k=.m c m->Gb K mg c m fn) (l:=tab) (fun p hp=>(all p hp).2.1) e c m rfl
 ·exact jf (Q:=fun k fn=>∀ L,k=.l L->BT.r6 L=some fn/\∃ ns bt,fn=⟨ns,ns,.ret bt⟩/\∀ y,ns.contains (BT.gj y)=false) (l:=tab) (fun p hp=>(all p hp).2.2) e L rfl
 ·exact jf (Q:=fun x z=>pT P w K mg x z) (l:=glo) (c5 (mX X Gh (hn hq 26 rfl)) <| c5 (mX X Gh (hn hq 27 rfl)) <| c5 (mX X Gh (hn hq 28 rfl)) <| c5 (Al X Gh (hn hq 29 rfl) (by decide) (by decide +kernel)) <| c5 (An X Gh [("set",18,["name","sum"]),("put",19,["sum","sum"]),("ask",20,["name"]),("say",21,["sum"]),("jump",22,["place"]),("unless",23,["sum","place"]),("call",24,["place"]),("back",25,[]),("stop",26,[])] (hn hq 31 rfl) (by decide) (by decide +kernel) (c5 (iM (hn hq 32 rfl) (by decide) (by decide +kernel)) <| c5 (iM (hn hq 33 rfl) (by decide) (by decide +kernel)) <| c5 (iM (hn hq 34 rfl) (by decide) (by decide +kernel)) <| c5 (iM (hn hq 35 rfl) (by decide) (by decide +kernel)) <| c5 (iM (hn hq 36 rfl) (by decide) (by decide +kernel)) <| c5 (iM (hn hq 37 rfl) (by decide) (by decide +kernel)) <| c5 (iM (hn hq 38 rfl) (by decide) (by decide +kernel)) <| c5 (iM (hn hq 39 rfl) (by decide) (by decide +kernel)) <| c5 (iM (hn hq 40 rfl) (by decide) (by decide +kernel)) <| vc)) <| c5 (Am X Gh (hn hq 30 rfl) (by decide) (by decide +kernel)) <| vc) e
 ·exact c5 (none_of X Gh (hn hq 41 rfl)) <| c5 (none_of X Gh (hn hq 42 rfl)) <| c5 (none_of X Gh (hn hq 43 rfl)) <| c5 (none_of X Gh (hn hq 44 rfl)) <| c5 (none_of X Gh (hn hq 45 rfl)) <| c5 (none_of X Gh (hn hq 46 rfl)) <| c5 (none_of X Gh (hn hq 47 rfl)) <| c5 (none_of X Gh (hn hq 48 rfl)) <| c5 (none_of X Gh (hn hq 49 rfl)) <| c5 (none_of X Gh (hn hq 50 rfl)) <| c5 (none_of X Gh (hn hq 51 rfl)) <| c5 (none_of X Gh (hn hq 52 rfl)) <| c5 (none_of X Gh (hn hq 53 rfl)) <| c5 (none_of X Gh (hn hq 54 rfl)) <| c5 (none_of X Gh (hn hq 55 rfl)) <| c5 (none_of X Gh (hn hq 56 rfl)) <| c5 (none_of X Gh (hn hq 57 rfl)) <| c5 (none_of X Gh (hn hq 58 rfl)) <| c5 (none_of X Gh (hn hq 59 rfl)) <| c5 (none_of X Gh (hn hq 60 rfl)) <| c5 (none_of X Gh (hn hq 61 rfl)) <| vc
noncomputable abbrev lw:DefRec:=⟨"law",fN (top 33),dS (top 33),c7 (top 33),K8 (top 33)⟩
theorem df:PySem.W.defOf qg "law"=some (lw,[]):=by kernel_rfl
theorem th:pg.theDef "law"=some (lw.params,lw.body,lw.scope):=by kernel_rfl
theorem walk:PySem.W.WalkO qg loo (PySem.W.XL qg []) (sees adr qys tas).says PySem.Challenge.rw_backtape_k01_known.row.toRowW lw [] (fun f vs=>Uk f vs) :=
 Aq (l:=PySem.Challenge.rw_backtape_k01_known) (n:=63) (k:=40) (x:="_law_script") (d:=lw) (T:=T) (G:=G) (ts:=tas) (fn:=BT.rm) rfl (by decide) rfl ⟨rfl,by decide,by decide⟩ rfl rfl (tl:=tl) rfl (by decide +kernel) JS txt fun ns hl=>run ns (by lia)
end BL
open PySem PySem.W PyProof.Rows
set_option maxRecDepth 100000 in
set_option maxHeartbeats 0 in
theorem PySem.Challenge.cw_backtape_k01_known_holds : PySem.Challenge.rw_backtape_k01_known.Holds := by
 w_on;refine PySem.W.holds_law (by decide +kernel) fun said=>?_
 refine PySem.W.holds_open (q:=BL.qg) (loose:=BL.loo) (XP:=XL BL.qg []) (YP:=(BG.sees BL.adr BL.qys BL.tas).says) (d:=BL.lw) (kwd:=[]) BL.left (BG.sees BL.adr BL.qys BL.tas).of (BG.sees BL.adr BL.qys BL.tas).keeps (fun s e=>xl_of s (Bool.and_eq_true_iff.mp e).1) XL.keeps BL.df BL.th (by kernel_rfl) (fun s e=>recFacts_of (Bool.and_eq_true_iff.mp e).2) rfl (by first | assumption | decide +kernel) (by decide +kernel) ⟨rfl,rfl,rfl,rfl,rfl,by decide +kernel⟩ ?hw BL.walk
 (case hw=>w_witness2)
#print axioms PySem.Challenge.cw_backtape_k01_known_holds
end
end

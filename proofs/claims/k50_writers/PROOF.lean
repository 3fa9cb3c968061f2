import PyProof.Rows.All
import Wide.All
import OpenK.AllK
import Wide.FinOn
import PyProof.EqAt
import PyProof.EqKinds
import PyProof.TupleCall
import Open.Tree
import Wide.Once
import KE.KLam
import KE.KNestM
import KE.KIsAll
import OpenK.KMore
import KE.KSortTup
import PyProof.Rows.SetFrom
import PySem.Syntax
import PySem.Builtin.Str.Common
import PyProof.SliceList
import PyProof.NeData
import PyProof.ExcAttrAll.ValueError
import PyProof.ZipIter
import KE.KRevIter
import KE.KItemsList
import PyProof.ListRange
import PyProof.EnumFor
import PyProof.EnumMake
import PyProof.EnumStmt
import PyProof.CompFree
import PyProof.PlainList
import KE.KTryDeep
import PyProof.FString
import PyProof.FitsInt
import PyProof.RulesAs
import PyProof.ExcBaseAll.ValueError
import Lean
import PySem.Challenge.RW_backtape_k50_writers
set_option autoImplicit false
set_option Elab.async false
set_option linter.all false
set_option maxRecDepth 100000
set_option maxHeartbeats 8000000
set_option genSizeOf false
set_option compiler.extract_closed false
set_option bootstrap.genMatcherCode false
noncomputable section
open PySem.W renaming Frag->OM,keepIn->Po,findIn->Pv,nsIn->PB,mg_of->PR,tabIn->PX,fnOf->P5,emptyDict->P7,kitOne->Qe,callWith_K->Qk,instObj->Qq,kia_one->QC,hasDictIn->QE,tabObj->QN,methodCall_KW->Q7,plainGet->Rc,codeHd_of_K->Rl,envX->Rp,codeIn->Ru,codeHdIn->RJ,cellsFrom_some->RK,kla_obj->RT,hideAll->RU,lookIn->Sa,plainGet_of->Sh,hideAll_get->Si,callWith_K0->Sj,mroIn->Sq,SharedT->SG,plainOver->SH,methodObj->SI,isFn->SN,takerIn->Tc,makesIn->Td,byRow2->Tt,absHeap->TL,recOk->TM,excIn->TN,xlAt->T4,of_hideAll->Ut,codeRec_of->Uu,specialIn->UB,wideGood->UF,handedIn->UG,clsGoodW->UH,openSeen->UR,takesIn->UX
open PySem renaming Expr->ON,Shared->OP,Addr->OR,Program->OU,wpAny_bind->OY,mainGlobals->O4,Scope->O6,Stmt->O9,World->Pa,model->Pc,starEach->Pe,sliceBounds->Pz,Around->PF,FuncData->PN,compareOp->PU,wpAny_Call_Name_kw->P6,wpAny_truthy_bool->Qa,binaryOp->Qf,mem_of_lookup->Qi,Arguments->Qo,backTo->QA,builtinsNs->QF,wpAny_passesOwn->QO,call_meets->QU,NameKind->QV,codeAny_mono->Q6,wpAny_loadPart'->Q8,wpAny_holding->Q9,wpAny_newObj_type->Ri,keywordEach->Rj,Expr->Rm,Operator->Rn,wpAny_execs_cons->Rt,wpAny_execs_nil->RB,swapsWith->RC,rawInt->RE,codeAmong->RG,bootBuiltins->RN,wpAny_call->R6,spliced->Se,attributeBase->Sf,Stmt->Sx,wpAny_pyReprObj_gives->SB,letOwnedTupleGo->SC,importedModules->SD,Builtin->SJ,sliceRange->SK,backToKw->SL,assignEach->SM,sizeLine_eq->S7,excClassObj->S9,Keyword->Te,getMethod->Tn,behindInMarks->To,DictEntry->Tw,wpAny_Return_some->TF,sysModules->TH,getItem->TJ,IsPart->TZ,noFill_tuple_add->T3,bindArgs->T8,cellsFrom->Ue,assign->Ug,Within->Uh,PassesOwn->Uk,wpAny_newFunctionEnv_cells->Ur,wpAny_binaryOp_repeat_ref->Uy,cLine->Uz,bltViewBooted->UA,wpAny_getItem_list_slice->UE,wpAny_standAt->UM,wpAny_callSpecial?_slot->UN,seq_tuple_add->UP,rangeSize_one->UQ,evalPart_none->US,compEnvC->UT,callerA->UU,call->UW
open Bool renaming and_eq_true->OQ,false_ne_true->Qc,or_eq_true->QJ,not_eq_true'->QM,or_false->RQ
open PySem.Heap renaming get?_push_of_some->OS,lt_size->O2,get?_push_size->Pf,SameBut->Q2,size_push->Rz,MadeExcOf->Sv,get?_update_other->Uo
open List renaming size_toArray->OT,getElem?_append_left->OW,getElem?_eq_getElem->OZ,getElem?_eq_none->O0,mem_of_getElem?->O5,replicate->O7,mem_cons_of_mem->O8,getElem?_map->Pb,getElem?_append_right->Pd,length_cons->Ph,mem_cons_self->Pj,length_map->Pq,append_nil->Pr,range->Pu,map_cons->Px,not_mem_nil->PD,mem_append_right->PJ,length_append->PK,getElem?_set_ne->PM,filterMap_cons->PV,mem_cons->PY,getElem?_set_self->P0,replicate_succ->P1,getD_eq_getElem?_getD->P8,getElem?_replicate->Qg,lookup_cons->Qm,all_eq_true->Qn,singleton_append->Qp,mem_append_left->Qt,getElem?_of_mem->Qu,length_nil->Qv,flatten_cons->Qw,append_assoc->Qx,map_map->QG,map_append->QH,lookup->QX,getElem?_range->QY,map_nil->QZ,getElem?_take_of_lt->Q0,nil_append->Q5,length_replicate->Re,dropLast_concat_getLast->Ro,of_mem_zip->Rq,map_congr_left->Rr,length->RO,head_eq_of_cons_eq->RP,getElem_mem->RV,filter_cons->RX,reverse_singleton->RZ,range_succ_eq_map->R0,length_singleton->Sb,drop_zero->Su,filter_append->SO,length_take->Ti,eq_nil_of_length_eq_zero->Tj,nodup_nil->TU,getElem?_eq_none_iff->TV,drop_eq_getElem_cons->TY,foldl->T5,sum_cons->Ua,all_cons->Ub,find?_cons_of_neg->Ul,set_set->Uv,range'->UI,mem_map_of_mem->UJ,drop_succ_cons->UK,mem_singleton->UZ,contains_cons->U0
open Option.some renaming inj->OV,injEq->QB
open Nat renaming le_refl->OX,lt_or_ge->Pi,lt_of_lt_of_le->Pn,ne_of_lt->Py,le_trans->PL,le_succ->Qd,lt_irrefl->Qh,zero_le->Qs,le_of_lt->QK,lt_succ_self->QW,mul_comm->Q3,ne_of_gt->Ry,div_add_mod->Sk,div_le_div_right->Ss,mul_div_cancel->SS,lt_of_le_of_lt->SV,zero_add->Tg,not_lt_zero->TR,mod_lt->T9,lt_trans->UC
open PySem.Str renaming ofString->O3,empty->SR,ofString_eq_toList->Us
open False renaming elim->Pk
open PySem.Value renaming ref->Pp,builtin->Rk,str->R8,isStrOf->SE,none->SQ,int->Tq,bool->UV
open PyProof.Rows renaming callWith_type1->Pw,slot_tuple_getitem->Ql,envOfC->Q4,plainGoodE->SW,plainGoodD->SX,expectedOf->SY,AllBare->Tf,drecsOf->Tu,subscriptTail->UO
open PySem.NameKind renaming free->PZ,cell->So
open PySem.Calls renaming spliced_cons->P4,spliced_nil->QL,Name_function_global->Rv,loadGlobal_global->T7,callWith_builtin->Uc,evalArgs_plain->Ux,Constant_str->UL
open PySem.Builtin.List renaming listTooLong->P9
open Ne renaming symm->Qj
open PySem.F renaming plainAttrs_list->Qz,args_tuple_add_2->Rx,entry_tuple_add->RI,slot_tuple_add->RL
open PySem.Builtin.Slice renaming slicePlaces->QD,sliceAdjust->Rh,sliceApplied->SA
open PySem.Builtin.Tuple renaming tupleExact->QI,tupleTooMany->Sy,tupleItemsOf->Sz
open Option renaming bind_some->QS,map_some->RY,getD_some->SZ,getD_none->UY
open PySem.Builtin.Str renaming occurrences->QT
open PySem.PassesOwn renaming never->Rf,looking->Ui,leaving->Uj
open List.cons renaming injEq->Rg
open ForInStep renaming yield->RM
open PySem.Around renaming frames_deeper->Sd,under->Ud
open True renaming intro->Sg
open PySem.Obj renaming mapSeq->Sn
open Array renaming length_toList->Sw,eq_empty_of_size_eq_zero->S6,toList->Up,getElem?_toList->Uq
open PySem.Heap.IsSliceOf renaming new->Tv
open Classical renaming axiomOfChoice->Tz
open Prod.mk renaming injEq->TQ
open Char renaming toNat->T6
open PySem.IsRange renaming new->Um
open PySem.Code renaming isFrame->Uw
open PySem.AutoSeq1 renaming idx_int->UD
section
namespace L2
open PySem PySem.Spec PyProof.Rows
def cE (s:Sx):Qo:=match s with
 | .FunctionDef _ a _ _ _ _ _ _ _ _=>a
 | _=>{ posonlyargs:=[],args:=[],vararg:=none,kwonlyargs:=[],kw_defaults:=[],kwarg:=none,defaults:=[] }
def ay (s:Sx):List Sx:=match s with
 | .FunctionDef _ _ b _ _ _ _ _ _ _=>b
 | _=>[]
def aa (s:Sx):O6:=match s with
 | .FunctionDef _ _ _ _ _ _ sc _ _ _=>sc
 | _=>{ kind:=.function,names:=[],isGenerator:=false,isCoroutine:=false }
end L2
end
section
namespace BR
open PySem PySem.W PyProof.Rows
variable {N:Nat}
noncomputable def pQ:List Obj->BT->Nat->Option (BT×Nat)
 | [],T,n=>some (T,n)
 | o :: r,T,n=>match ((T.ins n o).get n).isSome with
  | true=>pQ r (T.ins n o) (n+1)
  | false=>none
theorem nC (life:Life):∀ {l:List Obj}{T T':BT}{n n':Nat},pQ l T n=some (T',n')->(TL T' n' life).objs.toList=(TL T n life).objs.toList++l
 | [],T,T',n,n',h=>by cases h;simp
 | o :: r,T,T',n,n',h=>by
  unfold pQ at h
  cases g:((T.ins n o).get n).isSome with
  | false=>rw[g] at h;cases h
  | true =>
   rw[g] at h
   rw[nC life h,absHeap_ins g]
   show ((TL T n life).objs.push o).toList++r=_
   simp
noncomputable def toT (s:OP):Option SG:=match pQ s.heap.objs.toList .nil 0 with
 | some (T,n)=>some ⟨T,n,s.heap.life,s.gens,s.drawn,s.toks,s.os⟩
 | none=>none
theorem A8 {s:OP}{t:SG} (h:toT s=some t):t.abs=s:=by
 unfold toT at h
 cases e:pQ s.heap.objs.toList .nil 0 with
 | none=>rw[e] at h;cases h
 | some r =>
  obtain ⟨T,n⟩:=r
  rw[e] at h
  cases h
  have:=nC s.heap.life e
  obtain ⟨⟨objs,life⟩,g,d,k,o⟩:=s
  show Shared.mk (TL T n life) g d k o=Shared.mk ⟨objs,life⟩ g d k o
  have e2:(TL T n life).objs.toList=objs.toList:=by
   rw[this];simp[TL,BT.list]
  have e3:(TL T n life).objs=objs:=Array.toList_inj.mp e2
  have e4:TL T n life=⟨objs,life⟩:=by
   show Heap.mk _ _=Heap.mk _ _
   exact congrArg (Heap.mk · life) e3
  rw[e4]
noncomputable def kP (tb:String->Option SJ) (p:OU) (w:Pa) (n₀:Nat) (ann:Option Value):Nat->SG->Thread->Option SG
 | 0,_,_=>none
 | n+1,s,t=>match through t with
  | true=>some s
  | false=>match stepOk n₀ ann t with
   | false=>none
   | true=>match stepT (denote tb) p w s t with
    | some (s',t')=>kP tb p w n₀ ann n s' t'
    | none=>none
section
variable {tb:String->Option SJ}{p:OU}{w:Pa}{n₀:Nat}{ann:Option Value}
theorem nE:∀ {n:Nat}{s s':SG}{t:Thread},kP tb p w n₀ ann n s t=some s'->topRun tb p w n₀ ann n s.abs t=some s'.abs
 | 0,_,_,_,h=>by cases h
 | n+1,s,s',t,h=>by
  unfold kP at h
  unfold topRun
  cases he:through t with
  | true=>rw[he] at h;cases h;rfl
  | false =>
   rw[he] at h
   cases hk:stepOk n₀ ann t with
   | false=>rw[hk] at h;cases h
   | true =>
    rw[hk] at h
    cases hs:stepT (denote tb) p w s t with
    | none=>rw[hs] at h;cases h
    | some r=>obtain ⟨s₂,t₂⟩:=r;rw[hs] at h;dsimp only;rw[stepT_spec hs];exact nE h
end
noncomputable def lq (tb:String->Option SJ) (p:OU) (w:Pa) (N:Nat) (s₀:OP):Option SG :=
 match s₀.heap.isNs O4&&s₀.gens.size==0 with
 | true=>(toT s₀).bind fun t₀=>(kP tb p w s₀.heap.objs.size (s₀.heap.nsMap O4 "__annotations__") N t₀ (topStub p)).bind fun t₁ =>
  match staticsOk (SD p.main.body) s₀.heap t₁.abs.heap&&namesBound p t₁.abs.heap&&gensDone t₁.abs&&laidKept s₀.heap t₁.abs.heap with
   | true=>some t₁
   | false=>none
 | false=>none
theorem rD {tb:String->Option SJ}{p:OU}{w:Pa}{s₀:OP}{t:SG} (h:lq tb p w N s₀=some t):topFrom tb p w N s₀=some t.abs:=by
 unfold lq at h
 unfold topFrom
 cases e:(s₀.heap.isNs O4&&s₀.gens.size==0) with
 | false=>rw[e] at h;cases h
 | true =>
  rw[e] at h
  obtain ⟨t₀,h0,h⟩:=Option.bind_eq_some_iff.mp h
  obtain ⟨t₁,h1,h⟩:=Option.bind_eq_some_iff.mp h
  have h2:=nE h1
  rw[A8 h0] at h2
  dsimp only
  rw[h2]
  show (match _ with|true=>some t₁.abs|false=>none)=_
  cases e2:(staticsOk (SD p.main.body) s₀.heap t₁.abs.heap&&namesBound p t₁.abs.heap&&gensDone t₁.abs&&laidKept s₀.heap t₁.abs.heap) with
  | false=>rw[e2] at h;cases h
  | true=>rw[e2] at h;cases h;rfl
noncomputable def iJ (tb:String->Option SJ) (p:OU) (w:Pa) (N:Nat):Option SG:=(fencedOpening tb p w N).bind (lq tb p w N)
theorem A9 {tb:String->Option SJ}{p:OU}{w:Pa}{α:Type}{f:OP->α}{x:α} (h:(iJ tb p w N).map (fun t=>f t.abs)=some x):(openEnds tb p w N).map f=some x:=by
 obtain ⟨t,ht,e⟩:=Option.map_eq_some_iff.mp h
 obtain ⟨s₀,h0,h1⟩:=Option.bind_eq_some_iff.mp ht
 unfold openEnds
 rw[h0]
 show (topFrom tb p w N s₀).map f=some x
 rw[rD h1]
 exact congrArg some e
theorem xq {α β γ δ:Type}{o:Option α}{f:α->β×γ}{g:α->δ}{x:β}{y:γ}{z:δ} (h1:o.map (fun t=>(f t).1)=some x) (h2:o.map (fun t=>(f t).2)=some y) (h3:o.map g=some z):o.map (fun t=>(f t,g t))=some ((x,y),z):=by
 cases o with
 | none=>cases h2
 | some t =>
  have e1:(f t).1=x:=OV h1
  have e2:(f t).2=y:=OV h2
  have e3:g t=z:=OV h3
  show some (f t,g t)=_
  rw[← e1,← e2,← e3]
theorem good (q:OU) (loose:List Str):openGood q loose=(SY q,UA,true,true,PySem.pinGoodD (Tu q),SW q (PySem.W.looseW q loose),SX q loose,UF q,UH q loose):=rfl
def LA (tb:String->Option SJ) (p q:OU) (loose mods:List Str) (Xt:OP->Bool) (g0:Bool) (N:Nat) (w:Pa):Prop :=
 (iJ tb p w N).map (fun t=>(UR q loose mods Xt g0 t.abs).1)=some (SY q)
def LB (tb:String->Option SJ) (p q:OU) (loose mods:List Str) (Xt:OP->Bool) (g0:Bool) (N:Nat) (w:Pa):Prop :=
 (iJ tb p w N).map (fun t=>(UR q loose mods Xt g0 t.abs).2)=some (UA,true,true,PySem.pinGoodD (Tu q),SW q (PySem.W.looseW q loose),SX q loose,UF q,UH q loose)
def LO (tb:String->Option SJ) (p:OU) (N:Nat) {α:Type} (Yf:OP->α) (Ya:Pa->α) (w:Pa):Prop:=(iJ tb p w N).map (fun t=>Yf t.abs)=some (Ya w)
theorem Ba {tb:String->Option SJ}{p q:OU}{loose mods:List Str}{Xt:OP->Bool}{g0:Bool}{α:Type}{Yf:OP->α}{Ya:Pa->α}{w:Pa} (h1:LA tb p q loose mods Xt g0 N w) (h2:LB tb p q loose mods Xt g0 N w) (h3:LO tb p N Yf Ya w) :
 (openEnds tb p w N).map (fun s=>(UR q loose mods Xt g0 s,Yf s))=some (openGood q loose,Ya w):=by
 rw[good]
 have h:=xq (f:=fun t:SG=>UR q loose mods Xt g0 t.abs) (g:=fun t:SG=>Yf t.abs) h1 h2 h3
 exact A9 (f:=fun s=>(UR q loose mods Xt g0 s,Yf s)) h
end BR
end
section
namespace BG
open PySem PySem.Spec PySem.Calls PyProof.Rows L2
structure FS where
 name:Str
 qual:Str
 params:Qo
 body:FuncBody
 scope:O6
 globals:OR
 closure:List (Str×OR)
 defaults:Value
 builtins:OR
 code:Bool
noncomputable def Bb (K:OM) (f:OR):Option FS:=match K.lookup f with
 | some ⟨_,_,.func fd,_⟩=>some ⟨fd.name,fd.qualname,fd.params,fd.body,fd.scope,fd.globals,fd.closure,fd.defaults,fd.builtins,Ru K fd.code fd.qualname⟩
 | _=>none
noncomputable def tK (x qual:Str) (st:Sx):FS:=⟨x,qual,cE st,.stmts (ay st),aa st,O4,[],.none,QF,true⟩
noncomputable def strOf:Value->Option Str
 | .str x _=>some x
 | _=>none
noncomputable def intOf:Value->Option Int
 | .int i _=>some i
 | _=>none
noncomputable def refOf:Option (Option Value)->Option OR
 | some (some (.ref a))=>some a
 | _=>none
inductive Qy where
 | fn (x:Str) (f:OR) (st:Sx)|int (x:Str) (n:Int)|tup (x:Str) (f:OR) (xs:List Str)|dct (x:Str) (f:OR) (kvs:List (Str×Int))|no (x:Str)|cls (c:Str) (C:OR)|me (C:OR) (m x qual:Str) (f:OR) (st:Sx)|mk (C:OR)
 | tab (x:Str) (c P:OR)|bm (b:OR)|fv (x:Str) (f:OR)|exc (D:OR) (xs:List (Str×OR))
inductive Ov where
 | fn (a:Option OR) (o:Option FS)|int (n:Option Int)|seq (a:Option OR) (c:Option (Value×Option OR×Nat)) (xs:Option (List (Option Str)))|dct (a:Option OR) (c:Option (Value×Option OR×Nat)) (xs:Option (List (Int×Option Str×Option Int)))|b (x:Bool)
noncomputable def shp (o:Obj):Value×Option OR×Nat:=(o.cls,o.dict,o.slots.size)
noncomputable def D7 (o:Obj):Option (List (Option Str)):=match o.data with
 | .seq its _=>some (its.toList.map strOf)
 | _=>none
noncomputable def D8 (o:Obj):Option (List (Int×Option Str×Option Int)):=match o.data with
 | .dict es _=>some (es.toList.map fun e=>(e.hash,strOf e.key,intOf e.val))
 | _=>none
noncomputable def attrs:List Str:=["program","asked","gap","most","kept","farthest","front","now","origins","branches","tape","named"]
noncomputable def Ih (K:OM) (c:Str) (C:OR):Bool:=decide (PB K O4 c=some (some (.ref C)))&&Rc K C SR&&QE K C&&SH K C&&decide (Pv K (.ref C) "__setattr__"=some (some (.builtin "object.__setattr__"))) &&
 attrs.all fun f=>decide (Pv K (.ref C) f=some none)
noncomputable def meB (K:OM) (C:OR) (m:Str) (f:OR):Bool:=decide (Pv K (.ref C) m=some (some (.ref f)))&&SN K (.ref f)
noncomputable def mkB (K:OM) (C:OR):Bool:=Td K C&&Po K (.ref C)
noncomputable def bmB (K:OM) (b:OR):Bool:=decide (PB K O4 "__builtins__"=some (some (.ref b)))&&decide (b≠QF)&&(match K.lookup b with
 | some ⟨.type "module",some d,.plain,_⟩=>d==QF
 | _=>false)
noncomputable def LW (K:OM) (C D:OR):Bool:=match K.lookup C with
 | some ⟨_,_,.cls cd,_⟩=>cd.mro.contains (.ref D)
 | _=>false
noncomputable def Bc (K:OM) (c:Str) (C:OR):Bool:=decide (PB K O4 c=some (some (.ref C)))&&TN K C [.type "ValueError",.type "Exception",.type "BaseException",.type "object"] "ValueError.__new__"
noncomputable def EL (K:OM) (D:OR) (xs:List (Str×OR)) (c:Str) (C:OR):Bool:=Bc K c C&&LW K C D&&decide (Pv K (.ref C) "__getattribute__"=some (some (.builtin "BaseException.__getattribute__")))&&decide (Pv K (.ref C) "__getattr__"=some none) &&
 decide (Sq K C (.type "BaseException")=some true)&&QE K C&&decide (Pv K (.ref C) "__class__"=some (some (.builtin "object.__class__")))&&decide (UB K (.builtin "object.__class__") "__get__"=some (some (.builtin "getset_descriptor.__get__"))) &&
 decide (UX K (.builtin "object.__class__")=some true)&&decide (Sq K C (.type "object")=some true)&&decide (Qe K (.ref C) (.type "ValueError")=some true)&&xs.all fun q=>decide (Qe K (.ref C) (.ref q.2)=some (q.1==c))
noncomputable def Ii (K:OM) (D:OR) (xs:List (Str×OR)):Bool:=Bc K "TapeError" D&&xs.all fun q=>EL K D xs q.1 q.2
noncomputable def aQ (K:OM):Qy->Ov
 | .fn x f _=>.fn (refOf (PB K O4 x)) (Bb K f)
 | .int x _=>.int (match PB K O4 x with|some (some v)=>intOf v|_=>none)
 | .tup x f _=>.seq (refOf (PB K O4 x)) ((K.lookup f).map shp) ((K.lookup f).bind D7)
 | .dct x f _=>.dct (refOf (PB K O4 x)) ((K.lookup f).map shp) ((K.lookup f).bind D8)
 | .no x=>.b (decide (PB K O4 x=some none))
 | .cls c C=>.b (Ih K c C)
 | .me C m _ _ f _=>.fn (if meB K C m f then some f else none) (Bb K f)
 | .mk C=>.b (mkB K C)
 | .tab x c P=>.b (decide (PX K x=some (c,P))&&RJ K c P)
 | .bm b=>.b (bmB K b)
 | .fv x f=>.b (decide (PB K O4 x=some (some (.ref f)))&&Po K (.ref f))
 | .exc D xs=>.b (Ii K D xs)
noncomputable def aR (w:Pa):Qy->Ov
 | .fn x f st=>.fn (some f) (some (tK x x st))
 | .int _ n=>.int (some n)
 | .tup _ f xs=>.seq (some f) (some (.type "tuple",none,0)) (some (xs.map some))
 | .dct _ f kvs=>.dct (some f) (some (.type "dict",none,0)) (some (kvs.map fun q=>(PyData.keyHash w.params q.1,some q.1,some q.2)))
 | .no _=>.b true
 | .cls _ _=>.b true
 | .me _ _ x qual f st=>.fn (some f) (some (tK x qual st))
 | .mk _=>.b true
 | .tab _ _ _=>.b true
 | .bm _=>.b true
 | .fv _ _=>.b true
 | .exc _ _=>.b true
noncomputable def KOf (as:List OR) (h:Heap):OM:=as.map fun a=>(a,(h.get? a).getD default)
noncomputable def sees (as:List OR) (qs:List Qy) (ts:List OR):PySem.W.Hook where
 α:=Bool×List Ov×List (Option Obj)
 obs:=fun s=>(as.all fun a=>(s.heap.get? a).isSome,qs.map (aQ (KOf as s.heap)),ts.map s.heap.get?)
 val:=fun w=>(true,qs.map (aR w),ts.map fun _=>some (QN #[]))
 says:=fun w h=>∃ K:OM,K.map (·.1)=as/\(∀ p∈K,h.get? p.1=some p.2)/\(∀ q∈qs,aQ K q=aR w q)/\∀ P∈ts,h.get? P=some (QN #[])
 of:=fun w s e=>by
  have e1:=congrArg Prod.fst e
  have e2:=congrArg (fun p=>p.2.1) e
  have e3:=congrArg (fun p=>p.2.2) e
  refine ⟨KOf as s.heap,by simp[KOf,Function.comp_def],fun p hp=>?_,fun q hq=>List.map_inj_left.mp e2 q hq,fun P hP=>List.map_inj_left.mp e3 P hP⟩
  obtain ⟨a,ha,rfl⟩:=List.mem_map.mp hp
  have h1:=List.all_eq_true.mp e1 a ha
  obtain ⟨o,ho⟩:=Option.isSome_iff_exists.mp h1
  show s.heap.get? a=some ((s.heap.get? a).getD default)
  rw[ho];rfl
 keeps:=fun w h h' ⟨K,m,n,k,t⟩ hk=>⟨K,m,fun p hp=>hk _ _ (n p hp),k,fun P hP=>hk _ _ (t P hP)⟩
end BG
end
section
namespace BL
open PySem PySem.Spec PyProof.Rows L2 BG
noncomputable abbrev pg:OU:=PySem.Challenge.pw_backtape_k50_writers
noncomputable def qg:OU:=PySem.W.view pg [0,2,3,4,5,6,7,8,9,11,12,13,14,15,17,18,19,20,21,22,23,24,25,26,27,28,29,30,31,32,33,34,35,36,37,39,40,41,42,43,45,46,48,49,50,51,52,53,54,55,56,57,58,59,60,61,62,63,64]
noncomputable abbrev loo:List Str:=["INNER_COUNTS"]
noncomputable def top (i:Nat):Sx:=pg.main.body.getD i (.Pass ⟨0,0,0,0⟩)
noncomputable def Ij:Sx->List Sx
 | .ClassDef _ _ _ b _ _ _ _ _ _ _=>b
 | _=>[]
noncomputable def ef (i j:Nat):Sx:=(Ij (top i)).getD j (.Pass ⟨0,0,0,0⟩)
noncomputable def LY:Sx->Pos
 | .FunctionDef _ _ _ _ _ _ _ _ _ p=>p
 | _=>⟨0,0,0,0⟩
noncomputable abbrev adr:List OR:=[3,4,22,23,29,30,36,37,43,44,50,51,60,61,73,74,85,86,97,98,109,110,118,119,125,126,132,133,139,140,146,147,153,154,160,161,167,168,174,175,181,182,188,189,195,196,202,203,209,210,216,217,223,224,230,231,237,238,244,245,258,259,265,266,326,327,333,334,340,341,347,348,354,355,361,362,389,390,396,397,399,400,410,411,417,418,424,425,431,432,436,437,441,442,448,449,455,456,462,463,469,470,476,477,483,484,490,491,504,505,511,512,516,517]
noncomputable def qys:List Qy:=[.fn "is_whole" 30 (top 6),
 .fn "is_name" 37 (top 7),
 .fn "is_cell" 44 (top 8),
 .fn "inner_sums" 51 (top 9),
 .fn "begun" 119 (top 24),
 .fn "check_thing" 126 (top 25),
 .fn "worth_in" 133 (top 26),
 .fn "laid_out" 140 (top 27),
 .fn "of_two" 147 (top 28),
 .fn "worth_of" 154 (top 29),
 .fn "reckoned" 161 (top 30),
 .fn "cell_by" 168 (top 31),
 .fn "is_over" 175 (top 32),
 .fn "place_behind" 182 (top 33),
 .fn "with_worth" 189 (top 34),
 .fn "with_name" 196 (top 35),
 .fn "brought" 203 (top 36),
 .fn "stepped" 210 (top 37),
 .fn "written_by" 217 (top 39),
 .fn "written_next" 224 (top 40),
 .fn "check_step" 231 (top 41),
 .fn "thing_written" 238 (top 42),
 .fn "writer_of" 245 (top 43),
 .fn "_law_cell" 411 (top 48),
 .fn "_law_drawn" 418 (top 49),
 .fn "_law_sum" 425 (top 50),
 .fn "_law_row" 432 (top 51),
 .fn "_law_program" 437 (top 52),
 .fn "_law_asked" 442 (top 53),
 .fn "_law_worth" 449 (top 54),
 .fn "_law_is_over" 456 (top 55),
 .fn "_law_write" 463 (top 56),
 .fn "_law_put" 470 (top 57),
 .fn "_law_step" 477 (top 58),
 .fn "_law_states" 484 (top 59),
 .fn "_law_thing" 491 (top 60),
 .fn "_law_refused" 505 (top 62),
 .fn "law" 517 (top 64),
 .int "CELL_COUNT" 4,
 .int "WORTH_COUNT" 10007,
 .int "ROW" 0,
 .int "NAMES" 1,
 .int "CELLS" 2,
 .int "CALLS" 3,
 .int "ASKED" 4,
 .int "SAID" 5,
 .int "MOST_CALLS" 6,
 .int "MOST_MARKS" 8,
 .tup "LETTERS" 22 ["a","b","c","d","e","f"],
 .dct "INNER_COUNTS" 23 [("num",0),("name",0),("cell",1),("add",2),("sub",2),("mul",2),("less",2)],
 .no "len",
 .no "abs",
 .no "int",
 .no "list",
 .no "tuple",
 .no "isinstance",
 .no "str",
 .no "bool",
 .no "range",
 .no "reversed",
 .no "enumerate",
 .no "zip",
 .no "min",
 .no "max",
 .no "sorted",
 .no "sum",
 .no "all",
 .no "any",
 .no "set",
 .no "ValueError",
 .no "worths_of",
 .no "last_change",
 .no "next_change",
 .no "moments_so",
 .no "last_so",
 .no "next_so",
 .no "visits",
 .no "last_visit",
 .no "when_said",
 .no "next_within",
 .no "last_within",
 .no "first_other",
 .tab "writer_of" 244 240,
 .no "judged",
 .no "remade",
 .bm 4,
 .cls "Tape" 400,
 .mk 400,
 .me 400 "__init__" "__init__" "Tape.__init__" 259 (ef 46 0),
 .me 400 "at" "at" "Tape.at" 266 (ef 46 1),
 .me 400 "behind" "behind" "Tape.behind" 327 (ef 46 10),
 .me 400 "is_last" "is_last" "Tape.is_last" 334 (ef 46 11),
 .me 400 "keep" "keep" "Tape.keep" 341 (ef 46 12),
 .me 400 "reach" "reach" "Tape.reach" 348 (ef 46 13),
 .me 400 "has" "has" "Tape.has" 355 (ef 46 14),
 .me 400 "check" "check" "Tape.check" 362 (ef 46 15),
 .me 400 "last_to" "last_to" "Tape.last_to" 390 (ef 46 19),
 .me 400 "last_between" "last_between" "Tape.last_between" 397 (ef 46 20),
 .fn "_law_told" 512 (top 63),
 .exc 61 [("NoMoment",74),("NoRun",86),("NoThing",98),("NoText",110)]]
noncomputable abbrev tl:List (Str×OR×OR):=[("writer_of",244,240)]
noncomputable abbrev tas:List OR:=[240]
abbrev LA:Pa->Prop:=BR.LA treeTable pg qg loo (SD pg.main.body) (fun s=>T4 qg [] s&&TM [] s) true 7032
theorem la0 (w:Pa):LA (w.withFollow "special-get-raises" false):=by unfold LA BR.LA;kernel_rfl
theorem la1 (w:Pa):LA (w.withFollow "special-get-raises" true):=by unfold LA BR.LA;kernel_rfl
abbrev LB:Pa->Prop:=BR.LB treeTable pg qg loo (SD pg.main.body) (fun s=>T4 qg [] s&&TM [] s) true 7032
theorem lb0 (w:Pa):LB (w.withFollow "special-get-raises" false):=by unfold LB BR.LB;kernel_rfl
theorem lb1 (w:Pa):LB (w.withFollow "special-get-raises" true):=by unfold LB BR.LB;kernel_rfl
abbrev LO:Pa->Prop:=BR.LO treeTable pg 7032 (sees adr qys tas).obs (sees adr qys tas).val
theorem lo0 (w:Pa):LO (w.withFollow "special-get-raises" false):=by unfold LO BR.LO;kernel_rfl
theorem lo1 (w:Pa):LO (w.withFollow "special-get-raises" true):=by unfold LO BR.LO;kernel_rfl
theorem left:PySem.W.LeftO pg qg loo (fun s=>T4 qg [] s&&TM [] s) (sees adr qys tas).obs (sees adr qys tas).val 7032:=fun w=>BR.Ba (Tt (P:=LA) "special-get-raises" la0 la1 w) (Tt (P:=LB) "special-get-raises" lb0 lb1 w) (Tt (P:=LO) "special-get-raises" lo0 lo1 w)
end BL
end
section
namespace L2
open PySem PySem.Spec PyProof.Rows
noncomputable abbrev Key:=Sum Int Str
noncomputable def tL:Key->Value->Bool
 | .inl k,v=>Value.isInt k v
 | .inr x,v=>SE x v
noncomputable def LZ (w:Pa):Key->Int
 | .inl k=>hashInt k
 | .inr x=>hashStr w x
theorem aZ:∀ {k:Key}{v:Value},tL k v=true->(∃ i t,k=Sum.inl i/\v=Tq i t)\/(∃ x t,k=Sum.inr x/\v=R8 x t)
 | .inl i,v,h=>by
  obtain ⟨t,e⟩:=Value.isInt_shape (k:=i) (v:=v) h
  exact .inl ⟨i,t,rfl,e⟩
 | .inr x,v,h=>by
  obtain ⟨t,e⟩:=Value.isStrOf_shape (x:=x) (v:=v) h
  exact .inr ⟨x,t,rfl,e⟩
theorem vq (x:Str) (t:Tok):tL (.inr x) (.str x t)=true:=by simp[tL,SE]
theorem EM (a b:Int):decide ((Sum.inl a:Key)=Sum.inl b)=(a==b):=by
 by_cases e:a=b
 ·subst e;simp
 ·have h:¬ (Sum.inl a:Key)=Sum.inl b:=fun q=>e (Sum.inl.inj q)
  rw[decide_eq_false h]
  exact (beq_eq_false_iff_ne.mpr e).symm
theorem EN (a b:Str):decide ((Sum.inr a:Key)=Sum.inr b)=decide (a=b):=by
 by_cases e:a=b
 ·subst e;simp
 ·have h:¬ (Sum.inr a:Key)=Sum.inr b:=fun q=>e (Sum.inr.inj q)
  rw[decide_eq_false h,decide_eq_false e]
theorem EO (a:Int) (b:Str):decide ((Sum.inl a:Key)=Sum.inr b)=false:=decide_eq_false (fun q=>nomatch q)
theorem ER (a:Str) (b:Int):decide ((Sum.inr a:Key)=Sum.inl b)=false:=decide_eq_false (fun q=>nomatch q)
noncomputable def cT (prog:OU) (w:Pa):PySem.KeyKind prog w Key where
 is:=tL
 hash:=LZ w
 inj:=fun v a b ha hb=>by
  rcases aZ ha with ⟨i,t,rfl,rfl⟩|⟨x,t,rfl,rfl⟩
  ·rcases aZ hb with ⟨j,u,rfl,e⟩|⟨y,u,rfl,e⟩
   ·injection e with e1 _;rw[e1]
   ·exact nomatch e
  ·rcases aZ hb with ⟨j,u,rfl,e⟩|⟨y,u,rfl,e⟩
   ·exact nomatch e
   ·injection e with e1 _;rw[e1]
 byValue:=fun k v h=>by
  rcases aZ h with ⟨i,t,rfl,rfl⟩|⟨x,t,rfl,rfl⟩<;>rfl
 pyHash:=fun hv h=>by
  rcases aZ hv with ⟨i,t,rfl,rfl⟩|⟨x,t,rfl,rfl⟩
  ·exact wpAny_pyHash_int h
  ·exact wpAny_pyHash_str h
 eqBool:=fun hu hv h=>by
  rcases aZ hu with ⟨i,t,rfl,rfl⟩|⟨x,t,rfl,rfl⟩
  ·rcases aZ hv with ⟨j,u,rfl,rfl⟩|⟨y,u,rfl,rfl⟩
   ·rw[EM] at h;exact wpAny_eqBool_int h
   ·rw[EO] at h;exact SeqAt.EqAt.int_str i t y u _ _ _ _ h
  ·rcases aZ hv with ⟨j,u,rfl,rfl⟩|⟨y,u,rfl,rfl⟩
   ·rw[ER] at h;exact SeqAt.EqAt.str_int x t j u _ _ _ _ h
   ·rw[EN] at h;exact wpAny_eqBool_str h
 «strs»:=fun k x t v h=>by
  rcases aZ h with ⟨i,u,rfl,e⟩|⟨y,u,rfl,e⟩
  ·exact nomatch e
  ·injection e with e1 _
   subst e1
   cases v<;>rfl
theorem gR (prog:OU) (w:Pa) (x:Str) (t:Tok):(cT prog w).is (.inr x) (.str x t)=true:=vq x t
end L2
namespace L2
open PySem PySem.Spec PyProof.Rows
inductive V where
 | non|bl (b:Bool)|int (i:Int)|str (x:Str)|byt (b:Array UInt8)|flt (b:UInt64)|ref (a:OR)|ty (n:String)
 deriving DecidableEq
noncomputable def RelV:V->Value->Prop
 | .non,u=>u=SQ
 | .bl b,u=>u=UV b
 | .int i,u=>∃ t,u=Tq i t
 | .str x,u=>∃ t,u=R8 x t
 | .byt b,u=>∃ t,u=Value.bytes b t
 | .flt b,u=>∃ t,u=Value.float b t
 | .ref a,u=>u=Pp a
 | .ty n,u=>u=Value.type n
abbrev az:List V->List Value->Prop:=Paired RelV
theorem az.length {xs:List V}{us:List Value} (r:az xs us):xs.length=us.length:=Paired.length r
theorem az.get:∀ {xs:List V}{us:List Value}{i:Nat}{x:V},az xs us->xs[i]?=some x->∃ u,us[i]?=some u/\RelV x u
 | _,_,_,_,.nil,e=>by simp at e
 | _,_,0,_,.cons r _,e=>by simp at e;subst e;exact ⟨_,rfl,r⟩
 | _,_,i+1,x,.cons _ t,e=>by
  obtain ⟨u,h1,h2⟩:=az.get (i:=i) (x:=x) t (by simpa using e)
  exact ⟨u,by simpa using h1,h2⟩
theorem az.set {x:V}{u:Value} (r:RelV x u):∀ {xs:List V}{us:List Value} (i:Nat),az xs us->az (xs.set i x) (us.set i u)
 | _,_,_,.nil=>.nil
 | _,_,0,.cons _ t=>.cons r t
 | _,_,i+1,.cons q t=>.cons q (az.set r i t)
theorem az.append:∀ {xs ys:List V}{us ws:List Value},az xs us->az ys ws->az (xs++ys) (us++ws)
 | _,_,_,_,.nil,s=>s
 | _,_,_,_,.cons r t,s=>.cons r (az.append t s)
theorem az.take:∀ {xs:List V}{us:List Value} (n:Nat),az xs us->az (xs.take n) (us.take n)
 | _,_,0,_=>.nil
 | _,_,_+1,.nil=>.nil
 | _,_,n+1,.cons r t=>.cons r (az.take n t)
theorem az.drop:∀ {xs:List V}{us:List Value} (n:Nat),az xs us->az (xs.drop n) (us.drop n)
 | _,_,0,r=>r
 | _,_,_+1,.nil=>.nil
 | _,_,n+1,.cons _ t=>az.drop n t
noncomputable def mX:Option V->Option Value->Prop
 | some v,some u=>RelV v u
 | none,none=>True
 | _,_=>False
noncomputable def KV {κ:Type}:List (κ×V)->List (κ×Value)->Prop:=Paired fun (p:κ×V) (q:κ×Value)=>p.1=q.1/\RelV p.2 q.2
noncomputable def kV:Key->V
 | .inl i=>.int i
 | .inr x=>.str x
inductive HO where
 | lst (xs:List V)
 | tup (xs:List V)
 | dK (kvs:List (Key×V))|dT (kvs:List (List Key×V))
 | set (S:Int->Bool) (n:Nat)
 | ins (C dx:OR) (fs:List (Str×V))
 | own (x:OR)
 | xd (fs:List (Str×V))
 | met (f x:OR)
 | rng (lo hi:Int)
 | frz (o:Obj) (u:HO)
 | tbl (ps:Array Value)
 | ext (φ:Heap->Prop)
noncomputable abbrev Hp:=OR->Option HO
noncomputable def upd (H:Hp) (a:OR) (o:HO):Hp:=fun b=>if b=a then some o else H b
theorem aG {H:Hp}{a:OR}{o:HO}:upd H a o a=some o:=by unfold upd;rw[if_pos rfl]
theorem ao {H:Hp}{a b:OR}{o:HO} (h:b≠a):upd H a o b=H b:=by unfold upd;rw[if_neg h]
theorem aF {H:Hp}{a b:OR}{o:HO} (h:H a=some o) (h':H b=none):a≠b:=by
 intro e;subst e;rw[h] at h';cases h'
section
variable (P:OU) (w:Pa)
noncomputable def d8 (H:Hp) (h:Heap) (a:OR):HO->Prop
 | .lst xs=>xs.length<=sizeLine/\∃ (its:List Value) (n:Nat),az xs its/\h.get? a=some { cls:=.type "list",data:=.seq its.toArray n }
 | .tup xs=>xs.length<=sizeLine/\∃ its:List Value,az xs its/\IsTup h a its.toArray
 | .dK kvs=>kvs.length<=sizeLine/\(a==TH)=false/\∃ vs,KV kvs vs/\h.DictOf (cT P w) a vs
 | .dT kvs=>kvs.length<=sizeLine/\(a==TH)=false/\∃ xs:List (List Key×OR×Value),
  Paired (fun (p:List Key×V) (q:List Key×OR×Value)=>p.1=q.1/\H q.2.1=some (.tup (p.1.map kV))/\RelV p.2 q.2.2) kvs xs ∧
  ∃ o es ep,h.get? a=some o/\o.ExactDict/\o.data=.dict es ep/\es.toList=xs.map (entryOfKey (tupleKind (cT P w)))/\(xs.map (·.1)).Nodup
 | .set S n=>h.SetOf (intKind P w) a S n
 | .ins C dx fs=>H dx=some (.own a)/\fs.length<=1000/\dx≠a/\h.get? a=some (Qq C dx) ∧
  ∃ mA,h.Ns1 dx mA/\(∀ f,mX (fs.lookup f) (mA f))/\Uh mA (fs.map (·.1))
 | .own _=>∃ o,h.get? a=some o
 | .xd fs=>∃ mA,h.Ns1 a mA/\∀ f,mX (fs.lookup f) (mA f)
 | .rng lo hi=>∃ t u v,h.get? a=some { cls:=.type "range",data:=.fields #[.int lo t,.int hi u,.int 1 v] }
 | .frz o u=>h.get? a=some o/\d8 H h a u
 | .tbl ps=>h.get? a=some { cls:=.none,data:=.fields ps }
 | .met f x=>h.get? a=some (SI (.ref f) (.ref x))
 | .ext φ=>φ h/\(∃ o,h.get? a=some o)/\∀ h1 h2:Heap,φ h1->(∀ o,h1.get? a=some o->h2.get? a=some o)->φ h2
def HOk (H:Hp) (h:Heap):Prop:=∀ a o,H a=some o->d8 P w H h a o
end
section
variable {P:OU}{w:Pa}{H H':Hp}{h h':Heap}{a:OR}{o:HO}
theorem d8.lt (x:d8 P w H h a o):a < h.objs.size:=by
 cases o with
 | lst xs=>obtain ⟨_,_,_,_,e⟩:=x;exact O2 e
 | tup xs=>obtain ⟨_,_,_,p⟩:=x;exact p.lt
 | set S n=>obtain ⟨o,_,_,_,e,_⟩:=x;exact O2 e
 | ins C dx fs=>obtain ⟨_,_,_,e,_⟩:=x;exact O2 e
 | own y=>obtain ⟨_,e⟩:=x;exact O2 e
 | xd fs=>obtain ⟨_,⟨_,_,_,e,_⟩,_⟩:=x;exact O2 e
 | rng lo hi=>obtain ⟨_,_,_,e⟩:=x;exact O2 e
 | frz ob u=>obtain ⟨e,_⟩:=x;exact O2 e
 | tbl ps=>exact O2 (show h.get? a=some _ from x)
 | met f y=>exact O2 (show h.get? a=some _ from x)
 | ext φ=>obtain ⟨_,⟨_,e⟩,_⟩:=x;exact O2 e
 | _=>obtain ⟨_,_,_,_,o,_,_,e,_⟩:=x;exact O2 e
theorem Paired.Ik {α β:Type}{F G:α->β->Prop}:∀ {l₁:List α}{l₂:List β},Paired F l₁ l₂->(∀ a b,F a b->G a b)->Paired G l₁ l₂
 | _,_,.nil,_=>.nil
 | _,_,.cons r t,f=>.cons (f _ _ r) (Paired.Ik t f)
theorem d8.stay (x:d8 P w H h a o) (k:∀ b u,(b=a\/H b=some (.own a))->h.get? b=some u->h'.get? b=some u)
 (ho:∀ b,H b=some (.own a)->H' b=some (.own a)) (ht:∀ b xs,H b=some (.tup xs)->H' b=some (.tup xs)):d8 P w H' h' a o:=by
 induction o with
 | lst xs=>obtain ⟨z,its,n,r,e⟩:=x;exact ⟨z,its,n,r,k _ _ (.inl rfl) e⟩
 | tup xs=>obtain ⟨z,its,r,ob,e,c⟩:=x;exact ⟨z,its,r,ob,k _ _ (.inl rfl) e,c⟩
 | dK kvs=>obtain ⟨z,y,vs,r,ob,es,ep,e,c⟩:=x;exact ⟨z,y,vs,r,ob,es,ep,k _ _ (.inl rfl) e,c⟩
 | dT kvs =>
  obtain ⟨z,y,xs,r,ob,es,ep,e,c⟩:=x
  exact ⟨z,y,xs,Paired.Ik r fun p q z=>⟨z.1,ht _ _ z.2.1,z.2.2⟩,ob,es,ep,k _ _ (.inl rfl) e,c⟩
 | set S n=>obtain ⟨ob,es,ep,t,e,c⟩:=x;exact ⟨ob,es,ep,t,k _ _ (.inl rfl) e,c⟩
 | ins C dx fs =>
  obtain ⟨d,z,ne,e,mA,⟨od,es,ep,e2,c⟩,r⟩:=x
  exact ⟨ho _ d,z,ne,k _ _ (.inl rfl) e,mA,⟨od,es,ep,k _ _ (.inr d) e2,c⟩,r⟩
 | own y=>obtain ⟨ob,e⟩:=x;exact ⟨ob,k _ _ (.inl rfl) e⟩
 | xd fs=>obtain ⟨mA,⟨od,es,ep,e,c⟩,r⟩:=x;exact ⟨mA,⟨od,es,ep,k _ _ (.inl rfl) e,c⟩,r⟩
 | rng lo hi=>obtain ⟨t,u,v,e⟩:=x;exact ⟨t,u,v,k _ _ (.inl rfl) e⟩
 | frz ob u ih=>obtain ⟨e,q⟩:=x;exact ⟨k _ _ (.inl rfl) e,ih q⟩
 | tbl ps =>
  have e:h.get? a=some { cls:=.none,data:=.fields ps }:=x
  show h'.get? a=some { cls:=.none,data:=.fields ps }
  exact k a _ (.inl rfl) e
 | met f y =>
  have e:h.get? a=some (SI (.ref f) (.ref y)):=x
  show h'.get? a=some (SI (.ref f) (.ref y))
  exact k a _ (.inl rfl) e
 | ext φ=>obtain ⟨p,⟨o,e⟩,st⟩:=x;exact ⟨st _ _ p fun o q=>k _ _ (.inl rfl) q,⟨o,k _ _ (.inl rfl) e⟩,st⟩
theorem HOk.lt (x:HOk P w H h) (e:H a=some o):a < h.objs.size:=(x a o e).lt
theorem HOk.fresh (x:HOk P w H h) (e:h.objs.size<=a):H a=none:=by
 cases q:H a with
 | none=>rfl
 | some u=>exact absurd (Pn (x.lt q) e) (Qh _)
theorem HOk.kept (x:HOk P w H h) (k:∀ b u,h.get? b=some u->h'.get? b=some u):HOk P w H h':=fun a o e =>
 (x a o e).stay (fun b u _ q=>k b u q) (fun _ q=>q) fun _ _ q=>q
theorem HOk.laid (x:HOk P w H h) (k:∀ b u,h.get? b=some u->h'.get? b=some u) (hp:h.objs.size<=a) (new:d8 P w (upd H a o) h' a o):HOk P w (upd H a o) h':=fun b u e=>by
 have hn:=x.fresh hp
 by_cases hb:b=a
 ·subst hb;rw[aG] at e;cases e;exact new
 ·rw[ao hb] at e
  exact (x b u e).stay (fun c v _ q=>k c v q) (fun c q=>by rw[ao (aF q hn)];exact q) fun c xs q=>by rw[ao (aF q hn)];exact q
end
def Rd (H:Hp) (a:OR) (u:HO):Prop:=H a=some u\/∃ o,H a=some (.frz o u)
theorem Rd.ok {P:OU}{w:Pa}{H:Hp}{h:Heap}{a:OR}{u:HO} (r:Rd H a u) (x:HOk P w H h):d8 P w H h a u:=by
 rcases r with r|⟨o,r⟩
 ·exact x a u r
 ·obtain ⟨_,q⟩:=x a _ r
  exact q
noncomputable def Mut:Option HO->Prop
 | some (.lst _)=>True
 | some (.dK _)=>True
 | some (.dT _)=>True
 | some (.set _ _)=>True
 | some (.ins _ _ _)=>True
 | some (.ext _)=>True
 | _=>False
section
variable {P:OU}{w:Pa}{H:Hp}{h h':Heap}{x e:OR}{o':HO}
theorem HOk.write (ok:HOk P w H h) (mu:Mut (H x)) (he:e=x\/H e=some (.own x)) (k:∀ b u,b≠e->h.get? b=some u->h'.get? b=some u) (heo:∃ u,h'.get? e=some u)
 (new:d8 P w (upd H x o') h' x o'):HOk P w (upd H x o') h':=fun b u q=>by
 have nown:∀ c y,H c=some (.own y)->c≠x:=fun c y r z=>by subst z;rw[r] at mu;exact mu
 have ntup:∀ c xs,H c=some (.tup xs)->c≠x:=fun c xs r z=>by subst z;rw[r] at mu;exact mu
 by_cases hb:b=x
 ·subst hb;rw[aG] at q;cases q;exact new
 ·rw[ao hb] at q
  by_cases hbe:b=e
  ·have q':H b=some (.own x):=by
    rcases he with z|z
    ·exact absurd (hbe.trans z) hb
    ·rw[hbe];exact z
   rw[q] at q';cases q'
   obtain ⟨v,hv⟩:=heo
   exact ⟨v,by rw[hbe];exact hv⟩
  ·refine (ok b u q).stay (fun c v hc r=>k c v ?_ r) (fun c r=>by rw[ao (nown c b r)];exact r) fun c xs r=>by rw[ao (ntup c xs r)];exact r
   rcases hc with rfl|hc
   ·exact hbe
   ·rintro rfl
    rcases he with z|z
    ·exact nown c b hc z
    ·rw[hc] at z;cases z;exact hb rfl
end
structure Un (fs ex:List OR) (H H':Hp) (h h':Heap):Prop where
 keep:∀ b o,h.get? b=some o->H b=none->b∉fs->b∉ex->h'.get? b=some o
 slot:∀ b o,h.get? b=some o->H b=none->b∈fs->b∉ex->∃ sl,h'.get? b=some { o with slots:=sl }
 free:∀ b o,h.get? b=some o->H b=none->b∉ex->H' b=none
 there:∀ b o,h.get? b=some o->b∉ex->∃ o',h'.get? b=some o'
 tups:∀ b xs,H b=some (.tup xs)->H' b=some (.tup xs)
 frzs:∀ b o u,H b=some (.frz o u)->H' b=some (.frz o u)
 tbls:∀ b ps,H b=some (.tbl ps)->∃ more,H' b=some (.tbl (ps++more))
section
variable {fs fs' ex ex':List OR}{H H1 H2:Hp}{h h1 h2 h':Heap}{a x e:OR}{o:HO}
theorem Un.any (u:Un fs ex H H1 h h1) {b:OR}{ob:Obj} (q:h.get? b=some ob) (n:H b=none) (hx:b∉ex):∃ sl,h1.get? b=some { ob with slots:=sl }:=by
 by_cases hb:b∈fs
 ·exact u.slot b ob q n hb hx
 ·exact ⟨ob.slots,u.keep b ob q n hb hx⟩
theorem Un.kept (k:∀ b u,h.get? b=some u->h'.get? b=some u):Un fs ex H H h h' :=
 ⟨fun b ob q _ _ _=>k b ob q,fun b ob q _ _ _=>⟨ob.slots,k b ob q⟩,fun _ _ _ n _=>n,fun b ob q _=>⟨ob,k b ob q⟩,fun _ _ q=>q,fun _ _ _ q=>q,fun _ ps q=>⟨#[],by rw[q];simp⟩⟩
theorem Un.refl:Un fs ex H H h h:=Un.kept fun _ _ q=>q
theorem Un.laid (k:∀ b u,h.get? b=some u->h'.get? b=some u) (hp:h.objs.size<=a) (hn:H a=none):Un fs ex H (upd H a o) h h' where
 keep:=fun b u q _ _ _=>k b u q
 slot:=fun b u q _ _ _=>⟨u.slots,k b u q⟩
 free:=fun b u q n _=>by rw[ao (Py (Pn (O2 q) hp))];exact n
 there:=fun b u q _=>⟨u,k b u q⟩
 tups:=fun b xs q=>by rw[ao (aF q hn)];exact q
 frzs:=fun b u xs q=>by rw[ao (aF q hn)];exact q
 tbls:=fun b ps q=>⟨#[],by rw[ao (aF q hn),q];simp⟩
theorem Un.write (mu:Mut (H x)) (he:e=x\/H e=some (.own x)) (k:∀ b u,b≠e->h.get? b=some u->h'.get? b=some u) (heo:∃ u,h'.get? e=some u):Un fs ex H (upd H x o) h h':=by
 have hx:∀ b,H b=none->b≠x:=fun b n z=>by subst z;rw[n] at mu;exact mu
 have hb:∀ b,H b=none->b≠e:=fun b n z=>by
  subst z
  rcases he with r|r
  ·exact hx b n r
  ·rw[n] at r;cases r
 have hm:∀ b u,H b=some u->¬ Mut (some u)->b≠x:=fun b u q nm z=>by subst z;rw[q] at mu;exact nm mu
 refine ⟨fun b u q n _ _=>k b u (hb b n) q,fun b u q n _ _=>⟨u.slots,k b u (hb b n) q⟩,fun b u q n _=>by rw[ao (hx b n)];exact n,fun b u q _=>?_,
  fun b xs q=>by rw[ao (hm b _ q fun z=>z)];exact q,fun b u xs q=>by rw[ao (hm b _ q fun z=>z)];exact q,fun b ps q=>⟨#[],by rw[ao (hm b _ q fun z=>z),q];simp⟩⟩
 by_cases hbe:b=e
 ·subst hbe;exact heo
 ·exact ⟨u,k b u hbe q⟩
end
noncomputable def trk (h:Heap) (H:Hp):List OR:=(Pu h.objs.size).filter fun a=>(H a).isSome
noncomputable def pR (h:Heap) (H:Hp):Heap:=RU h (trk h H)
theorem vv (h:Heap) (H:Hp):(pR h H).objs.size=h.objs.size:=PySem.W.hideAll_size _ _
theorem pS {h:Heap}{H:Hp}{b:OR}{o:Obj} (e:h.get? b=some o) (n:H b=none):(pR h H).get? b=some o :=
 Si _ e fun hm=>by
  have q:(H b).isSome=true:=(List.mem_filter.mp hm).2
  rw[n] at q;simp at q
theorem Bd {h:Heap}{H:Hp}{b:OR}{o:Obj} (e:(pR h H).get? b=some o):h.get? b=some o/\H b=none:=by
 have e':h.get? b=some o:=Ut (trk h H) e
 refine ⟨e',?_⟩
 cases q:H b with
 | none=>rfl
 | some x =>
  have hm:b∈trk h H:=List.mem_filter.mpr ⟨List.mem_range.mpr (O2 e'),by simp[q]⟩
  have z:(pR h H).get? b=none:=PySem.W.hideAll_none (trk h H) hm
  rw[z] at e;cases e
noncomputable def Be (g h:Heap) (L:OR):List (OR×Obj):=(Pu h.objs.size).filterMap fun a=>if a=L\/(g.get? a).isSome=true then none else (h.get? a).map fun o=>(a,o)
noncomputable def rest (g h:Heap) (L d:OR):List (OR×Obj):=(Be g h L).filter fun p=>decide (p.1≠d)
end L2
namespace L2
open PySem PySem.Spec PyProof.Rows
structure Mod (K:OM) (mg:Str->Option Value) (base:Heap):Prop where
 kin:K.In base
 glob:base.Ns O4 mg
 blt:∃ mb,base.Ns QF mb/\∀ x:Str,x≠"__name__"->mb x=RN x
 nolimit:base.NoLimit
structure Cx where
 prog:OU
 w:Pa
 K:OM
 mg:Str->Option Value
 base:Heap
 A:PF
 N:List Str
 s₀:OP
 H₀:Hp
 env:Env
 outer:List Env
 stack:List Env
 ex:List OR
 fn:Str->Bool
 calm:Bool
 pn:List (OR×Obj)
 xe:Value->OP->Prop
noncomputable def frs (l:List Env):List OR:=l.filterMap (·.frame)
noncomputable abbrev Cx.fs (X:Cx):List OR:=frs X.outer
def Vis (sc:O6) (x:Str):Prop:=sc.names.lookup x=some .local\/sc.names.lookup x=some .cell\/sc.names.lookup x=some .free
def Loc (sc:O6) (x:Str):Prop:=sc.names.lookup x=some .local\/sc.names.lookup x=some .cell
def Look (env:Env) (h:Heap) (m:Str->Option Value) (x:Str) (u:Value):Prop :=
 (env.kindOf x=some .local/\m x=some u)\/((env.kindOf x=some .cell\/env.kindOf x=some .free)/\∃ c,env.cells.lookup x=some c/\h.IsCell c (some u))
structure Cx.Ok (X:Cx):Prop where
 mod:Mod X.K X.mg X.base
 kind:X.env.scope.kind=.function
 glob:X.env.globals=O4
 blt:X.env.builtins=QF
 above:X.s₀.heap.objs.size<=X.env.locals
 inj:∀ x y c,X.env.cells.lookup x=some c->X.env.cells.lookup y=some c->x=y
 has:∀ x,(X.env.kindOf x=some .cell\/X.env.kindOf x=some .free)->∃ c,X.env.cells.lookup x=some c
 cab:∀ x c,X.fn x=true->X.env.cells.lookup x=some c->X.s₀.heap.objs.size<=c
 hd:X.calm=true->X.A.handled=none
 frames:X.A.frames=some X.stack
 stk:X.stack=X.outer\/(X.stack=X.env :: X.outer/\X.env.frame=some X.env.locals)
 exf:∀ b∈X.ex,b≠X.env.locals/\∀ x c,X.env.cells.lookup x=some c->c≠b
 bs:∀ b o,X.base.get? b=some o->X.s₀.heap.get? b=some o/\X.H₀ b=none
 bsz:X.base.objs.size<=X.s₀.heap.objs.size
 noex:∀ b o,X.base.get? b=some o->b∉X.ex
 exfs:∀ b∈X.ex,b∉X.fs
 fW:X.s₀.heap.FunFrames X.base X.outer
 frf:∀ b∈X.fs,X.H₀ b=none
structure Inv (X:Cx) (zt:List (OR×Obj)) (σ:List (Option V)) (H:Hp) (s:OP):Prop where
 ok:X.Ok
 os:s.os=X.s₀.os
 bare:Tf s.gens
 base:Un X.fs X.ex X.H₀ H X.s₀.heap s.heap
 loc:∃ m,s.heap.Ns X.env.locals m/\∀ (i:Nat) (x:Str) (v:V),X.N[i]?=some x->σ[i]?=some (some v)->Vis X.env.scope x->∃ u,RelV v u/\Look X.env s.heap m x u
 cell:∀ x c,X.env.cells.lookup x=some c->∃ v,s.heap.IsCell c v
 free:H X.env.locals=none
 freeC:∀ x c,X.env.cells.lookup x=some c->H c=none
 pin:∀ p∈X.pn++zt,s.heap.get? p.1=some p.2/\H p.1=none/\p.1≠X.env.locals/\p.1∉X.fs/\∀ v,p.2.data≠.cell v
 hok:HOk X.prog X.w H s.heap
 len:σ.length=X.N.length
section
variable {X:Cx}{zt:List (OR×Obj)}{σ:List (Option V)}{H H':Hp}{s:OP}{h':Heap}
theorem Cx.Ok.L0 (ok:X.Ok) {b:OR}{o:Obj} (e:X.base.get? b=some o):b∉X.fs:=fun hb=>by
 have:=(ok.fW.mem hb).1
 rw[e] at this;cases this
theorem Inv.bs (I:Inv X zt σ H s):∀ b o,X.base.get? b=some o->s.heap.get? b=some o/\H b=none:=fun b o e =>
 ⟨I.base.keep b o (I.ok.bs b o e).1 (I.ok.bs b o e).2 (I.ok.L0 e) (I.ok.noex b o e),I.base.free b o (I.ok.bs b o e).1 (I.ok.bs b o e).2 (I.ok.noex b o e)⟩
theorem Inv.bk (I:Inv X zt σ H s):∀ b o,X.base.get? b=some o->s.heap.get? b=some o:=fun b o e=>(I.bs b o e).1
theorem Inv.mod (I:Inv X zt σ H s):Mod X.K X.mg X.base:=I.ok.mod
theorem Inv.kIn (I:Inv X zt σ H s):X.K.In s.heap:=I.ok.mod.kin.keeps I.bk
theorem Inv.lt (I:Inv X zt σ H s):X.env.locals < s.heap.objs.size:=let ⟨_,hn,_⟩:=I.loc;hn.lt
theorem Inv.sz (I:Inv X zt σ H s):X.s₀.heap.objs.size<=s.heap.objs.size:=PL I.ok.above (QK I.lt)
theorem Inv.L3 (I:Inv X zt σ H s) {a:OR} (h:s.heap.objs.size<=a):a∉X.fs:=fun hb=>by
 obtain ⟨_,o,ho,_⟩:=I.ok.fW.mem hb
 exact absurd (Pn (O2 ho) (PL I.sz h)) (Qh _)
theorem Inv.cne (I:Inv X zt σ H s):∀ x c,X.env.cells.lookup x=some c->c≠X.env.locals:=fun x c e z=>by
 obtain ⟨v,o,ho,hd⟩:=I.cell x c e
 obtain ⟨m,⟨o',es,ep,ho',hd',_⟩,_⟩:=I.loc
 rw[z,ho'] at ho;cases ho;rw[hd'] at hd;cases hd
theorem Inv.fW (I:Inv X zt σ H s):s.heap.FunFrames X.base X.outer:=by
 have all:∀ (l:List Env),(∀ b∈frs l,b∈X.fs)->X.s₀.heap.FunFrames X.base l->s.heap.FunFrames X.base l:=by
  intro l
  induction l with
  | nil=>intro _ _;trivial
  | cons env r ih =>
   intro hs hl
   obtain ⟨hk,⟨L,o,hf,hn,ho,hd⟩,hr⟩:=hl
   have hL:L∈X.fs:=hs L (by unfold frs;rw[PV,hf];exact Pj)
   obtain ⟨sl,e⟩:=I.base.slot L o ho (I.ok.frf L hL) hL fun z=>I.ok.exfs L z hL
   exact ⟨hk,⟨L,_,hf,hn,e,hd⟩,ih (fun b hb=>hs b (by unfold frs;rw[PV,hf];exact O8 _ hb)) hr⟩
 exact all X.outer (fun _ hb=>hb) I.ok.fW
theorem Inv.stack (I:Inv X zt σ H s):s.heap.FunFrames X.base X.stack:=by
 rcases I.ok.stk with e|⟨e,hf⟩
 ·rw[e];exact I.fW
 ·rw[e]
  obtain ⟨m,hn,_⟩:=I.loc
  refine .cons (by rw[I.ok.kind];decide) hf hn ?_ I.fW
  exact Heap.get?_none_of_le (PL I.ok.bsz I.ok.above)
theorem Inv.gS (I:Inv X zt σ H s):∀ b∈frs X.stack,b∈X.env.locals :: X.fs:=fun b hb=>by
 rcases I.ok.stk with e|⟨e,hf⟩
 ·rw[e] at hb;exact O8 _ hb
 ·rw[e] at hb
  unfold frs at hb
  rw[PV,hf] at hb
  exact hb
theorem Inv.kQ (I:Inv X zt σ H s):∀ b∈frs X.stack,H b=none:=fun b hb=>by
 rcases List.mem_cons.mp (I.gS b hb) with e|hb
 ·rw[e];exact I.free
 ·obtain ⟨_,o,ho,_⟩:=I.ok.fW.mem hb
  exact I.base.free b o ho (I.ok.frf b hb) fun z=>I.ok.exfs b z hb
theorem Inv.step {g':Array GenState}{t':Nat}{d':Drawn}{ch:List OR} (I:Inv X zt σ H s)
 (hch:∀ b∈ch,(b∈X.ex\/X.s₀.heap.objs.size<=b)/\b≠X.env.locals/\(∀ x c,X.env.cells.lookup x=some c->c≠b)/\∀ p∈X.pn++zt,p.1≠b)
 (keep:∀ b o,b≠X.env.locals->b∉X.fs->b∉ch->s.heap.get? b=some o->H b=none->h'.get? b=some o)
 (slot:∀ b o,b≠X.env.locals->b∈X.fs->b∉ch->s.heap.get? b=some o->H b=none->∃ sl,h'.get? b=some { o with slots:=sl }) (free:∀ b o,b∉ch->s.heap.get? b=some o->H b=none->H' b=none)
 (there:∀ b o,b∉ch->s.heap.get? b=some o->∃ o',h'.get? b=some o')
 (tups:∀ b xs,H b=some (.tup xs)->H' b=some (.tup xs)) (frzs:∀ b o u,H b=some (.frz o u)->H' b=some (.frz o u)) (tbls:∀ b ps,H b=some (.tbl ps)->∃ more,H' b=some (.tbl (ps++more)))
 (ns:∀ m,s.heap.Ns X.env.locals m->h'.Ns X.env.locals m) (hok:HOk X.prog X.w H' h') (hg:Tf g') :
 Inv X zt σ H' { s with heap:=h',gens:=g',drawn:=d',toks:=t' }:=by
 have neL:∀ b o,X.s₀.heap.get? b=some o->b≠X.env.locals:=fun b o e=>Py (Pn (O2 e) I.ok.above)
 have neC:∀ b o,X.s₀.heap.get? b=some o->b∉X.ex->b∉ch:=fun b o e hx hb=>by
  rcases (hch b hb).1 with z|z
  ·exact hx z
  ·exact absurd (Pn (O2 e) z) (Qh _)
 have cellK:∀ x c,X.env.cells.lookup x=some c->∀ v,s.heap.IsCell c v->h'.IsCell c v:=fun x c e v ⟨o,ho,hd⟩=>by
  have nch:c∉ch:=fun z=>(hch c z).2.2.1 x c e rfl
  by_cases hc:c∈X.fs
  ·obtain ⟨sl,q⟩:=slot c o (I.cne x c e) hc nch ho (I.freeC x c e)
   exact ⟨_,q,hd⟩
  ·exact ⟨o,keep c o (I.cne x c e) hc nch ho (I.freeC x c e),hd⟩
 refine ⟨I.ok,I.os,hg,⟨fun b o e n hb hx=>?_,fun b o e n hb hx=>?_,fun b o e n hx=>?_,fun b o e hx=>?_,fun b xs e=>tups b xs (I.base.tups b xs e),fun b o xs e=>frzs b o xs (I.base.frzs b o xs e),fun b ps e=>?_⟩,?_,fun x c e=>?_,?_,fun x c e=>?_,fun p hp=>?_,hok,I.len⟩
 ·exact keep b o (neL b o e) hb (neC b o e hx) (I.base.keep b o e n hb hx) (I.base.free b o e n hx)
 ·obtain ⟨sl,e1⟩:=I.base.slot b o e n hb hx
  obtain ⟨sl',e2⟩:=slot b _ (neL b o e) hb (neC b o e hx) e1 (I.base.free b o e n hx)
  exact ⟨sl',e2⟩
 ·obtain ⟨o',e1⟩:=I.base.there b o e hx
  exact free b o' (neC b o e hx) e1 (I.base.free b o e n hx)
 ·obtain ⟨o',e1⟩:=I.base.there b o e hx
  exact there b o' (neC b o e hx) e1
 ·obtain ⟨m1,e1⟩:=I.base.tbls b ps e
  obtain ⟨m2,e2⟩:=tbls b _ e1
  exact ⟨m1++m2,by rw[e2,Array.append_assoc]⟩
 ·obtain ⟨m,hn,hl⟩:=I.loc
  refine ⟨m,ns m hn,fun i x v e1 e2 e3=>?_⟩
  obtain ⟨u,r,l⟩:=hl i x v e1 e2 e3
  refine ⟨u,r,?_⟩
  rcases l with l|⟨k,c,e,z⟩
  ·exact .inl l
  ·exact .inr ⟨k,c,e,cellK x c e _ z⟩
 ·obtain ⟨v,z⟩:=I.cell x c e
  exact ⟨v,cellK x c e v z⟩
 ·obtain ⟨m,⟨o,_,_,ho,_⟩,_⟩:=I.loc
  exact free _ o (fun z=>(hch _ z).2.1 rfl) ho I.free
 ·obtain ⟨v,o,ho,hd⟩:=I.cell x c e
  exact free c o (fun z=>(hch c z).2.2.1 x c e rfl) ho (I.freeC x c e)
 ·obtain ⟨e,n,ne,nf,d⟩:=I.pin p hp
  have nch:p.1∉ch:=fun z=>(hch p.1 z).2.2.2 p hp rfl
  exact ⟨keep p.1 p.2 ne nf nch e n,free p.1 p.2 nch e n,ne,nf,d⟩
theorem Inv.un {t':Nat} (I:Inv X zt σ H s) (u:Un X.fs [] H H' s.heap h') (hok:HOk X.prog X.w H' h'):Inv X zt σ H' { s with heap:=h',toks:=t' }:=by
 obtain ⟨m,⟨o,es,ep,ho,r⟩,_⟩:=id I.loc
 obtain ⟨sl,hL⟩:=u.any ho I.free (by simp)
 exact I.step (g':=s.gens) (d':=s.drawn) (ch:=[]) (fun _ z=>nomatch z) (fun b o _ hb _ e n=>u.keep b o e n hb (by simp)) (fun b o _ hb _ e n=>u.slot b o e n hb (by simp)) (fun b o _ e n=>u.free b o e n (by simp)) (fun b o _ e=>u.there b o e (by simp)) u.tups u.frzs u.tbls (fun m' hm=>by
  obtain ⟨o',es',ep',ho',r'⟩:=hm
  rw[ho] at ho';cases ho'
  exact ⟨_,es',ep',hL,r'⟩) hok I.bare
theorem Inv.call {g':Array GenState}{t':Nat}{d':Drawn}{ch:List OR} (I:Inv X zt σ H s) (u:Un (frs X.stack) ch H H' s.heap h') (hok:HOk X.prog X.w H' h') (hg:Tf g')
 (hch:∀ b∈ch,(b∈X.ex\/X.s₀.heap.objs.size<=b)/\b≠X.env.locals/\(∀ x c,X.env.cells.lookup x=some c->c≠b)/\∀ p∈X.pn++zt,p.1≠b) :
 Inv X zt σ H' { s with heap:=h',gens:=g',drawn:=d',toks:=t' }:=by
 obtain ⟨m,⟨o,es,ep,ho,r⟩,_⟩:=id I.loc
 obtain ⟨sl,hL⟩:=u.any ho I.free fun z=>(hch _ z).2.1 rfl
 exact I.step (ch:=ch) hch (fun b o hL hb hc e n=>u.keep b o e n (fun z=>(List.mem_cons.mp (I.gS b z)).elim hL hb) hc) (fun b o _ _ hc e n=>u.any e n hc) (fun b o hc e n=>u.free b o e n hc) (fun b o hc e=>u.there b o e hc) u.tups u.frzs u.tbls (fun m' hm=>by
  obtain ⟨o',es',ep',ho',r'⟩:=hm
  rw[ho] at ho';cases ho'
  exact ⟨_,es',ep',hL,r'⟩) hok hg
theorem Inv.turned {t':Nat}{it:OR} (I:Inv X zt σ H s) (k:∀ b o,b≠it->s.heap.get? b=some o->h'.get? b=some o) (hn:H it=none) (hL:it≠X.env.locals)
 (h1:it∈X.ex\/X.s₀.heap.objs.size<=it) (h2:∀ x c,X.env.cells.lookup x=some c->c≠it) (h3:∀ p∈X.pn++zt,p.1≠it):Inv X zt σ H { s with heap:=h',toks:=t' }:=by
 have nit:∀ b u,H b=some u->b≠it:=fun b u e z=>by rw[z,hn] at e;cases e
 refine I.step (g':=s.gens) (d':=s.drawn) (ch:=[it]) (fun b hb=>?_) (fun b o _ _ hc e _=>k b o (fun z=>hc (by simp[z])) e) (fun b o _ _ hc e _=>⟨o.slots,k b o (fun z=>hc (by simp[z])) e⟩) (fun _ _ _ _ n=>n)
  (fun b o hc e=>⟨o,k b o (fun z=>hc (by simp[z])) e⟩) (fun _ _ e=>e) (fun _ _ _ e=>e) (fun b ps e=>⟨#[],by rw[e];simp⟩) (fun m hm=>?_) (fun b u e=>?_) I.bare
 ·have e:b=it:=by simpa using hb
  subst e
  exact ⟨h1,hL,h2,h3⟩
 ·obtain ⟨o,es,ep,ho,r⟩:=hm
  exact ⟨o,es,ep,k _ o (Qj hL) ho,r⟩
 ·refine (I.hok b u e).stay (fun c v hc q=>k c v ?_ q) (fun _ q=>q) fun _ _ q=>q
  rcases hc with z|z
  ·rw[z];exact nit b u e
  ·exact nit c _ z
theorem Inv.tok (I:Inv X zt σ H s) (t:Nat):Inv X zt σ H { s with toks:=t }:=I.un (h':=s.heap) (t':=t) Un.refl I.hok
theorem Inv.kept {t':Nat} (I:Inv X zt σ H s) (k:∀ b u,s.heap.get? b=some u->h'.get? b=some u):Inv X zt σ H { s with heap:=h',toks:=t' }:=I.un (Un.kept k) (I.hok.kept k)
theorem Inv.laid {a:OR}{o:HO}{t':Nat} (I:Inv X zt σ H s) (k:∀ b u,s.heap.get? b=some u->h'.get? b=some u) (hp:s.heap.objs.size<=a) (new:d8 X.prog X.w (upd H a o) h' a o) :
 Inv X zt σ (upd H a o) { s with heap:=h',toks:=t' }:=I.un (Un.laid k hp (I.hok.fresh hp)) (I.hok.laid k hp new)
theorem Inv.write {x e:OR}{o:HO}{t':Nat} (I:Inv X zt σ H s) (mu:Mut (H x)) (he:e=x\/H e=some (.own x)) (k:∀ b u,b≠e->s.heap.get? b=some u->h'.get? b=some u) (heo:∃ u,h'.get? e=some u)
 (new:d8 X.prog X.w (upd H x o) h' x o):Inv X zt σ (upd H x o) { s with heap:=h',toks:=t' }:=I.un (Un.write mu he k heo) (I.hok.write mu he k heo new)
theorem Inv.kR {pins':List (OR×Obj)} (I:Inv X zt σ H s) (h:∀ p∈pins',s.heap.get? p.1=some p.2/\H p.1=none/\p.1≠X.env.locals/\p.1∉X.fs/\∀ v,p.2.data≠.cell v):Inv X pins' σ H s :=
 ⟨I.ok,I.os,I.bare,I.base,I.loc,I.cell,I.free,I.freeC,fun p hp=>(List.mem_append.mp hp).elim (fun z=>I.pin p (Qt _ z)) (h p),I.hok,I.len⟩
theorem pT {N:List Str} (hN:N.Nodup) {i j:Nat}{x:Str} (a:N[i]?=some x) (b:N[j]?=some x):i=j:=by
 obtain ⟨h1,e1⟩:=List.getElem?_eq_some_iff.mp a
 obtain ⟨h2,e2⟩:=List.getElem?_eq_some_iff.mp b
 exact (List.getElem_inj hN).mp (e1.trans e2.symm)
theorem jQ {M:Model}{A:PF}{E:Value->OP->Prop}{i:Nat}{x:Str}{v:V}{u:Value}{Q:Unit->OP->Prop} (I:Inv X zt σ H s) (hN:X.N.Nodup) (hi:X.N[i]?=some x) (hx:Loc X.env.scope x) (r:RelV v u)
 (h:∀ s',Inv X zt (σ.set i (some v)) H s'->(∃ a,Q2 a s.heap s'.heap/\(a=X.env.locals\/X.env.cells.lookup x=some a))->Q () s') (hf:X.fn x=true\/X.env.scope.names.lookup x=some .local:=by first|exact .inl rfl|exact .inr rfl|assumption):wpAny M A (storeName X.env x u) Q E s:=by
 obtain ⟨m,hn,hl⟩:=id I.loc
 have hcls:(X.env.scope.kind==.class||(X.env.scope.kind==.module&&X.env.locals != X.env.globals))=false:=by rw[I.ok.kind];rfl
 have hiσ:i < σ.length:=by rw[I.len];exact (List.getElem?_eq_some_iff.mp hi).1
 have cne:=I.cne
 have tracked:∀ {a:OR}{h':Heap},(∃ o,s.heap.get? a=some o/\H a=none)->Q2 a s.heap h'->HOk X.prog X.w H h':=fun {a h'} ha hs b ob e=>by
  obtain ⟨_,_,hfree⟩:=ha
  refine (I.hok b ob e).stay (fun c w' hc q=>(hs.2 c ?_).trans q) (fun _ q=>q) fun _ _ q=>q
  rintro rfl
  rcases hc with rfl|hc
  ·rw[hfree] at e;cases e
  ·rw[hfree] at hc;cases hc
 rcases hx with hk|hk
 ·refine wpAny_storeName_local hk hn (fun h' hn' hs=>?_) hcls
  obtain ⟨oL,_,_,hoL,_⟩:=id hn
  refine h _ ⟨I.ok,I.os,I.bare,⟨fun b o e n hb hx=>?_,fun b o e n hb hx=>?_,I.base.free,fun b o e hx=>?_,I.base.tups,I.base.frzs,I.base.tbls⟩,⟨_,hn',fun j y v' e1 e2 e3=>?_⟩,fun y c e=>?_,I.free,I.freeC,fun p hp=>?_,tracked ⟨oL,hoL,I.free⟩ hs,by simpa using I.len⟩ ⟨_,hs,.inl rfl⟩
  ·exact (hs.2 b (Py (Pn (O2 e) I.ok.above))).trans (I.base.keep b o e n hb hx)
  ·obtain ⟨sl,e1⟩:=I.base.slot b o e n hb hx
   exact ⟨sl,(hs.2 b (Py (Pn (O2 e) I.ok.above))).trans e1⟩
  ·obtain ⟨o',e1⟩:=I.base.there b o e hx
   exact ⟨o',(hs.2 b (Py (Pn (O2 e) I.ok.above))).trans e1⟩
  ·by_cases hj:j=i
   ·subst hj
    rw[hi] at e1;cases e1
    rw[P0 hiσ] at e2
    cases e2
    exact ⟨u,r,.inl ⟨hk,by simp⟩⟩
   ·rw[PM (Qj hj)] at e2
    obtain ⟨u',r',q⟩:=hl j y v' e1 e2 e3
    refine ⟨u',r',?_⟩
    rcases q with ⟨k,e⟩|⟨k,c,e,z⟩
    ·refine .inl ⟨k,?_⟩
     have:y≠x:=fun e=>hj (pT hN e1 (e ▸ hi))
     simp[this,e]
    ·exact .inr ⟨k,c,e,z.sameBut hs (cne y c e)⟩
  ·obtain ⟨w',z⟩:=I.cell y c e
   exact ⟨w',z.sameBut hs (cne y c e)⟩
  ·obtain ⟨e,n,ne,nf,d⟩:=I.pin p hp
   exact ⟨(hs.2 p.1 ne).trans e,n,ne,nf,d⟩
 ·have hfn:X.fn x=true:=by
   rcases hf with z|z
   ·exact z
   ·rw[z] at hk;cases hk
  obtain ⟨c,hc⟩:=I.ok.has x (.inl hk)
  obtain ⟨w',z⟩:=I.cell x c hc
  refine wpAny_storeName_cell I.ok.kind hk hc z (fun h' hc' hs=>?_)
  obtain ⟨oc,hoc,hocd⟩:=id z
  refine h { s with heap:=h' } ⟨I.ok,I.os,I.bare,⟨fun b o e n hb hx=>?_,fun b o e n hb hx=>?_,I.base.free,fun b o e hx=>?_,I.base.tups,I.base.frzs,I.base.tbls⟩,⟨m,hn.sameBut hs (Qj (cne x c hc)),fun j y v' e1 e2 e3=>?_⟩,fun y c' e=>?_,I.free,I.freeC,fun p hp=>?_,tracked ⟨oc,hoc,I.freeC x c hc⟩ hs,by simpa using I.len⟩ ⟨c,hs,.inr hc⟩
  ·exact (hs.2 b (Py (Pn (O2 e) (I.ok.cab x c hfn hc)))).trans (I.base.keep b o e n hb hx)
  ·obtain ⟨sl,e1⟩:=I.base.slot b o e n hb hx
   exact ⟨sl,(hs.2 b (Py (Pn (O2 e) (I.ok.cab x c hfn hc)))).trans e1⟩
  ·obtain ⟨o',e1⟩:=I.base.there b o e hx
   exact ⟨o',(hs.2 b (Py (Pn (O2 e) (I.ok.cab x c hfn hc)))).trans e1⟩
  ·by_cases hj:j=i
   ·subst hj
    rw[hi] at e1;cases e1
    rw[P0 hiσ] at e2
    cases e2
    exact ⟨u,r,.inr ⟨.inl hk,c,hc,hc'⟩⟩
   ·rw[PM (Qj hj)] at e2
    obtain ⟨u',r',q⟩:=hl j y v' e1 e2 e3
    refine ⟨u',r',?_⟩
    rcases q with q|⟨k,c',e,z'⟩
    ·exact .inl q
    ·refine .inr ⟨k,c',e,z'.sameBut hs ?_⟩
     rintro rfl
     exact hj (pT hN e1 (I.ok.inj _ _ _ e hc ▸ hi))
  ·by_cases hcc:c'=c
   ·subst hcc;exact ⟨_,hc'⟩
   ·obtain ⟨w2,z2⟩:=I.cell y c' e
    exact ⟨w2,z2.sameBut hs hcc⟩
  ·obtain ⟨e,n,ne,nf,d⟩:=I.pin p hp
   refine ⟨(hs.2 p.1 ?_).trans e,n,ne,nf,d⟩
   intro q
   rw[q,hoc] at e
   have q':oc=p.2:=OV e
   exact d w' (by rw[← q'];exact hocd)
theorem lu {M:Model}{A:PF}{E:Value->OP->Prop}{i:Nat}{x:Str}{v:V}{u:Value}{Q:Unit->OP->Prop} (I:Inv X zt σ H s) (hN:X.N.Nodup) (hi:X.N[i]?=some x) (hx:Loc X.env.scope x) (r:RelV v u)
 (h:∀ s',Inv X zt (σ.set i (some v)) H s'->Q () s') (hf:X.fn x=true\/X.env.scope.names.lookup x=some .local:=by first|exact .inl rfl|exact .inr rfl|assumption):wpAny M A (storeName X.env x u) Q E s :=
 jQ I hN hi hx r (fun s' I' _=>h s' I') hf
theorem Inv.xr {s':OP}{ch:List OR} (I:Inv X zt σ H s) (ho:s'.os=s.os) (u:Un (frs X.stack) ch H H' s.heap s'.heap) (hok:HOk X.prog X.w H' s'.heap) (hg:Tf s'.gens)
 (hch:∀ b∈ch,(b∈X.ex\/X.s₀.heap.objs.size<=b)/\b≠X.env.locals/\(∀ x c,X.env.cells.lookup x=some c->c≠b)/\∀ p∈X.pn++zt,p.1≠b):Inv X zt σ H' s':=by
 obtain ⟨h',g',d',t',o'⟩:=s'
 have e:o'=s.os:=ho
 subst e
 exact I.call (g':=g') (t':=t') (d':=d') u hok hg hch
end
abbrev XK:=Value->Option OR->Hp->Prop
noncomputable abbrev St:=List (Option V)
abbrev VK:=V->Hp->Prop
abbrev TE:=St->Hp->VK->Prop
abbrev TT:=St->Hp->(Bool->Hp->Prop)->Prop
abbrev TA:=St->Hp->(List V->Hp->Prop)->Prop
structure Ends where
 nx:St->Hp->Prop
 rt:VK
 bk:St->Hp->Prop:=fun _ _=>False
 ct:St->Hp->Prop:=fun _ _=>False
abbrev TS:=Ends->St->Hp->Prop
inductive EP (X:Cx) (zt:List (OR×Obj)) (σ:St) (Q:VK) (u:Value) (s':OP):Prop where
 | mk (v:V) (H':Hp) (I:Inv X zt σ H' s') (r:RelV v u) (q:Q v H'):EP X zt σ Q u s'
inductive TP (X:Cx) (zt:List (OR×Obj)) (σ:St) (Q:Bool->Hp->Prop) (b:Bool) (s':OP):Prop where
 | mk (H':Hp) (I:Inv X zt σ H' s') (q:Q b H'):TP X zt σ Q b s'
inductive AP (X:Cx) (zt:List (OR×Obj)) (σ:St) (Q:List V->Hp->Prop) (us:List Value) (s':OP):Prop where
 | mk (vs:List V) (H':Hp) (I:Inv X zt σ H' s') (r:az vs us) (q:Q vs H'):AP X zt σ Q us s'
def SP (X:Cx) (zt:List (OR×Obj)) (D:Ends) (f:Flow) (s':OP):Prop :=
 match f with
 | .next=>∃ σ' H',Inv X zt σ' H' s'/\D.nx σ' H'
 | .brk=>∃ σ' H',Inv X zt σ' H' s'/\D.bk σ' H'
 | .cont=>∃ σ' H',Inv X zt σ' H' s'/\D.ct σ' H'
 | .ret u=>∃ v σ' H',Inv X zt σ' H' s'/\RelV v u/\D.rt v H'
def PE (X:Cx) (e:Rm) (t:TE):Prop :=
 ∀ (zt:List (OR×Obj)) (s:OP) (σ:St) (H:Hp) (Q:VK),Inv X zt σ H s->t σ H Q->wpAny (Pc X.prog X.w) X.A (eval e X.env) (EP X zt σ Q) X.xe s
def PT (X:Cx) (e:Rm) (t:TT):Prop :=
 ∀ (zt:List (OR×Obj)) (s:OP) (σ:St) (H:Hp) (Q:Bool->Hp->Prop),Inv X zt σ H s->t σ H Q->wpAny (Pc X.prog X.w) X.A (isTrue e X.env (eval e X.env)) (TP X zt σ Q) X.xe s
def PW (X:Cx) (e:Rm) (t:TT):Prop :=
 ∀ (whole:Sem Value) (zt:List (OR×Obj)) (s:OP) (σ:St) (H:Hp) (Q:Bool->Hp->Prop),Inv X zt σ H s->t σ H Q->wpAny (Pc X.prog X.w) X.A (isTrue e X.env whole) (TP X zt σ Q) X.xe s
theorem PW.pt {X:Cx}{e:Rm}{t:TT} (h:PW X e t):PT X e t:=h _
def PA (X:Cx) (es:List Rm) (t:TA):Prop :=
 ∀ (pos:Pos) (zt:List (OR×Obj)) (s:OP) (σ:St) (H:Hp) (Q:List V->Hp->Prop),Inv X zt σ H s->t σ H Q->wpAny (Pc X.prog X.w) X.A (Se (QA pos (Pe es X.env))) (AP X zt σ Q) X.xe s
def PS (X:Cx) (st:Sx) (t:TS):Prop :=
 ∀ (zt:List (OR×Obj)) (s:OP) (σ:St) (H:Hp) (D:Ends),Inv X zt σ H s->t D σ H->wpAny (Pc X.prog X.w) X.A (exec st X.env) (SP X zt D) X.xe s
def PSs (X:Cx) (st:List Sx) (t:TS):Prop :=
 ∀ (zt:List (OR×Obj)) (s:OP) (σ:St) (H:Hp) (D:Ends),Inv X zt σ H s->t D σ H->wpAny (Pc X.prog X.w) X.A (execs st X.env) (SP X zt D) X.xe s
theorem thn {α:Type}{t:Sem α}{Q Q':α->OP->Prop}{M:Model}{A:PF}{E:Value->OP->Prop}{s:OP} (h:wpAny M A t Q E s) (hQ:∀ a s,Q a s->Q' a s):wpAny M A t Q' E s:=wpAny_mono h hQ fun _ _ x=>x
end L2
namespace L2
open PySem PySem.Spec PyProof.Rows
section
variable {X:Cx}
theorem bin {a b:Rm}{ta tb:TE} (ha:PE X a ta) (hb:PE X b tb) {zt:List (OR×Obj)}{s:OP}{σ:St}{H:Hp}{R:V->V->Hp->Prop} (I:Inv X zt σ H s) (h:ta σ H fun x H1=>tb σ H1 fun y H2=>R x y H2)
 {α:Type}{Q:α->OP->Prop}{f:Value->Value->Sem α}
 (hf:∀ v u s2 x y H2,Inv X zt σ H2 s2->RelV x v->RelV y u->R x y H2->wpAny (Pc X.prog X.w) X.A (f v u) Q X.xe s2) :
 wpAny (Pc X.prog X.w) X.A (eval a X.env) (fun v s₁=>wpAny (Pc X.prog X.w) X.A (eval b X.env) (fun u s₂=>wpAny (Pc X.prog X.w) X.A (f v u) Q X.xe s₂) X.xe s₁) X.xe s:=by
 refine thn (ha zt s σ H _ I h) fun v s1 zq=>?_
 obtain ⟨x,H1,I1,r1,q1⟩:=zq
 refine thn (hb zt s1 σ H1 _ I1 q1) fun u s2 zq=>?_
 obtain ⟨y,H2,I2,r2,q2⟩:=zq
 exact hf v u s2 x y H2 I2 r1 r2 q2
def L4 (i:Nat):TE:=fun σ H Q=>∃ v,σ[i]?=some (some v)/\Q v H
def tC (v:V):TE:=fun _ H Q=>Q v H
theorem rE {i:Nat}{x:Str}{pos:Pos} (hN:X.N[i]?=some x) (hv:Vis X.env.scope x) (hd:(x==("__debug__":Str))=false:=by decide) (hcd:(x==("__classdict__":Str))=false:=by decide):PE X (.Name x pos) (L4 i):=by
 intro zt s σ H Q I h
 obtain ⟨v,e,h⟩:=h
 obtain ⟨m,hn,hl⟩:=I.loc
 obtain ⟨u,r,l⟩:=hl i x v hN e hv
 have fin:EP X zt σ Q u s:=⟨v,H,I,r,h⟩
 rcases l with ⟨hk,hm⟩|⟨hk,c,hc,hcell⟩
 ·exact wpAny_Name (wpAny_loadName_local I.ok.kind hk hn hm fin) hd
 ·rcases hk with hk|hk
  ·exact wpAny_Name (wpAny_loadName_cell I.ok.kind hk hc hcell fin) hd
  ·exact wpAny_Name (wpAny_loadName_free I.ok.kind hk hc hcell fin hcd) hd
theorem rF {i j pos}:PE X (.Constant (.int i) j pos) (tC (.int i)):=fun _ _ _ H _ I h=>wpAny_Constant_int ⟨.int i,H,I.tok _,⟨_,rfl⟩,h⟩
theorem Il {b j pos}:PE X (.Constant (.bool b) j pos) (tC (.bl b)):=fun _ _ _ H _ I h=>Constant_bool ⟨.bl b,H,I,rfl,h⟩
theorem ES {j pos}:PE X (.Constant .none j pos) (tC .non):=fun _ _ _ H _ I h=>Constant_none ⟨.non,H,I,rfl,h⟩
theorem ET {x j pos}:PE X (.Constant (.str x) j pos) (tC (.str x)):=fun _ _ _ H _ I h=>UL ⟨.str x,H,I.tok _,⟨_,rfl⟩,h⟩
def Gl (X:Cx) (x:Str):Prop:=X.env.kindOf x=some .globalImplicit
theorem fE {E:Value->OP->Prop}{zt:List (OR×Obj)}{s:OP}{σ:St}{H:Hp}{x:Str}{u:Value}{pos:Pos}{Q:Value->OP->Prop} (I:Inv X zt σ H s) (hg:Gl X x) (hm:X.mg x=some u) (h:Q u s)
 (hd:(x==("__debug__":Str))=false:=by decide):wpAny (Pc X.prog X.w) X.A (eval (.Name x pos) X.env) Q E s :=
 Rv I.ok.kind hg (T7 (by rw[I.ok.glob];exact I.mod.glob.keeps I.bk) hm h) hd
theorem ff {E:Value->OP->Prop}{zt:List (OR×Obj)}{s:OP}{σ:St}{H:Hp}{x:Str}{u:Value}{pos:Pos}{Q:Value->OP->Prop} (I:Inv X zt σ H s) (hg:Gl X x) (hm:X.mg x=none) (hv:RN x=some u) (h:Q u s)
 (hn:x≠"__name__":=by decide) (hd:(x==("__debug__":Str))=false:=by decide):wpAny (Pc X.prog X.w) X.A (eval (.Name x pos) X.env) Q E s:=by
 obtain ⟨mb,h1,h2⟩:=I.mod.blt
 exact Rv I.ok.kind hg (Calls.loadGlobal_builtin (by rw[I.ok.glob];exact I.mod.glob.keeps I.bk) hm (by rw[I.ok.blt];exact h1.keeps I.bk) ((h2 x hn).trans hv) h) hd
theorem oA {x:Str}{v:V}{u:Value}{pos:Pos} (hg:Gl X x) (hm:X.mg x=some u) (r:RelV v u) (hd:(x==("__debug__":Str))=false:=by decide):PE X (.Name x pos) (tC v) :=
 fun _ _ _ H _ I h=>fE I hg hm ⟨v,H,I,r,h⟩ hd
theorem iK {x:Str}{v:V}{u:Value}{pos:Pos} (hg:Gl X x) (hm:X.mg x=none) (hv:RN x=some u) (r:RelV v u) (hn:x≠"__name__":=by decide) (hd:(x==("__debug__":Str))=false:=by decide):PE X (.Name x pos) (tC v) :=
 fun _ _ _ H _ I h=>ff I hg hm hv ⟨v,H,I,r,h⟩ hn hd
variable {a b:Rm}{ta tb:TE}{pos:Pos}
def PC (X:Cx) (op:CmpOp) (a b:Rm) (t:TE):Prop :=
 ∀ (zt:List (OR×Obj)) (s:OP) (σ:St) (H:Hp) (Q:VK),Inv X zt σ H s->t σ H Q →
  wpAny (Pc X.prog X.w) X.A (eval a X.env) (fun v s₁=>wpAny (Pc X.prog X.w) X.A (eval b X.env) (fun u s₂=>wpAny (Pc X.prog X.w) X.A (PU op v u) (EP X zt σ Q) X.xe s₂) X.xe s₁) X.xe s
def tB (t:TE):TT:=fun σ H Q=>t σ H fun x H1=>∃ c,x=.bl c/\Q c H1
theorem L5 {op:CmpOp}{t:TE} (h:PC X op a b t) (h1:To op b=false:=by first|exact nobehind _ (by decide) (by decide)|rfl):PT X (.Compare a [op] [b] pos) (tB t):=by
 intro zt s σ H Q I hw
 refine wpAny_isTrue_Compare1 (thn (h zt s σ H _ I hw) fun v s1 h1=>thn h1 fun u s2 h2=>thn h2 fun c s3 ⟨x,H1,I1,r1,q1⟩=>?_) h1
 obtain ⟨d,rfl,q⟩:=q1
 cases r1
 exact Qa ⟨H1,I1,q⟩
theorem EU {e:Rm}{t:TE} (h:PE X e t) (he:∀ whole,isTrue e X.env whole=(do let v ← whole;standAt e.pos;holding [v] (truthy v)):=by intro _;rfl):PT X e (tB t):=by
 intro zt s σ H Q I hw
 refine isTrue_plain (thn (h zt s σ H _ I hw) fun v s1 ⟨x,H1,I1,r1,q1⟩=>?_) (he _)
 obtain ⟨d,rfl,q⟩:=q1
 cases r1
 exact Qa ⟨H1,I1,q⟩
variable {tA tB':TT}{rest:List Rm}
def Im (t u:TT):TT:=fun σ H Q=>t σ H fun c H1=>if c=true then u σ H1 Q else Q false H1
def tOr (t u:TT):TT:=fun σ H Q=>t σ H fun c H1=>if c=true then Q true H1 else u σ H1 Q
def Io (t:TT):TT:=fun σ H Q=>t σ H fun c H1=>Q (!c) H1
theorem Bf (ha:PT X a tA):PW X (.BoolOp .And [a] pos) tA:=by
 intro wh zt s σ H Q I h
 refine isTrue_and (thn (ha zt s σ H Q I h) fun c s1 e=>?_)
 cases c with
 | true=>exact isTrue_and_nil e
 | false=>exact e
theorem EV (ha:PT X a tA):PW X (.BoolOp .Or [a] pos) tA:=by
 intro wh zt s σ H Q I h
 refine isTrue_or (thn (ha zt s σ H Q I h) fun c s1 e=>?_)
 cases c with
 | false=>exact isTrue_or_nil e
 | true=>exact e
theorem xu (ha:PT X a tA) (hb:PW X (.BoolOp .And (b :: rest) pos) tB'):PW X (.BoolOp .And (a :: b :: rest) pos) (Im tA tB'):=by
 intro wh zt s σ H Q I h
 refine isTrue_and (thn (ha zt s σ H _ I h) fun c s1 zq=>?_)
 obtain ⟨H1,I1,q1⟩:=zq
 cases c with
 | true=>exact hb wh zt s1 σ H1 Q I1 q1
 | false=>exact ⟨H1,I1,q1⟩
theorem D9 (ha:PT X a tA) (hb:PW X (.BoolOp .Or (b :: rest) pos) tB'):PW X (.BoolOp .Or (a :: b :: rest) pos) (tOr tA tB'):=by
 intro wh zt s σ H Q I h
 refine isTrue_or (thn (ha zt s σ H _ I h) fun c s1 zq=>?_)
 obtain ⟨H1,I1,q1⟩:=zq
 cases c with
 | true=>exact ⟨H1,I1,q1⟩
 | false=>exact hb wh zt s1 σ H1 Q I1 q1
theorem EW (ha:PT X a tA):PT X (.UnaryOp .Not a pos) (Io tA):=by
 intro zt s σ H Q I h
 exact isTrue_not (thn (ha zt s σ H (fun c H1=>Q (!c) H1) I h) fun c s' z=>by obtain ⟨H1,I1,q⟩:=z;exact ⟨H1,I1,q⟩)
def Ea (ta tb:TE):TE:=fun σ H Q=>ta σ H fun x H1=>∃ c,x=.bl c/\if c=true then tb σ H1 Q else Q (.bl false) H1
def Ip (ta tb:TE):TE:=fun σ H Q=>ta σ H fun x H1=>∃ c,x=.bl c/\if c=true then Q (.bl true) H1 else tb σ H1 Q
def Eb (ta:TE):TE:=fun σ H Q=>ta σ H fun x H1=>∃ c,x=.bl c/\Q (.bl (!c)) H1
theorem xw {op}{t:TE} (h:PE X a t):PE X (.BoolOp op [a] pos) t:=fun zt s σ H Q I hw=>BoolOp_one (h zt s σ H Q I hw)
theorem xy (ha:PE X a ta) (hb:PE X (.BoolOp .And (b :: rest) pos) tb):PE X (.BoolOp .And (a :: b :: rest) pos) (Ea ta tb):=by
 intro zt s σ H Q I h
 refine BoolOp_and (thn (ha zt s σ H _ I h) fun v s1 zq=>?_)
 obtain ⟨x,H1,I1,r1,q1⟩:=zq
 obtain ⟨c,rfl,q1⟩:=q1
 cases r1
 refine Qa ?_
 cases c with
 | true=>exact hb zt s1 σ H1 Q I1 q1
 | false=>exact ⟨.bl false,H1,I1,rfl,q1⟩
theorem Ec (ha:PE X a ta) (hb:PE X (.BoolOp .Or (b :: rest) pos) tb):PE X (.BoolOp .Or (a :: b :: rest) pos) (Ip ta tb):=by
 intro zt s σ H Q I h
 refine BoolOp_or (thn (ha zt s σ H _ I h) fun v s1 zq=>?_)
 obtain ⟨x,H1,I1,r1,q1⟩:=zq
 obtain ⟨c,rfl,q1⟩:=q1
 cases r1
 refine Qa ?_
 cases c with
 | false=>exact hb zt s1 σ H1 Q I1 q1
 | true=>exact ⟨.bl true,H1,I1,rfl,q1⟩
theorem EX (ha:PE X a ta):PE X (.UnaryOp .Not a pos) (Eb ta):=by
 intro zt s σ H Q I h
 refine UnaryOp_ (thn (ha zt s σ H _ I h) fun v s1 zq=>?_)
 obtain ⟨x,H1,I1,r1,q1⟩:=zq
 obtain ⟨c,rfl,q1⟩:=q1
 cases r1
 exact not_of (Qa ⟨.bl (!c),H1,I1,rfl,q1⟩)
def tIf (t:TT) (ta tb:TE):TE:=fun σ H Q=>t σ H fun c H1=>if c=true then ta σ H1 Q else tb σ H1 Q
theorem xA {c:Rm} (hc:PT X c tA) (ha:PE X a ta) (hb:PE X b tb):PE X (.IfExp c a b pos) (tIf tA ta tb):=by
 intro zt s σ H Q I h
 refine wpAny_IfExp (thn (hc zt s σ H _ I h) fun d s1 zq=>?_)
 obtain ⟨H1,I1,q1⟩:=zq
 cases d with
 | true=>exact ha zt s1 σ H1 Q I1 q1
 | false=>exact hb zt s1 σ H1 Q I1 q1
end
end L2
namespace L2
open PySem PySem.Spec PyProof.Rows
def SqL (K:OM) (H:Hp) (a:OR) (xs:List V):Prop :=
 Rd H a (.lst xs) ∨
  ∃ (o:Obj) (its:Array Value) (n:Nat),K.lookup a=some o/\o.cls=.type "list"/\o.dict=none/\o.data=.seq its n/\its.size<=sizeLine/\az xs its.toList
def SqT (K:OM) (H:Hp) (a:OR) (xs:List V):Prop :=
 Rd H a (.tup xs) ∨
  ∃ (o:Obj) (its:Array Value) (n:Nat),K.lookup a=some o/\o.cls=.type "tuple"/\o.data=.seq its n/\its.size<=sizeLine/\az xs its.toList
noncomputable def L6:Value->Option V
 | .none=>some .non
 | .bool b=>some (.bl b)
 | .int i _=>some (.int i)
 | .str x _=>some (.str x)
 | .bytes b _=>some (.byt b)
 | .float b _=>some (.flt b)
 | .ref a=>some (.ref a)
 | .type n=>some (.ty n)
 | _=>none
theorem RelV.abs {x:V}{u:Value} (r:RelV x u):L6 u=some x:=by
 cases x with
 | non=>cases r;rfl
 | bl _=>cases r;rfl
 | ref _=>cases r;rfl
 | ty _=>cases r;rfl
 | _=>obtain ⟨t,rfl⟩:=r;rfl
theorem RelV.inj {x y:V}{u:Value} (r:RelV x u) (q:RelV y u):x=y:=OV (r.abs.symm.trans q.abs)
theorem az.inj:∀ {xs ys:List V}{us:List Value},az xs us->az ys us->xs=ys
 | _,_,_,.nil,.nil=>rfl
 | _,_,_,.cons r t,.cons r' t'=>by rw[r.inj r',az.inj t t']
section
variable {X:Cx}{zt:List (OR×Obj)}{σ:St}{H:Hp}{s:OP}{a:OR}{xs ys:List V}
theorem Inv.list (I:Inv X zt σ H s) (h:SqL X.K H a xs):∃ its:List Value,az xs its/\PlainL s.heap a its.toArray/\xs.length<=sizeLine:=by
 rcases h with h|⟨o,its,n,hk,hc,hd,hs,hz,r⟩
 ·obtain ⟨z,its,n,r,e⟩:=h.ok I.hok
  exact ⟨its,r,⟨_,n,e,rfl,rfl,rfl⟩,z⟩
 ·refine ⟨its.toList,r,⟨o,n,I.kIn a o hk,hc,hd,by simpa using hs⟩,?_⟩
  have e:=r.length
  simp only[Sw] at e
  lia
theorem Inv.tuple (I:Inv X zt σ H s) (h:SqT X.K H a xs):∃ its:List Value,az xs its/\IsTup s.heap a its.toArray/\xs.length<=sizeLine:=by
 rcases h with h|⟨o,its,n,hk,hc,hs,hz,r⟩
 ·obtain ⟨z,its,r,p⟩:=h.ok I.hok
  exact ⟨its,r,p,z⟩
 ·refine ⟨its.toList,r,⟨o,I.kIn a o hk,hc,n,by simpa using hs⟩,?_⟩
  have e:=r.length
  simp only[Sw] at e
  lia
theorem Inv.ly (I:Inv X zt σ H s) (h:SqL X.K H a xs) (h':SqL X.K H a ys):xs=ys:=by
 obtain ⟨its,r,⟨o,n,e,_,_,d⟩,_⟩:=I.list h
 obtain ⟨its',r',⟨o',n',e',_,_,d'⟩,_⟩:=I.list h'
 rw[e] at e';cases e'
 rw[d] at d'
 injection d' with d1 _
 have:its=its':=by simpa using congrArg Up d1
 subst this
 exact r.inj r'
theorem Inv.vz (I:Inv X zt σ H s) (h:SqT X.K H a xs) (h':SqT X.K H a ys):xs=ys:=by
 obtain ⟨its,r,⟨o,e,_,n,d⟩,_⟩:=I.tuple h
 obtain ⟨its',r',⟨o',e',_,n',d'⟩,_⟩:=I.tuple h'
 rw[e] at e';cases e'
 rw[d] at d'
 injection d' with d1 _
 have:its=its':=by simpa using congrArg Up d1
 subst this
 exact r.inj r'
end
noncomputable abbrev Cx.mY (X:Cx) (E:Value->OP->Prop):Cx:={ X with xe:=E }
noncomputable abbrev Cx.nox (X:Cx):Cx:=X.mY fun _ _=>False
theorem Cx.Ok.mY {X:Cx} (ok:X.Ok) (E:Value->OP->Prop):(X.mY E).Ok :=
 ⟨ok.mod,ok.kind,ok.glob,ok.blt,ok.above,ok.inj,ok.has,ok.cab,ok.hd,ok.frames,ok.stk,ok.exf,ok.bs,ok.bsz,ok.noex,ok.exfs,ok.fW,ok.frf⟩
theorem Cx.Ok.gT {X:Cx}{E:Value->OP->Prop} (ok:(X.mY E).Ok):X.Ok :=
 ⟨ok.mod,ok.kind,ok.glob,ok.blt,ok.above,ok.inj,ok.has,ok.cab,ok.hd,ok.frames,ok.stk,ok.exf,ok.bs,ok.bsz,ok.noex,ok.exfs,ok.fW,ok.frf⟩
section
variable {X:Cx}{zt:List (OR×Obj)}{σ:St}{H:Hp}{s:OP}{E:Value->OP->Prop}
theorem Inv.mY (I:Inv X zt σ H s) (E:Value->OP->Prop):Inv (X.mY E) zt σ H s:=⟨I.ok.mY E,I.os,I.bare,I.base,I.loc,I.cell,I.free,I.freeC,I.pin,I.hok,I.len⟩
theorem Inv.gT (I:Inv (X.mY E) zt σ H s):Inv X zt σ H s:=⟨I.ok.gT,I.os,I.bare,I.base,I.loc,I.cell,I.free,I.freeC,I.pin,I.hok,I.len⟩
theorem SP.gT {D:Ends}{f:Flow}{s':OP} (h:SP (X.mY E) zt D f s'):SP X zt D f s':=by
 cases f with
 | ret u=>obtain ⟨v,σ',H',I,r,q⟩:=h;exact ⟨v,σ',H',I.gT,r,q⟩
 | _=>obtain ⟨σ',H',I,q⟩:=h;exact ⟨σ',H',I.gT,q⟩
theorem PSs.nox {st:List Sx}{t:TS} (h:PSs X.nox st t):PSs X st t:=fun zt s σ H D I hw =>
 wpAny_mono (h zt s σ H D (I.mY _) hw) (fun _ _ q=>q.gT) fun _ _ z=>Pk z
end
section
variable {X:Cx}{st:Sx}{rest:List Sx}{t u:TS}{e:Rm}{te:TE}{pos:Pos}
def Iq:TS:=fun D σ H=>D.nx σ H
def Ir (t u:TS):TS:=fun D σ H=>t { D with nx:=u D } σ H
theorem Bg:PSs X [] Iq:=fun _ _ σ H _ I h=>RB ⟨σ,H,I,h⟩
theorem pU (h1:PS X st t) (h2:PSs X rest u):PSs X (st :: rest) (Ir t u):=by
 intro zt s σ H D I h
 refine Rt (thn (h1 zt s σ H { D with nx:=u D } I h) fun f s1 q=>?_)
 cases f with
 | next =>
  obtain ⟨σ',H',I',q⟩:=q
  exact h2 zt s1 σ' H' D I' q
 | _=>exact q
theorem kT (h1:PS X st t):PSs X [st] t:=by
 intro zt s σ H D I h
 refine Rt (thn (h1 zt s σ H D I h) fun f s1 q=>?_)
 cases f with
 | next=>exact RB q
 | _=>exact q
def EY:TS:=fun D σ H=>D.bk σ H
def Iu:TS:=fun D σ H=>D.ct σ H
theorem xE:PS X (.Break pos) EY:=fun _ _ σ H _ I h=>wpAny_Break ⟨σ,H,I,h⟩
theorem pV:PS X (.Continue pos) Iu:=fun _ _ σ H _ I h=>wpAny_Continue ⟨σ,H,I,h⟩
theorem Inv.quiet {zt:List (OR×Obj)}{σ:St}{H:Hp}{s:OP} (I:Inv X zt σ H s):interactive X.env=false:=by simp[interactive,I.ok.kind]
def Iv (te:TE):TS:=fun D σ H=>te σ H fun _ H1=>D.nx σ H1
theorem Bh (he:PE X e te) (hs:RC e none pos.line X.env=pure false:=by rfl):PS X (.Expr e pos) (Iv te):=by
 intro zt s σ H D I h
 exact wpAny_Expr_any (thn (he zt s σ H _ I h) fun v s1 ⟨x,H1,I1,r1,q1⟩=>⟨σ,H1,I1,q1⟩) I.quiet hs
def L7 (te:TE):TS:=fun D σ H=>te σ H D.rt
theorem rG (he:PE X e te):PS X (.Return (some e) pos) (L7 te):=by
 intro zt s σ H D I h
 exact TF (thn (he zt s σ H _ I h) fun v s1 ⟨x,H1,I1,r1,q1⟩=>⟨x,σ,H1,I1,r1,q1⟩)
def L8 (c:TT) (t u:TS):TS:=fun D σ H=>c σ H fun b H1=>if b=true then t D σ H1 else u D σ H1
theorem Iw {c:Rm}{a b:List Sx}{tc:TT} (hc:PT X c tc) (ha:PSs X a t) (hb:PSs X b u):PS X (.If c a b pos) (L8 tc t u):=by
 intro zt s σ H D I h
 refine wpAny_If (thn (hc zt s σ H _ I h) fun d s1 zq=>?_)
 obtain ⟨H1,I1,q1⟩:=zq
 cases d with
 | true=>exact ha zt s1 σ H1 D I1 q1
 | false=>exact hb zt s1 σ H1 D I1 q1
end
abbrev TG:=V->St->Hp->(St->Hp->Prop)->Prop
abbrev TGs:=List V->St->Hp->(St->Hp->Prop)->Prop
def PG (X:Cx) (target:Rm) (t:TG):Prop :=
 ∀ (zt:List (OR×Obj)) (s:OP) (σ:St) (H:Hp) (v:V) (u:Value) (Q:St->Hp->Prop),Inv X zt σ H s->RelV v u->t v σ H Q →
  wpAny (Pc X.prog X.w) X.A (Ug target X.env u) (fun _ s'=>∃ σ' H',Inv X zt σ' H' s'/\Q σ' H') X.xe s
def PGs (X:Cx) (ts:List Rm) (t:TGs):Prop :=
 ∀ (zt:List (OR×Obj)) (s:OP) (σ:St) (H:Hp) (vs:List V) (us:List Value) (Q:St->Hp->Prop),Inv X zt σ H s->az vs us->t vs σ H Q →
  wpAny (Pc X.prog X.w) X.A (assignInOrder ((SM ts X.env).map (·.2)) us) (fun _ s'=>∃ σ' H',Inv X zt σ' H' s'/\Q σ' H') X.xe s
abbrev EZ:=V->V->V->Hp->(Hp->Prop)->Prop
def Iz (X:Cx) (t:EZ):Prop :=
 ∀ (zt:List (OR×Obj)) (s:OP) (σ:St) (H:Hp) (o i v:V) (ov iv u:Value) (Q:Hp->Prop),Inv X zt σ H s->RelV o ov->RelV i iv->RelV v u->t o i v H Q →
  wpAny (Pc X.prog X.w) X.A (setItem ov iv u) (fun _ s'=>∃ H',Inv X zt σ H' s'/\Q H') X.xe s
abbrev TIp:=V->V->Hp->VK->Prop
def PIp (X:Cx) (op:Rn) (t:TIp):Prop :=
 ∀ (zt:List (OR×Obj)) (s:OP) (σ:St) (H:Hp) (x y:V) (v u:Value) (Q:VK),Inv X zt σ H s->RelV x v->RelV y u->t x y H Q →
  wpAny (Pc X.prog X.w) X.A (inplaceOp op v u) (EP X zt σ Q) X.xe s
section
variable {X:Cx}{pos:Pos}
def pW (i:Nat):TG:=fun v σ H Q=>Q (σ.set i (some v)) H
theorem oB {i:Nat}{x:Str} (hN:X.N.Nodup) (hi:X.N[i]?=some x) (hx:Loc X.env.scope x) (hf:X.fn x=true\/X.env.scope.names.lookup x=some .local:=by first|exact .inl rfl|exact .inr rfl|assumption):PG X (.Name x pos) (pW i):=by
 intro zt s σ H v u Q I r h
 exact wpAny_assign_Name (lu I hN hi hx r (fun s' I'=>⟨_,H,I',h⟩) hf)
def E2:TGs:=fun vs σ H Q=>vs=[]/\Q σ H
def Ed (t:TG) (u:TGs):TGs:=fun vs σ H Q=>∃ v r,vs=v :: r/\t v σ H fun σ' H'=>u r σ' H' Q
theorem Bj:PGs X [] E2:=by
 intro zt s σ H vs us Q I r h
 obtain ⟨e,h⟩:=h
 subst e
 cases r
 exact assignInOrder_nil ⟨σ,H,I,h⟩
theorem pX {e:Rm}{es:List Rm}{t:TG}{u:TGs} (h1:PG X e t) (h2:PGs X es u)
 (hs:(SM (e :: es) X.env).map (·.2)=Ug e X.env :: (SM es X.env).map (·.2):=by rfl):PGs X (e :: es) (Ed t u):=by
 intro zt s σ H vs us Q I r h
 obtain ⟨v,vr,e1,h⟩:=h
 subst e1
 cases r with
 | cons r rr =>
  rw[hs]
  refine assignInOrder_cons (thn (h1 zt s σ H _ _ _ I r h) fun _ s1 zq=>?_)
  obtain ⟨σ1,H1,I1,q1⟩:=zq
  exact h2 zt s1 σ1 H1 _ _ Q I1 rr q1
def Ma (K:OM) (n:Nat) (t:TGs):TG:=fun v σ H Q=>∃ a xs,v=.ref a/\SqT K H a xs/\xs.length=n/\t xs σ H Q
theorem E3 {es:List Rm}{k:Nat}{t:TGs}{n:Nat} (hc:X.calm=true) (h:PGs X es t)
 (hn:(SM es X.env).length=n:=by rfl) (hst:(SM es X.env).findIdx? (·.1)=none:=by rfl):PG X (.Tuple es k pos) (Ma X.K n t):=by
 intro zt s σ H v u Q I r hw
 obtain ⟨a,xs,e1,hq,hl,hw⟩:=hw
 subst e1
 cases r
 obtain ⟨its,rv,ht,hz⟩:=I.tuple hq
 refine assign_Tuple_tuple (I.ok.hd hc) ht (by simp[hn,← hl,rv.length]) hst fun h' hx=>?_
 have I1:Inv X zt σ H { s with heap:=h' }:=I.kept (t':=s.toks) fun b o e=>hx b o (Py (O2 e)) e
 exact h zt _ σ H xs _ Q I1 (by simpa using rv) hw
def IA (to ti:TE) (t:EZ):TG:=fun v σ H Q=>to σ H fun o H1=>ti σ H1 fun i H2=>t o i v H2 fun H3=>Q σ H3
theorem E4 {o i:Rm}{to ti:TE}{t:EZ} (ho:PE X o to) (hi:PE X i ti) (hs:Iz X t)
 (ha:∀ v,Ug (.Subscript o i pos) X.env v=(do
  let ov ← holding [v] (eval o X.env)
  let iv ← holding [v,ov] (eval i X.env)
  standAt pos
  holding [v,ov,iv] (setItem ov iv v)
  release [v,ov,iv] []):=by intro _;rfl):PG X (.Subscript o i pos) (IA to ti t):=by
 intro zt s σ H v u Q I r h
 rw[ha]
 refine OY (Q9 (thn (ho zt s σ H _ I h) fun ov s1 zq=>?_))
 obtain ⟨x,H1,I1,r1,q1⟩:=zq
 refine OY (Q9 (thn (hi zt s1 σ H1 _ I1 q1) fun iv s2 zq=>?_))
 obtain ⟨y,H2,I2,r2,q2⟩:=zq
 refine OY (UM (OY (Q9 (thn (hs zt s2 σ H2 x y v ov iv u _ I2 r1 r2 r q2) fun _ s3 zq=>?_))))
 obtain ⟨H3,I3,q3⟩:=zq
 exact wpAny_release ⟨σ,H3,I3,q3⟩
def xF (te:TE) (g:TG):TS:=fun D σ H=>te σ H fun x H1=>g x σ H1 D.nx
theorem E5 {tg e:Rm}{te:TE}{g:TG} (he:PE X e te) (hg:PG X tg g) (hs:swapsWithSole [tg] e pos.line X.env=pure false:=by rfl) (hw:swappedStores [tg] e X.env=pure none:=by rfl)
 (h1:(SM [tg] X.env).map (·.2)=[Ug tg X.env]:=by rfl):PS X (.Assign [tg] e pos) (xF te g):=by
 intro zt s σ H D I h
 refine wpAny_Assign_stores (thn (he zt s σ H _ I h) fun v s1 ⟨x,H1,I1,r1,q1⟩=>?_) hs hw
 rw[h1]
 exact thn (hg zt s1 σ H1 x v _ I1 r1 q1) fun _ s2 q=>q
theorem rH {i:Nat}{x:Str}{e:Rm}{te:TE}{pos':Pos} (hN:X.N.Nodup) (hi:X.N[i]?=some x) (hx:Loc X.env.scope x) (he:PE X e te) (hs:RC e (some (.Name x pos')) pos.line X.env=pure false:=by rfl) (hf:X.fn x=true\/X.env.scope.names.lookup x=some .local:=by first|exact .inl rfl|exact .inr rfl|assumption) :
 PS X (.Assign [.Name x pos'] e pos) (xF te (pW i)):=by
 intro zt s σ H D I h
 refine wpAny_Assign_Name (thn (he zt s σ H _ I h) fun v s1 ⟨y,H1,I1,r1,q1⟩=>?_) hs
 exact lu I1 hN hi hx r1 (fun s2 I2=>⟨_,H1,I2,q1⟩) hf
def IB (i:Nat) (te:TE) (ti:TIp):TS:=fun D σ H=>∃ x,σ[i]?=some (some x)/\te σ H fun y H1=>ti x y H1 fun z H2=>D.nx (σ.set i (some z)) H2
theorem E6 {i:Nat}{x:Str}{e:Rm}{te:TE}{op:Rn}{ti:TIp}{pos':Pos} (hN:X.N.Nodup) (hi:X.N[i]?=some x) (hx:Loc X.env.scope x) (he:PE X e te) (ho:PIp X op ti) (hf:X.fn x=true\/X.env.scope.names.lookup x=some .local:=by first|exact .inl rfl|exact .inr rfl|assumption) :
 PS X (.AugAssign (.Name x pos') op e pos) (IB i te ti):=by
 intro zt s σ H D I h
 obtain ⟨v,e1,h⟩:=h
 obtain ⟨m,hn,hl⟩:=I.loc
 have vis:Vis X.env.scope x:=by rcases hx with k|k;exact .inl k;exact .inr (.inl k)
 obtain ⟨u,r,l⟩:=hl i x v hi e1 vis
 refine wpAny_AugAssign_Name ?_
 have go:wpAny (Pc X.prog X.w) X.A (eval e X.env) (fun w s₂=>wpAny (Pc X.prog X.w) X.A (inplaceOp op u w) (fun r s₃=>wpAny (Pc X.prog X.w) X.A (storeName X.env x r) (fun _=>SP X zt D .next) X.xe s₃) X.xe s₂) X.xe s:=by
  refine thn (he zt s σ H _ I h) fun w s1 zq=>?_
  obtain ⟨y,H1,I1,r1,q1⟩:=zq
  refine thn (ho zt s1 σ H1 v y u w _ I1 r r1 q1) fun z s2 zq=>?_
  obtain ⟨zv,H2,I2,r2,q2⟩:=zq
  exact lu I2 hN hi hx r2 (fun s3 I3=>⟨_,H2,I3,q2⟩) hf
 rcases l with ⟨hk,hm⟩|⟨hk,c,hc,hcell⟩
 ·exact wpAny_loadName_local I.ok.kind hk hn hm go
 ·rcases hk with hk|hk
  ·exact wpAny_loadName_cell I.ok.kind hk hc hcell go
  ·rcases hx with k|k
   ·have:X.env.scope.names.lookup x=some .free:=hk
    rw[k] at this;cases this
   ·have:X.env.scope.names.lookup x=some .free:=hk
    rw[k] at this;cases this
end
section
variable {X:Cx}{pos:Pos}
def xG (c:TT) (tb:TS):TS:=fun D σ H=>∃ W:Nat->St->Hp->Prop,(∃ m,W m σ H)/\∀ m σ H,W m σ H →
 c σ H fun b H1=>if b=true then ∃ N:St->Hp->Prop,(∀ σ' H',N σ' H'->∃ m',m' < m/\W m' σ' H')/\tb { D with nx:=N,ct:=N,bk:=D.nx } σ H1 else D.nx σ H1
theorem xH {c:Rm}{body:List Sx}{tc:TT}{tb:TS} (hp:Uk (Pc X.prog X.w) X.A X.env X.xe) (hc:PT X c tc) (hb:PSs X body tb):PS X (.While c body [] pos) (xG tc tb):=by
 intro zt s σ H D I h
 obtain ⟨W,⟨m0,w0⟩,turn⟩:=h
 refine wpAny_While (codeAny_whileLoop (fun n s'=>∃ σ' H',Inv X zt σ' H' s'/\W n σ' H') ?_ m0 ⟨σ,H,I,w0⟩)
 rintro n s1 ⟨σ1,H1,I1,w1⟩
 refine QO hp (thn (hc zt s1 σ1 H1 _ I1 (turn n σ1 H1 w1)) fun b s2 zq=>?_)
 obtain ⟨H2,I2,q2⟩:=zq
 cases b with
 | true =>
  obtain ⟨N,hN,q2⟩:=q2
  rw[if_pos rfl]
  refine QO hp (thn (hb zt s2 σ1 H2 _ I2 q2) fun f s3 q3=>?_)
  cases f with
  | next =>
   obtain ⟨σ3,H3,I3,n3⟩:=q3
   obtain ⟨m',hm,w3⟩:=hN σ3 H3 n3
   exact ⟨m',hm,σ3,H3,I3,w3⟩
  | cont =>
   obtain ⟨σ3,H3,I3,n3⟩:=q3
   obtain ⟨m',hm,w3⟩:=hN σ3 H3 n3
   exact ⟨m',hm,σ3,H3,I3,w3⟩
  | _=>exact q3
 | false =>
  rw[if_neg Qc]
  exact RB ⟨σ1,H2,I2,q2⟩
end
structure It where
 go:Nat->Hp->Prop
 yld:Nat->Hp->V->Hp->Prop
 stop:Nat->Hp->Prop
def mZ (X:Cx) (zt:List (OR×Obj)) (H:Hp) (b:OR):Prop :=
 H b=none/\b≠X.env.locals/\b∉X.fs/\(b∈X.ex\/X.s₀.heap.objs.size<=b)/\(∀ x c,X.env.cells.lookup x=some c->c≠b)/\∀ p∈X.pn++zt,p.1≠b
theorem Inv.xJ {X:Cx}{zt:List (OR×Obj)}{σ:St}{H H':Hp}{s:OP}{b:OR} (I:Inv X zt σ H s) (hb:s.heap.objs.size<=b) (hn:H' b=none):mZ X zt H' b:=by
 refine ⟨hn,Ry (Pn I.lt hb),I.L3 hb,.inr (PL I.sz hb),fun x c e z=>?_,fun p hp z=>?_⟩
 ·obtain ⟨v,q⟩:=I.cell x c e
  exact absurd (Pn q.lt (by rw[z];exact hb)) (Qh _)
 ·exact absurd (Pn (O2 (I.pin p hp).1) (by rw[z];exact hb)) (Qh _)
structure Turn (P:OU) (w:Pa) (K:OM) (tg:Rm) (J:It) (fp:List OR) (it:OR) (tn:Nat->Heap->Prop):Prop where
 mem:it∈fp
 obj:∀ i h,tn i h->∀ b∈fp,∃ o,h.get? b=some o/\∀ v,o.data≠.cell v
 keep:∀ i h h',tn i h->(∀ b∈fp,∀ o,h.get? b=some o->h'.get? b=some o)->tn i h'
 item:∀ (X:Cx),X.prog=P->X.w=w->X.K=K->X.calm=true->∀ (i:Nat) (zt:List (OR×Obj)) (s:OP) (σ:St) (H:Hp) (E:Value->OP->Prop),Inv X zt σ H s->(∀ b∈fp,mZ X zt H b)->tn i s.heap->J.go i H →
  wpAny (Pc P w) X.A (pyNext (.ref it)) (fun r s1=>∃ u,r=some u ∧
   wpAny (Pc P w) X.A (SC tg (.ref it) u) (fun _ s2=>∃ x H',Inv X zt σ H' s2/\RelV x u/\J.yld i H x H'/\tn (i+1) s2.heap/\∀ b∈fp,H' b=none) E s1) E s
 done:∀ (X:Cx),X.prog=P->X.w=w->X.K=K->X.calm=true->∀ (i:Nat) (zt:List (OR×Obj)) (s:OP) (σ:St) (H:Hp) (E:Value->OP->Prop),Inv X zt σ H s->(∀ b∈fp,mZ X zt H b)->tn i s.heap->J.stop i H →
  wpAny (Pc P w) X.A (pyNext (.ref it)) (fun r s1=>r=none/\Inv X zt σ H s1) E s
 self:∀ (A:PF) (i:Nat) (s:OP) (Q:Value->OP->Prop) (E:Value->OP->Prop),tn i s.heap->Q (.ref it) s->wpAny (Pc P w) A (pyIter (.ref it)) Q E s
abbrev TI:=St->Hp->(It->Hp->Prop)->Prop
def PIE (X:Cx) (zt:List (OR×Obj)) (σ:St) (tg:Rm) (R:It->Hp->Prop) (itv:Value) (s2:OP):Prop :=
 ∃ (it:OR) (fp:List OR) (tn:Nat->Heap->Prop) (J:It) (H':Hp),itv=.ref it/\Inv X zt σ H' s2/\Turn X.prog X.w X.K tg J fp it tn/\tn 0 s2.heap/\(∀ b∈fp,mZ X zt H' b)/\R J H'
def PI (X:Cx) (tg iter:Rm) (wi:TI):Prop :=
 ∀ (zt:List (OR×Obj)) (s:OP) (σ:St) (H:Hp) (R:It->Hp->Prop),Inv X zt σ H s->wi σ H R →
  wpAny (Pc X.prog X.w) X.A (eval iter X.env) (fun v s1=>wpAny (Pc X.prog X.w) X.A (pyIter v) (PIE X zt σ tg R) X.xe s1) X.xe s
theorem tM {M:Model}{A:PF}{E:Value->OP->Prop}{s:OP}{tg:Rm}{it:OR}{u:Value}{o:Obj}{n:String}{vs:Array Value}{Q:Unit->OP->Prop} (ho:s.heap.get? it=some o) (hc:o.cls=.type n) (hd:o.data=.fields vs)
 (hn:["enumerate","zip","dict_itemiterator","dict_reverseitemiterator","odict_iterator","itertools.zip_longest","itertools.pairwise"].contains n=false) (hQ:Q () s):wpAny M A (SC tg (.ref it) u) Q E s:=by
 unfold SC
 cases tg<;>first
  | exact wpAny_pure hQ
  | (cases u<;>first
   | exact wpAny_pure hQ
   | (refine OY (wpAny_load ho ?_)
      rw[hc,hd]
      show wpAny M A (if (["enumerate","zip","dict_itemiterator","dict_reverseitemiterator","odict_iterator","itertools.zip_longest","itertools.pairwise"].contains n&&vs[0]?==some (RE _))=true then _ else _) Q E s
      rw[if_neg (by intro h;rw[hn,Bool.false_and] at h;cases h)]
      exact wpAny_pure hQ))
noncomputable def Itl (K:OM) (a:OR):It :=
 ⟨fun i H=>∃ xs x,SqL K H a xs/\xs[i]?=some x,fun i H x H'=>H'=H/\∀ xs,SqL K H a xs->xs[i]?=some x,fun i H=>∃ xs,SqL K H a xs/\xs.length<=i⟩
noncomputable def Itt (K:OM) (a:OR):It :=
 ⟨fun i H=>∃ xs x,SqT K H a xs/\xs[i]?=some x,fun i H x H'=>H'=H/\∀ xs,SqT K H a xs->xs[i]?=some x,fun i H=>∃ xs,SqT K H a xs/\xs.length<=i⟩
noncomputable def Itr (lo:Int) (n:Nat):It:=⟨fun i _=>i < n,fun i H x H'=>H'=H/\x=.int (lo+i),fun i _=>n<=i⟩
theorem vA {P:OU}{w:Pa}{K:OM}{tg:Rm} (a it:OR):Turn P w K tg (Itl K a) [it] it (fun i h=>h.IsListIter it a i) where
 mem:=by simp
 obj:=fun i h st b hb=>by
  have e:b=it:=by simpa using hb
  subst e
  obtain ⟨o,e,c,d⟩:=st
  exact ⟨o,e,fun v z=>by rw[d] at z;cases z⟩
 keep:=fun i h h' st k=>st.at fun o e=>k it (by simp) o e
 item:=by
  intro X hP hw hK hc i zt s σ H E I hf st hg
  subst hP hw hK
  obtain ⟨xs,x,hq,hx⟩:=hg
  obtain ⟨its,rv,p,hz⟩:=I.list hq
  obtain ⟨u,hu,ru⟩:=rv.get hx
  obtain ⟨f0,f1,f2,f3,f4,f5⟩:=hf it (by simp)
  refine wpAny_pyNext_list_item st p.isList (x:=u) (by simpa using hu) fun h' st' sb=>?_
  have I1:Inv X zt σ H { s with heap:=h' }:=I.turned (t':=s.toks) (fun b o hb e=>(sb.2 b hb).trans e) f0 f1 f3 f4 f5
  obtain ⟨o,e,c,d⟩:=id st'
  exact ⟨u,rfl,tM (s:={ s with heap:=h' }) e c d (by decide) ⟨x,H,I1,ru,⟨rfl,fun ys hy=>by rw[I.ly hy hq];exact hx⟩,st',fun b hb=>(hf b hb).1⟩⟩
 done:=by
  intro X hP hw hK hc i zt s σ H E I hf st hg
  subst hP hw hK
  obtain ⟨xs,hq,hx⟩:=hg
  obtain ⟨its,rv,p,hz⟩:=I.list hq
  obtain ⟨f0,f1,f2,f3,f4,f5⟩:=hf it (by simp)
  have hl:=rv.length
  exact wpAny_pyNext_list_end (I.ok.hd hc) st p.isList (by simp;lia) fun h' eb=>⟨rfl,I.turned (t':=s.toks) (fun b o hb e=>eb b o hb e) f0 f1 f3 f4 f5⟩
 self:=fun _ _ _ _ _ st h=>wpAny_pyIter_listiter st h
theorem rJ {P:OU}{w:Pa}{K:OM}{tg:Rm} (a it:OR):Turn P w K tg (Itt K a) [it] it (fun i h=>h.IsTupleIter it a i) where
 mem:=by simp
 obj:=fun i h st b hb=>by
  have e:b=it:=by simpa using hb
  subst e
  obtain ⟨o,e,c,d⟩:=st
  exact ⟨o,e,fun v z=>by rw[d] at z;cases z⟩
 keep:=fun i h h' st k=>st.at fun o e=>k it (by simp) o e
 item:=by
  intro X hP hw hK hc i zt s σ H E I hf st hg
  subst hP hw hK
  obtain ⟨xs,x,hq,hx⟩:=hg
  obtain ⟨its,rv,p,hz⟩:=I.tuple hq
  obtain ⟨u,hu,ru⟩:=rv.get hx
  obtain ⟨f0,f1,f2,f3,f4,f5⟩:=hf it (by simp)
  refine wpAny_pyNext_tuple_item st (show s.heap.IsTuple a its.toArray from p) (x:=u) (by simpa using hu) fun h' st' sb=>?_
  have I1:Inv X zt σ H { s with heap:=h' }:=I.turned (t':=s.toks) (fun b o hb e=>(sb.2 b hb).trans e) f0 f1 f3 f4 f5
  obtain ⟨o,e,c,d⟩:=id st'
  exact ⟨u,rfl,tM (s:={ s with heap:=h' }) e c d (by decide) ⟨x,H,I1,ru,⟨rfl,fun ys hy=>by rw[I.vz hy hq];exact hx⟩,st',fun b hb=>(hf b hb).1⟩⟩
 done:=by
  intro X hP hw hK hc i zt s σ H E I hf st hg
  subst hP hw hK
  obtain ⟨xs,hq,hx⟩:=hg
  obtain ⟨its,rv,p,hz⟩:=I.tuple hq
  obtain ⟨f0,f1,f2,f3,f4,f5⟩:=hf it (by simp)
  have hl:=rv.length
  exact wpAny_pyNext_tuple_end (I.ok.hd hc) st (show s.heap.IsTuple a its.toArray from p) (by simp;lia) fun h' eb=>⟨rfl,I.turned (t':=s.toks) (fun b o hb e=>eb b o hb e) f0 f1 f3 f4 f5⟩
 self:=fun _ _ _ _ _ st h=>wpAny_pyIter_tupleiter st h
theorem rK {P:OU}{w:Pa}{K:OM}{tg:Rm} (it:OR) (lo:Int) (n:Nat):Turn P w K tg (Itr lo n) [it] it (fun i h=>IsRangeIter h it (lo+(i:Nat)*1) ((n:Int) - (i:Nat)) 1) where
 mem:=by simp
 obj:=fun i h st b hb=>by
  have e:b=it:=by simpa using hb
  subst e
  exact ⟨_,st,fun v z=>by
   have z':Data.fields _=Data.cell v:=z
   cases z'⟩
 keep:=fun i h h' st k=>k it (by simp) _ st
 item:=by
  intro X hP hw hK hc i zt s σ H E I hf st hg
  subst hP hw hK
  obtain ⟨f0,f1,f2,f3,f4,f5⟩:=hf it (by simp)
  have W:=Walks.range (prog:=X.prog) (w:=X.w) (I.ok.hd hc) it lo 1 n
  refine W.item i s _ _ hg st fun v h' tk hv st' kk=>?_
  obtain ⟨t,rfl⟩:=hv
  have I1:Inv X zt σ H { s with heap:=h',toks:=tk }:=I.turned (fun b o hb e=>kk b o (by simpa using hb) e) f0 f1 f3 f4 f5
  refine ⟨_,rfl,tM (s:={ s with heap:=h',toks:=tk }) (n:="range_iterator") st' rfl rfl (by decide) ⟨.int (lo+i),H,I1,⟨t,?_⟩,⟨rfl,rfl⟩,st',fun b hb=>(hf b hb).1⟩⟩
  rw[Int.mul_one]
 done:=by
  intro X hP hw hK hc i zt s σ H E I hf st hg
  subst hP hw hK
  obtain ⟨f0,f1,f2,f3,f4,f5⟩:=hf it (by simp)
  exact wpAny_pyNext_range_end (I.ok.hd hc) st (by have:n<=i:=hg;lia) fun h' eb=>⟨rfl,I.turned (t':=s.toks) (fun b o hb e=>eb b o hb e) f0 f1 f3 f4 f5⟩
 self:=fun _ _ _ _ _ st h=>wpAny_pyIter_rangeiter st h
end L2
namespace L2
open PySem PySem.Spec PyProof.Rows
section
variable {X:Cx}{tg:Rm}
def IC (K:OM) (tl:TE):TI:=fun σ H R=>tl σ H fun x H1=>∃ a,x=.ref a/\(∃ xs,SqL K H1 a xs)/\R (Itl K a) H1
def Mb (K:OM) (tl:TE):TI:=fun σ H R=>tl σ H fun x H1=>∃ a,x=.ref a/\(∃ xs,SqT K H1 a xs)/\R (Itt K a) H1
theorem tN {l:Rm}{tl:TE} (hl:PE X l tl):PI X tg l (IC X.K tl):=by
 intro zt s σ H R I h
 refine thn (hl zt s σ H _ I h) fun v s1 zq=>?_
 obtain ⟨x,H1,I1,r1,q1⟩:=zq
 obtain ⟨a,e,⟨xs,hq⟩,q⟩:=q1
 subst e
 cases r1
 obtain ⟨its,rv,p,hz⟩:=I1.list hq
 refine wpAny_pyIter_list p.isList ?_
 refine ⟨s1.heap.objs.size,[s1.heap.objs.size],_,_,H1,rfl,I1.kept (t':=s1.toks) fun b o e=>OS _ e,vA a _,⟨_,Pf _ rfl,rfl,rfl⟩,fun b hb=>?_,q⟩
 have e:b=s1.heap.objs.size:=by simpa using hb
 subst e
 exact I1.xJ (OX _) (I1.hok.fresh (OX _))
theorem E7 {l:Rm}{tl:TE} (hl:PE X l tl):PI X tg l (Mb X.K tl):=by
 intro zt s σ H R I h
 refine thn (hl zt s σ H _ I h) fun v s1 zq=>?_
 obtain ⟨x,H1,I1,r1,q1⟩:=zq
 obtain ⟨a,e,⟨xs,hq⟩,q⟩:=q1
 subst e
 cases r1
 obtain ⟨its,rv,p,hz⟩:=I1.tuple hq
 refine wpAny_pyIter_tuple (show s1.heap.IsTuple a its.toArray from p) ?_
 refine ⟨s1.heap.objs.size,[s1.heap.objs.size],_,_,H1,rfl,I1.kept (t':=s1.toks) fun b o e=>OS _ e,rJ a _,⟨_,Pf _ rfl,rfl,rfl⟩,fun b hb=>?_,q⟩
 have e:b=s1.heap.objs.size:=by simpa using hb
 subst e
 exact I1.xJ (OX _) (I1.hok.fresh (OX _))
theorem pY {zt:List (OR×Obj)}{σ:St}{H:Hp}{s:OP}{R:It->Hp->Prop}{E:Value->OP->Prop}{lo hi:Int}{t u v:Tok}{tk:Nat} (I:Inv X zt σ H s) (h1:-(2 ^ 62)<=lo) (h2:lo < 2 ^ 62) (h3:-(2 ^ 62)<=hi) (h4:hi < 2 ^ 62)
 (q:R (Itr lo (hi - lo).toNat) H):wpAny (Pc X.prog X.w) X.A (pyIter (.ref s.heap.objs.size)) (PIE X zt σ tg R) E { s with heap:=s.heap.push { cls:=.type "range",data:=.fields #[.int lo t,.int hi u,.int 1 v] },toks:=tk }:=by
 refine wpAny_pyIter_range (Um ..) (small_one h1 h2 h3 h4) ?_
 have I1:Inv X zt σ H { s with heap:=s.heap.push { cls:=.type "range",data:=.fields #[.int lo t,.int hi u,.int 1 v] },toks:=tk }:=I.kept fun b o e=>OS _ e
 refine ⟨(s.heap.push { cls:=.type "range",data:=.fields #[.int lo t,.int hi u,.int 1 v] }).objs.size,[(s.heap.push { cls:=.type "range",data:=.fields #[.int lo t,.int hi u,.int 1 v] }).objs.size],_,_,H,rfl,
  I1.kept (t':=tk) fun b o e=>OS _ e,rK _ lo (hi - lo).toNat,?_,fun b hb=>?_,q⟩
 ·have e1:lo+((0:Nat):Int)*1=lo:=by simp
  have e2:(((hi - lo).toNat:Nat):Int) - ((0:Nat):Int)=Builtin.Range.rangeSize lo hi 1:=by rw[UQ];split<;>lia
  show IsRangeIter _ _ (lo+((0:Nat):Int)*1) ((((hi - lo).toNat:Nat):Int) - ((0:Nat):Int)) 1
  rw[e1,e2]
  exact Pf _ rfl
 ·have e:b=(s.heap.push { cls:=.type "range",data:=.fields #[.int lo t,.int hi u,.int 1 v] }).objs.size:=by simpa using hb
  subst e
  exact I1.xJ (OX _) (I1.hok.fresh (OX _))
def ID (ta:TA):TI:=fun σ H R=>ta σ H fun vs H1=>∃ j:Int,vs=[.int j]/\-(2 ^ 62)<=j/\j < 2 ^ 62/\R (Itr 0 j.toNat) H1
def IE (ta:TA):TI:=fun σ H R=>ta σ H fun vs H1=>∃ i j:Int,vs=[.int i,.int j]/\(-(2 ^ 62)<=i/\i < 2 ^ 62/\-(2 ^ 62)<=j/\j < 2 ^ 62)/\R (Itr i (j - i).toNat) H1
theorem vB {a:Rm}{ta:TA}{p pos:Pos} (hg:Gl X "range") (hm:X.mg "range"=none) (ha:PA X [a] ta) (hs:Pe [a] X.env=[(false,eval a X.env)]:=by rfl):PI X tg (.Call (.Name "range" p) [a] [] pos) (ID ta):=by
 intro zt s σ H R I h
 refine Call_ (ff I hg hm boot_range (Pw (thn (ha pos zt s σ H _ I h) fun us s1 ⟨vs,H1,I1,r1,q1⟩=>?_) hs rfl))
 obtain ⟨j,e,q1,q2,q⟩:=q1
 subst e
 cases r1 with
 | cons r rr =>
  cases rr
  obtain ⟨t,rfl⟩:=r
  exact call_range_1 (pY I1 (by lia) (by lia) q1 q2 (by simpa using q))
theorem vC {a b:Rm}{ta:TA}{p pos:Pos} (hg:Gl X "range") (hm:X.mg "range"=none) (ha:PA X [a,b] ta) (hs:Pe [a,b] X.env=[(false,eval a X.env),(false,eval b X.env)]:=by rfl) (hs2:Pe [b] X.env=[(false,eval b X.env)]:=by rfl) :
 PI X tg (.Call (.Name "range" p) [a,b] [] pos) (IE ta):=by
 intro zt s σ H R I h
 refine Call_ (ff I hg hm boot_range (Pw (thn (ha pos zt s σ H _ I h) fun us s1 ⟨vs,H1,I1,r1,q1⟩=>?_) (by rw[hs,hs2]) (by rw[hs2];rfl)))
 obtain ⟨i,j,e,⟨q1,q2,q3,q4⟩,q⟩:=q1
 subst e
 cases r1 with
 | cons r rr =>
  cases rr with
  | cons r' rr =>
   cases rr
   obtain ⟨t,rfl⟩:=r
   obtain ⟨t',rfl⟩:=r'
   exact call_range_2 (pY I1 q1 q2 q3 q4 q)
def IF (wi:TI) (g:TG) (tb:TS):TS:=fun D σ H=>wi σ H fun J H1=>∃ W:Nat->Nat->St->Hp->Prop,(∃ m,W 0 m σ H1)/\∀ i m σ H,W i m σ H →
 (J.stop i H/\D.nx σ H)\/(J.go i H/\∃ N:St->Hp->Prop,(∀ σ' H',N σ' H'->∃ m',m' < m/\W (i+1) m' σ' H')/\∀ x H',J.yld i H x H'->g x σ H' fun σ2 H2=>tb { D with nx:=N,ct:=N,bk:=D.nx } σ2 H2)
noncomputable def jR (fp:List OR) (h:Heap):List (OR×Obj):=fp.filterMap fun b=>(h.get? b).map fun o=>(b,o)
theorem gx {fp:List OR}{h:Heap}{b:OR}{o:Obj} (hb:b∈fp) (e:h.get? b=some o):(b,o)∈jR fp h:=List.mem_filterMap.mpr ⟨b,hb,by rw[e];rfl⟩
theorem vD {fp:List OR}{h:Heap}{p:OR×Obj} (hp:p∈jR fp h):p.1∈fp/\h.get? p.1=some p.2:=by
 obtain ⟨b,hb,e⟩:=List.mem_filterMap.mp hp
 cases q:h.get? b with
 | none=>rw[q] at e;cases e
 | some o =>
  rw[q] at e
  have e':(b,o)=p:=OV e
  subst e'
  exact ⟨hb,q⟩
theorem Inv.pinned {zt:List (OR×Obj)}{σ:St}{H:Hp}{s:OP}{fp:List OR} (I:Inv X zt σ H s) (hf:∀ b∈fp,mZ X zt H b) (ho:∀ b∈fp,∃ o,s.heap.get? b=some o/\∀ v,o.data≠.cell v):Inv X (zt++jR fp s.heap) σ H s :=
 I.kR fun p hp=>(List.mem_append.mp hp).elim (fun z=>I.pin p (PJ _ z)) fun z=>by
  obtain ⟨hb,e⟩:=vD z
  obtain ⟨f0,f1,f2,_⟩:=hf p.1 hb
  obtain ⟨o,e',d⟩:=ho p.1 hb
  rw[e] at e';cases e'
  exact ⟨e,f0,f1,f2,d⟩
theorem Inv.jo {zt pl:List (OR×Obj)}{σ:St}{H:Hp}{s:OP} (I:Inv X (zt++pl) σ H s):Inv X zt σ H s:=I.kR fun p hp=>I.pin p (PJ _ (Qt _ hp))
theorem E8 {iter:Rm}{body:List Sx}{wi:TI}{g:TG}{tb:TS}{pos:Pos} (hp:Uk (Pc X.prog X.w) X.A X.env X.xe) (hc:X.calm=true) (hi:PI X tg iter wi) (hg:PG X tg g) (hb:PSs X body tb)
 (hs:∀ x,foldedSetIterable iter X.env x=pure x:=by intro _;rfl):PS X (.For tg iter body [] pos) (IF wi g tb):=by
 intro zt s σ H D I h
 refine wpAny_For (thn (hi zt s σ H _ I h) fun v s1 h1=>thn h1 fun itv s2 h2=>?_) hs
 obtain ⟨it,fp,tn,J,H2,e,I2,T,st2,f2,W,⟨m0,w0⟩,turn⟩:=h2
 subst e
 have stat:∀ {H':Hp},(∀ b∈fp,H' b=none)->∀ b∈fp,mZ X zt H' b:=fun hn b hb=>⟨hn b hb,(f2 b hb).2⟩
 refine codeAny_forLoop_any (fun n s'=>∃ i σ' H',Inv X zt σ' H' s'/\tn i s'.heap/\(∀ b∈fp,H' b=none)/\W i n σ' H') ?_ m0 ⟨0,σ,H2,I2,st2,fun b hb=>(f2 b hb).1,w0⟩
 rintro n s3 ⟨i,σ3,H3,I3,st3,fr3,w3⟩
 rcases turn i n σ3 H3 w3 with ⟨stop,qn⟩|⟨go,N,hN,step⟩
 ·refine QO hp (thn (T.done X rfl rfl rfl hc i zt s3 σ3 H3 X.xe I3 (stat fr3) st3 stop) fun r s4 zq=>?_)
  obtain ⟨hr,I4⟩:=zq
  subst hr
  exact RB ⟨σ3,H3,I4,qn⟩
 ·refine QO hp (thn (T.item X rfl rfl rfl hc i zt s3 σ3 H3 X.xe I3 (stat fr3) st3 go) fun r s4 zq=>?_)
  obtain ⟨u,hr,h4⟩:=zq
  subst hr
  refine QO hp (thn h4 fun _ s5 zq=>?_)
  obtain ⟨x,H5,I5,r5,y5,st5,fr5⟩:=zq
  have I5':=I5.pinned (stat fr5) (T.obj _ _ st5)
  refine QO hp (thn (hg _ s5 σ3 H5 x u _ I5' r5 (step x H5 y5)) fun _ s6 zq=>?_)
  obtain ⟨σ6,H6,I6,q6⟩:=zq
  refine QO hp (thn (hb _ s6 σ6 H6 _ I6 q6) fun f s7 q7=>?_)
  have again:∀ {σ7:St}{H7:Hp},Inv X (zt++jR fp s5.heap) σ7 H7 s7->N σ7 H7->∃ m,m < n/\∃ i σ' H',Inv X zt σ' H' s7/\tn i s7.heap/\(∀ b∈fp,H' b=none)/\W i m σ' H':=fun {σ7 H7} I7 n7=>by
   obtain ⟨m',hm,w7⟩:=hN σ7 H7 n7
   refine ⟨m',hm,i+1,σ7,H7,I7.jo,T.keep _ _ _ st5 fun b hb o e=>(I7.pin (b,o) (PJ _ (PJ _ (gx hb e)))).1,fun b hb=>?_,w7⟩
   obtain ⟨o,e,d⟩:=T.obj _ _ st5 b hb
   exact (I7.pin (b,o) (PJ _ (PJ _ (gx hb e)))).2.1
  cases f with
  | brk=>obtain ⟨σ7,H7,I7,q7⟩:=q7;exact ⟨σ7,H7,I7.jo,q7⟩
  | ret v=>obtain ⟨x7,σ7,H7,I7,r7,q7⟩:=q7;exact ⟨x7,σ7,H7,I7.jo,r7,q7⟩
  | _=>obtain ⟨σ7,H7,I7,n7⟩:=q7;exact again I7 n7
end
end L2
namespace L2
open PySem PySem.Spec PyProof.Rows
abbrev R2:=V->V->Hp->VK->Prop
def OpR (X:Cx) (f:Value->Value->Sem Value) (r:R2):Prop :=
 ∀ (zt:List (OR×Obj)) (s:OP) (σ:St) (H:Hp) (x y:V) (v u:Value) (Q:VK),Inv X zt σ H s->RelV x v->RelV y u->r x y H Q →
  wpAny (Pc X.prog X.w) X.A (f v u) (EP X zt σ Q) X.xe s
def UnR (X:Cx) (f:Value->Sem Value) (r:V->Hp->VK->Prop):Prop :=
 ∀ (zt:List (OR×Obj)) (s:OP) (σ:St) (H:Hp) (x:V) (v:Value) (Q:VK),Inv X zt σ H s->RelV x v->r x H Q →
  wpAny (Pc X.prog X.w) X.A (f v) (EP X zt σ Q) X.xe s
def cO (X:Cx) (f:Value) (r:List V->Hp->VK->Prop):Prop :=
 ∀ (zt:List (OR×Obj)) (s:OP) (σ:St) (H:Hp) (xs:List V) (us:List Value) (Q:VK),Inv X zt σ H s->az xs us->r xs H Q →
  wpAny (Pc X.prog X.w) X.A (call f us) (EP X zt σ Q) X.xe s
def tOp (r:R2) (ta tb:TE):TE:=fun σ H Q=>ta σ H fun x H1=>tb σ H1 fun y H2=>r x y H2 Q
def tUn (r:V->Hp->VK->Prop) (ta:TE):TE:=fun σ H Q=>ta σ H fun x H1=>r x H1 Q
def rI (C:Int->Int->Prop) (g:Int->Int->V):R2:=fun x y H Q=>∃ i j,x=.int i/\y=.int j/\C i j/\Q (g i j) H
def rI0 (g:Int->Int->V):R2:=fun x y H Q=>∃ i j,x=.int i/\y=.int j/\Q (g i j) H
def rU (g:Int->V):V->Hp->VK->Prop:=fun x H Q=>∃ i,x=.int i/\Q (g i) H
section
variable {X:Cx}{a b c:Rm}{ta tb tc:TE}{pos:Pos}
theorem E9 (ha:PE X a ta) (hb:PE X b tb) {zt:List (OR×Obj)}{s:OP}{σ:St}{H:Hp}{R:V->V->Hp->Prop} (I:Inv X zt σ H s)
 (h:ta σ H fun x H1=>tb σ H1 fun y H2=>R x y H2) {Q:Value->OP->Prop}{f:Value->Value->Sem Value}
 (hf:∀ v u s2 x y H2,Inv X zt σ H2 s2->RelV x v->RelV y u->R x y H2->wpAny (Pc X.prog X.w) X.A (f v u) Q X.xe s2) :
 wpAny (Pc X.prog X.w) X.A (eval a X.env) (fun v s₁=>wpAny (Pc X.prog X.w) X.A (eval b X.env) (fun u s₂=>wpAny (Pc X.prog X.w) X.A (f v u) Q X.xe s₂) X.xe s₁) X.xe s:=by
 refine thn (ha zt s σ H _ I h) fun v s1 zq=>?_
 obtain ⟨x,H1,I1,r1,q1⟩:=zq
 refine thn (hb zt s1 σ H1 _ I1 q1) fun u s2 zq=>?_
 obtain ⟨y,H2,I2,r2,q2⟩:=zq
 exact hf v u s2 x y H2 I2 r1 r2 q2
theorem Ef {op:Rn}{r:R2} (ho:OpR X (Qf op) r) (ha:PE X a ta) (hb:PE X b tb):PE X (.BinOp a op b pos) (tOp r ta tb):=by
 intro zt s σ H Q I h
 exact wpAny_BinOp (E9 ha hb I h fun v u s2 x y H2 I2 rx ry q=>ho zt s2 σ H2 x y v u Q I2 rx ry q)
theorem Eg {op:UnaryOp}{r:V->Hp->VK->Prop} (ho:UnR X (unaryOp op) r) (ha:PE X a ta):PE X (.UnaryOp op a pos) (tUn r ta):=by
 intro zt s σ H Q I h
 exact UnaryOp_ (thn (ha zt s σ H _ I h) fun v s1 ⟨x,H1,I1,r1,q1⟩=>ho zt s1 σ H1 x v Q I1 r1 q1)
theorem opI {f:Value->Value->Sem Value}{C:Int->Int->Prop}{g:Int->Int->Int}
 (rule:∀ (i j:Int) (t u:Tok) (s:OP) (Q:Value->OP->Prop) (E:Value->OP->Prop),C i j->Q (.int (g i j) s.toks) { s with toks:=s.toks+1 }->wpAny (Pc X.prog X.w) X.A (f (.int i t) (.int j u)) Q E s) :
 OpR X f (rI C fun i j=>.int (g i j)):=by
 intro zt s σ H x y v u Q I rx ry h
 obtain ⟨i,j,rfl,rfl,hc,q⟩:=h
 obtain ⟨t,rfl⟩:=rx
 obtain ⟨t',rfl⟩:=ry
 exact rule i j t t' s _ _ hc ⟨.int (g i j),H,I.tok _,⟨_,rfl⟩,q⟩
theorem IG {f:Value->Value->Sem Value}{g:Int->Int->Int}
 (rule:∀ (i j:Int) (t u:Tok) (s:OP) (Q:Value->OP->Prop) (E:Value->OP->Prop),Q (.int (g i j) s.toks) { s with toks:=s.toks+1 }->wpAny (Pc X.prog X.w) X.A (f (.int i t) (.int j u)) Q E s) :
 OpR X f (rI0 fun i j=>.int (g i j)):=by
 intro zt s σ H x y v u Q I rx ry h
 obtain ⟨i,j,rfl,rfl,q⟩:=h
 obtain ⟨t,rfl⟩:=rx
 obtain ⟨t',rfl⟩:=ry
 exact rule i j t t' s _ _ ⟨.int (g i j),H,I.tok _,⟨_,rfl⟩,q⟩
theorem Bk {f:Value->Value->Sem Value}{g:Int->Int->Bool}
 (rule:∀ (i j:Int) (t u:Tok) (s:OP) (Q:Value->OP->Prop) (E:Value->OP->Prop),Q (.bool (g i j)) s->wpAny (Pc X.prog X.w) X.A (f (.int i t) (.int j u)) Q E s) :
 OpR X f (rI0 fun i j=>.bl (g i j)):=by
 intro zt s σ H x y v u Q I rx ry h
 obtain ⟨i,j,rfl,rfl,q⟩:=h
 obtain ⟨t,rfl⟩:=rx
 obtain ⟨t',rfl⟩:=ry
 exact rule i j t t' s _ _ ⟨.bl (g i j),H,I,rfl,q⟩
def Mc (i j:Int):Prop:=0 < j/\j < 1073741824
def Mf (i j:Int):Prop:=0<=j/\j<=1000000/\i.natAbs < 2 ^ 64
def Bl (i j:Int):Prop:=(-(2 ^ 64) < i/\i < 2 ^ 64)\/(-(2 ^ 64) < j/\j < 2 ^ 64)
theorem Bl.ok {i j:Int} (h:Bl i j):IntMulOk i j:=by
 rcases h with ⟨h1,h2⟩|⟨h1,h2⟩
 ·exact .of_left (intBits_le_64 h1 h2)
 ·exact .of_right (intBits_le_64 h1 h2)
theorem Fb:OpR X (Qf .Add) (rI0 fun i j=>.int (i+j)):=IG fun _ _ _ _ _ _ _ q=>add_int q
theorem Fc:OpR X (Qf .Sub) (rI0 fun i j=>.int (i - j)):=IG fun _ _ _ _ _ _ _ q=>sub_int q
theorem Fd:OpR X (Qf .Mult) (rI Bl fun i j=>.int (i*j)):=opI fun _ _ _ _ _ _ _ hc q=>mul_int q hc.ok
theorem Bm:OpR X (Qf .FloorDiv) (rI Mc fun i j=>.int (i / j)):=opI fun i j _ _ _ _ _ hc q=>by
 have h1:(0:Int) < j:=hc.1
 have h2:j < 1073741824:=hc.2
 exact floordiv_int (by lia) (by rw[Int.fdiv_eq_ediv_of_nonneg i (by lia)];exact q) (.inl (PyProof.noPylong_small (by lia)))
theorem Fe:OpR X (Qf .Mod) (rI (fun _ j=>0 < j) fun i j=>.int (i % j)):=opI fun i j _ _ _ _ _ hc q=>by
 have h1:(0:Int) < j:=hc
 exact mod_int' (by lia) (by rw[Int.fmod_eq_emod_of_nonneg i (by lia)];exact q)
theorem Ff:OpR X (Qf .Pow) (rI Mf fun i j=>.int (i ^ j.toNat)):=opI fun _ _ _ _ _ _ _ hc q=>pow_int_small hc.1 hc.2.1 hc.2.2 q
theorem unI {f:Value->Sem Value}{g:Int->Int}
 (rule:∀ (i:Int) (t:Tok) (s:OP) (Q:Value->OP->Prop) (E:Value->OP->Prop),Q (.int (g i) s.toks) { s with toks:=s.toks+1 }->wpAny (Pc X.prog X.w) X.A (f (.int i t)) Q E s) :
 UnR X f (rU fun i=>.int (g i)):=by
 intro zt s σ H x v Q I rx h
 obtain ⟨i,rfl,q⟩:=h
 obtain ⟨t,rfl⟩:=rx
 exact rule i t s _ _ ⟨.int (g i),H,I.tok _,⟨_,rfl⟩,q⟩
theorem xK:UnR X (unaryOp .USub) (rU fun i=>.int (-i)):=unI fun _ _ _ _ _ q=>neg_int q
end
section
variable {X:Cx}{a b c:Rm}{ta tb tc:TE}{pos:Pos}
theorem xM {zt:List (OR×Obj)}{σ:St}{H:Hp}{s:OP}{Q:VK}{k k':Bool} (I:Inv X zt σ H s) (q:Q (.bl k) H) (e:k=k'):EP X zt σ Q (.bool k') s:=by
 subst e
 exact ⟨.bl k,H,I,rfl,q⟩
theorem II:OpR X (PU .Lt) (rI0 fun i j=>.bl (decide (i < j))):=Bk fun _ _ _ _ _ _ _ q=>lt_int q
theorem IJ:OpR X (PU .LtE) (rI0 fun i j=>.bl (decide (i<=j))):=Bk fun _ _ _ _ _ _ _ q=>le_int q
theorem IK:OpR X (PU .Gt) (rI0 fun i j=>.bl (decide (j < i))):=Bk fun _ _ _ _ _ _ _ q=>gt_int q
theorem IL:OpR X (PU .GtE) (rI0 fun i j=>.bl (decide (j<=i))):=Bk fun _ _ _ _ _ _ _ q=>ge_int q
theorem Fg:OpR X (PU .Is) (fun x y H Q=>y=.non/\Q (.bl (decide (x=.non))) H):=by
 intro zt s σ H x y v u Q I rx ry h
 obtain ⟨rfl,q⟩:=h
 cases ry
 refine is_none_gen (xM I q ?_)
 cases x<;>first
  | (cases rx;rfl)
  | (obtain ⟨t,rfl⟩:=rx;rfl)
theorem Bo:OpR X (PU .IsNot) (fun x y H Q=>y=.non/\Q (.bl (!decide (x=.non))) H):=by
 intro zt s σ H x y v u Q I rx ry h
 obtain ⟨rfl,q⟩:=h
 cases ry
 refine isnot_none_gen (xM I q ?_)
 cases x<;>first
  | (cases rx;rfl)
  | (obtain ⟨t,rfl⟩:=rx;rfl)
theorem Bp {op:CmpOp}{r:R2} (ho:OpR X (PU op) r) (ha:PE X a ta) (hb:PE X b tb) (hm:To op b=false):PE X (.Compare a [op] [b] pos) (tOp r ta tb):=by
 intro zt s σ H Q I h
 exact wpAny_Compare1 (E9 ha hb I h fun v u s2 x y H2 I2 rx ry q=>ho zt s2 σ H2 x y v u Q I2 rx ry q) hm
def xN (t:TE):TT:=fun σ H Q=>t σ H fun x H'=>∃ k,x=.bl k/\Q k H'
theorem Bq {op:CmpOp}{r:R2} (ho:OpR X (PU op) r) (ha:PE X a ta) (hb:PE X b tb) (hm:To op b=false):PT X (.Compare a [op] [b] pos) (xN (tOp r ta tb)):=by
 intro zt s σ H Q I h
 refine wpAny_isTrue_Compare1 (thn (ha zt s σ H _ I h) fun v s1 ⟨x,H1,I1,r1,q1⟩=>thn (hb zt s1 σ H1 _ I1 q1) fun u s2 ⟨y,H2,I2,r2,q2⟩ =>
  thn (ho zt s2 σ H2 x y v u _ I2 r1 r2 q2) fun c s3 ⟨z,H3,I3,r3,k,e,q3⟩=>?_) hm
 subst e
 cases r3
 exact Qa ⟨H3,I3,q3⟩
def rL (r r':R2) (ta tb tc:TE):TE:=fun σ H Q=>ta σ H fun x H1=>tb σ H1 fun y H2=>r x y H2 fun z H3=>∃ k,z=.bl k ∧
 (if k=true then tc σ H3 fun w' H4=>r' y w' H4 Q else Q (.bl false) H3)
theorem xO {op op':CmpOp}{r r':R2} (ho:OpR X (PU op) r) (ho':OpR X (PU op') r') (ha:PE X a ta) (hb:PE X b tb) (hc:PE X c tc)
 (hm:lastMarks [op,op'] [b,c]=false:=by with_unfolding_all rfl):PE X (.Compare a [op,op'] [b,c] pos) (rL r r' ta tb tc):=by
 intro zt s σ H Q I h
 refine Compare_chain (thn (ha zt s σ H _ I h) fun v s1 ⟨x,H1,I1,r1,q1⟩=>chain_link (thn (hb zt s1 σ H1 _ I1 q1) fun u s2 ⟨y,H2,I2,r2,q2⟩ =>
  thn (ho zt s2 σ H2 x y v u _ I2 r1 r2 q2) fun d s3 ⟨z,H3,I3,r3,k,e,q3⟩=>?_)) hm
 subst e
 cases r3
 refine Qa ?_
 cases k with
 | false=>exact ite_ff ⟨.bl false,H3,I3,rfl,q3⟩
 | true=>exact ite_tt (chain_last (thn (hc zt s3 σ H3 _ I3 q3) fun w' s4 ⟨z',H4,I4,r4,q4⟩=>ho' zt s4 σ H4 y z' u w' Q I4 r2 r4 q4))
theorem xP {op op':CmpOp}{r r':R2} (ho:OpR X (PU op) r) (ho':OpR X (PU op') r') (ha:PE X a ta) (hb:PE X b tb) (hc:PE X c tc)
 (hm:lastMarks [op,op'] [b,c]=false:=by with_unfolding_all rfl):PT X (.Compare a [op,op'] [b,c] pos) (xN (rL r r' ta tb tc)):=by
 intro zt s σ H Q I h
 refine isTrue_chain (thn (ha zt s σ H _ I h) fun v s1 ⟨x,H1,I1,r1,q1⟩=>test_link (thn (hb zt s1 σ H1 _ I1 q1) fun u s2 ⟨y,H2,I2,r2,q2⟩ =>
  thn (ho zt s2 σ H2 x y v u _ I2 r1 r2 q2) fun d s3 ⟨z,H3,I3,r3,k,e,q3⟩=>?_)) hm
 subst e
 cases r3
 refine Qa ?_
 cases k with
 | false =>
  obtain ⟨k',e',q'⟩:=q3
  cases e'
  exact ite_ff ⟨H3,I3,q'⟩
 | true =>
  refine ite_tt (test_last (thn (hc zt s3 σ H3 _ I3 q3) fun w' s4 ⟨z',H4,I4,r4,q4⟩=>thn (ho' zt s4 σ H4 y z' u w' _ I4 r2 r4 q4) fun d' s5 zq=>?_))
  obtain ⟨z2,H5,I5,r5,k2,e2,q5⟩:=zq
  subst e2
  cases r5
  exact Qa ⟨H5,I5,q5⟩
theorem jS:(sizeLine:Nat) < 2 ^ 63:=by rw[S7];decide
theorem rM:OpR X (Qf .Add) (fun x y H Q=>∃ i j,x=.str i/\y=.str j/\i.length+j.length<=sizeLine/\Q (.str (i++j)) H):=by
 intro zt s σ H x y v u Q I rx ry h
 obtain ⟨i,j,rfl,rfl,hz,q⟩:=h
 obtain ⟨t,rfl⟩:=rx
 obtain ⟨t',rfl⟩:=ry
 exact add_str (fun t' tk=>⟨.str (i++j),H,I.tok _,⟨_,rfl⟩,q⟩) hz
theorem vals1 {x:V}{us:List Value} (r:az [x] us):∃ u,us=[u]/\RelV x u:=by
 cases r with
 | cons r1 r2=>cases r2;exact ⟨_,rfl,r1⟩
theorem vals2 {x y:V}{us:List Value} (r:az [x,y] us):∃ u w',us=[u,w']/\RelV x u/\RelV y w':=by
 cases r with
 | cons r1 r2 =>
  cases r2 with
  | cons r3 r4=>cases r4;exact ⟨_,_,rfl,r1,r3⟩
theorem xQ:cO X (.builtin "abs") (fun xs H Q=>∃ i,xs=[.int i]/\Q (.int (if i < 0 then -i else i)) H):=by
 intro zt s σ H xs us Q I r h
 obtain ⟨i,rfl,q⟩:=h
 obtain ⟨u,rfl,t,rfl⟩:=vals1 r
 exact call_abs_int fun u tk=>⟨.int (if i < 0 then -i else i),H,I.tok _,⟨_,rfl⟩,q⟩
theorem vE (hc:X.calm=true):cO X (.builtin "max") (fun xs H Q=>∃ i j,xs=[.int i,.int j]/\Q (.int (if j > i then j else i)) H):=by
 intro zt s σ H xs us Q I r h
 obtain ⟨i,j,rfl,q⟩:=h
 obtain ⟨u,w',rfl,⟨t,rfl⟩,⟨t',rfl⟩⟩:=vals2 r
 refine max_two_ints (I.ok.hd hc) fun h' tk k=>⟨_,H,I.kept k,?_,q⟩
 by_cases hj:j > i
 ·rw[if_pos hj,if_pos hj];exact ⟨_,rfl⟩
 ·rw[if_neg hj,if_neg hj];exact ⟨_,rfl⟩
theorem vF (hc:X.calm=true):cO X (.builtin "min") (fun xs H Q=>∃ i j,xs=[.int i,.int j]/\Q (.int (if j < i then j else i)) H):=by
 intro zt s σ H xs us Q I r h
 obtain ⟨i,j,rfl,q⟩:=h
 obtain ⟨u,w',rfl,⟨t,rfl⟩,⟨t',rfl⟩⟩:=vals2 r
 refine min_two_ints (I.ok.hd hc) fun h' tk k=>⟨_,H,I.kept k,?_,q⟩
 by_cases hj:j < i
 ·rw[if_pos hj,if_pos hj];exact ⟨_,rfl⟩
 ·rw[if_neg hj,if_neg hj];exact ⟨_,rfl⟩
theorem nF:cO X (.type "int") (fun xs H Q=>(∃ i,xs=[.int i]/\Q (.int i) H)\/∃ k,xs=[.bl k]/\Q (.int (if k then 1 else 0)) H):=by
 intro zt s σ H xs us Q I r h
 rcases h with ⟨i,rfl,q⟩|⟨k,rfl,q⟩
 ·obtain ⟨u,rfl,t,rfl⟩:=vals1 r
  exact call_int_int ⟨.int i,H,I,⟨_,rfl⟩,q⟩
 ·obtain ⟨u,rfl,r1⟩:=vals1 r
  cases r1
  exact call_int_bool ⟨.int (if k then 1 else 0),H,I.tok _,⟨_,rfl⟩,q⟩
end
end L2
namespace L2
open PySem PySem.Spec PyProof.Rows
structure rN (h:Heap) (x dx C:OR) (mA:Str->Option Value):Prop where
 obj:h.get? x=some (Qq C dx)
 ns:h.Ns1 dx mA
 ne:dx≠x
theorem vG {h:Heap}{dx:OR}{mA:Str->Option Value} (n:h.Ns1 dx mA):∃ od,h.get? dx=some od/\∀ name,Sa name od=some (mA name):=by
 obtain ⟨o,es,ep,ho,hd,hk,_,hm⟩:=n
 refine ⟨o,ho,fun name=>?_⟩
 have e:=hm name
 unfold nsFind findBy at e
 rw[← Array.find?_toList] at e
 unfold Sa
 rw[hd]
 dsimp only
 split
 ·rename_i y q
  rw[q] at e
  exact congrArg some e
 ·rename_i q
  rw[q] at e
  have a:es.toList.any (·.refKey)=false:=by
   rw[List.any_eq_false]
   intro y hy
   obtain ⟨z,t,hkey⟩:=hk y (Array.mem_toList_iff.mp hy)
   simp[DictEntry.refKey,hkey]
  have a':¬ es.toList.any (·.refKey)=true:=by rw[a];exact Qc
  rw[if_neg a']
  exact congrArg some e
theorem rN.look {h:Heap}{x dx C:OR}{mA:Str->Option Value} (I:rN h x dx C mA):∃ od,PySem.W.InstAt h x (Qq C dx) C (some od)/\∀ name,Sa name od=some (mA name) :=
 let ⟨od,ho,hl⟩:=vG I.ns
 ⟨od,⟨I.obj,rfl,rfl,ho⟩,hl⟩
section
variable {prog:OU}{w:Pa}{A:PF}{E:Value->OP->Prop}{s:OP}{K:OM}{x dx C f:OR}{mA:Str->Option Value}{name:Str}{v:Value}
theorem get_map {expr:Bool}{Q:Value->OP->Prop} (X:K.In s.heap) (I:rN s.heap x dx C mA) (hg:Rc K C name=true) (hh:QE K C=true)
 (ha:Pv K (.ref C) name=some none) (hv:mA name=some v) (hv':UG v=true) (h:Q v { s with toks:=s.toks+1 }) :
 wpAny (Pc prog w) A (getAttr (.ref x) name expr) Q E s:=by
 obtain ⟨od,J,hl⟩:=I.look
 exact PySem.W.get_value X J (Sh hg).1 (PySem.W.findObj_own hh ha rfl (by rw[hl,hv])) hv' h
theorem xR {pl:Sem Bool}{Q:Value×List Value->OP->Prop} (X:K.In s.heap) (I:rN s.heap x dx C mA) (hg:Rc K C name=true)
 (hf:Pv K (.ref C) name=some (some (.ref f))) (ht:SN K (.ref f)=true) (hv:mA name=none) (h:Q (.ref f,[.ref x]) s) :
 wpAny (Pc prog w) A (Tn (.ref x) name pl) Q E s:=by
 obtain ⟨od,J,hl⟩:=I.look
 exact PySem.W.method_fn X J (Sh hg).1 (Sh hg).2 hf (beq_iff_eq.mp ht) (by show (Sa name od).map (·.isSome)=some false;rw[hl,hv];rfl) h
theorem Br {ns:List Str}{Q:Unit->OP->Prop} (X:K.In s.heap) (I:rN s.heap x dx C mA)
 (hs:Pv K (.ref C) "__setattr__"=some (some (.builtin "object.__setattr__"))) (hp:SH K C=true) (ht:Tc K C name=some none) (hh:QE K C=true)
 (hw:Uh mA ns) (hsz:ns.length<=sizeLine)
 (h:∀ h',rN h' x dx C (fun y=>if y=name then some v else mA y)->Q2 dx s.heap h'->Q () { s with heap:=h',toks:=s.toks+2 }) :
 wpAny (Pc prog w) A (setAttr (.ref x) name v) Q E s:=by
 obtain ⟨od,J,hl⟩:=I.look
 refine PySem.W.set_plain X J hs (PySem.W.osa_open (s:={ s with toks:=s.toks+1 }) (r:=none) X J hp ht fun b=>?_)
 obtain ⟨cd,hc,hd'⟩:=PySem.W.any_some hh
 have hx:s.heap.get? x=some ⟨.ref C,some dx,.plain,#[]⟩:=I.obj
 refine OY (wpAny_pure (OY (OY (wpAny_loadPart hx (OY (PySem.W.Looks.here (s:={ s with toks:=s.toks+1 }) (PySem.W.looks_clsIn X hc) ?_))))))
 rw[hd']
 refine wpAny_pure (a:=some dx) (OY (wpAny_pure (OY ?_)))
 refine wpAny_nsSet1 (s:={ s with toks:=s.toks+1 }) I.ns fun h' hn2 hs2=>?_
 obtain ⟨oD,esD,epD,hoD,hdD,hcD⟩:=hn2.count (PySem.Within.cons name v hw)
 refine OY (wpAny_lookBehind hoD (by rw[hdD];exact pastItsLine_dict (PL hcD (by rw[Ph];lia))) ?_)
 exact wpAny_pure (h _ ⟨(hs2.2 _ (Qj I.ne)).trans I.obj,hn2,I.ne⟩ hs2)
theorem xS {R:Result->OP->Prop}{vs:List Value}{kw:List (Str×Value)} (X:K.In s.heap) (hm:Td K C=true)
 (hi:Pv K (.ref C) "__init__"=some (some (.ref f))) (hf:PySem.W.typeIn K (.ref f)=some (.type "function"))
 (h:codeAny (Pc prog w) (A.under (.builtin "type.__call__" ⟨.ref C :: vs,kw⟩)) (.call (.ref f) ⟨.ref (s.heap.objs.size+1) :: vs,kw⟩) (PySem.W.InitBack (s.heap.objs.size+1) R)
  { s with heap:=(s.heap.push P7).push (Qq C s.heap.objs.size) }) :
 codeAny (Pc prog w) A (.call (.ref C) ⟨vs,kw⟩) R s:=by
 obtain ⟨hh,g,d,t,os⟩:=s
 exact PySem.W.make_core (PySem.W.makes_of X hm) (PySem.W.looks_findIn X hi) (fun self=>PySem.W.bind_fn X self hf) (.inl rfl) h
end
noncomputable def bF (f:Str) (v:V):List (Str×V)->List (Str×V)
 | []=>[(f,v)]
 | (g,x) :: r=>if g=f then (g,v) :: r else (g,x) :: bF f v r
theorem kj (f g:Str) (v:V):∀ fs:List (Str×V),(bF f v fs).lookup g=if g=f then some v else fs.lookup g
 | []=>by
  show QX g [(f,v)]=_
  by_cases h:g=f
  ·have hb:(g==f)=true:=beq_iff_eq.mpr h
   simp only[QX,hb,if_pos h]
  ·have hb:(g==f)=false:=beq_eq_false_iff_ne.mpr h
   simp only[QX,hb,if_neg h]
 | (k,x) :: r=>by
  have ih:=kj f g v r
  rw[show bF f v ((k,x) :: r)=(if k=f then (k,v) :: r else (k,x) :: bF f v r) from rfl]
  by_cases hk:k=f
  ·rw[if_pos hk]
   by_cases h:g=k
   ·have hb:(g==k)=true:=beq_iff_eq.mpr h
    simp only[QX,hb,if_pos (h.trans hk)]
   ·have hb:(g==k)=false:=beq_eq_false_iff_ne.mpr h
    simp only[QX,hb,if_neg (fun e:g=f=>h (e.trans hk.symm))]
  ·rw[if_neg hk]
   by_cases h:g=k
   ·have hb:(g==k)=true:=beq_iff_eq.mpr h
    simp only[QX,hb,if_neg (fun e:g=f=>hk (h.symm.trans e))]
   ·have hb:(g==k)=false:=beq_eq_false_iff_ne.mpr h
    simp only[QX,hb]
    exact ih
theorem jT (f:Str) (v:V):∀ fs:List (Str×V),f∈(bF f v fs).map (·.1)/\∀ g,g∈fs.map (·.1)->g∈(bF f v fs).map (·.1)
 | []=>⟨by simp[bF],fun g h=>by simp at h⟩
 | (k,x) :: r=>by
  obtain ⟨i1,i2⟩:=jT f v r
  rw[show bF f v ((k,x) :: r)=(if k=f then (k,v) :: r else (k,x) :: bF f v r) from rfl]
  by_cases hk:k=f
  ·rw[if_pos hk]
   subst hk
   exact ⟨by simp,fun g h=>by simpa using h⟩
  ·rw[if_neg hk]
   refine ⟨?_,fun g h=>?_⟩
   ·rw[Px]
    exact O8 _ i1
   ·rw[Px] at h ⊢
    rcases List.mem_cons.mp h with e|e
    ·exact List.mem_cons.mpr (.inl e)
    ·exact O8 _ (i2 g e)
theorem ko (f:Str) (v:V):∀ fs:List (Str×V),(bF f v fs).length<=fs.length+1
 | []=>by simp[bF]
 | (k,x) :: r=>by
  have ih:=ko f v r
  rw[show bF f v ((k,x) :: r)=(if k=f then (k,v) :: r else (k,x) :: bF f v r) from rfl]
  by_cases hk:k=f
  ·rw[if_pos hk,Ph,Ph];lia
  ·rw[if_neg hk,Ph,Ph];lia
theorem mX.some_of {v:V}{o:Option Value} (r:mX (some v) o):∃ u,o=some u/\RelV v u:=by
 cases o with
 | none=>exact (show False from r).elim
 | some u=>exact ⟨u,rfl,r⟩
theorem mX.none_of {o:Option Value} (r:mX none o):o=none:=by
 cases o with
 | none=>rfl
 | some u=>exact (show False from r).elim
theorem vH {v:V}{u:Value} (r:RelV v u):UG u=true:=by
 cases v with
 | non=>cases (show u=SQ from r);rfl
 | bl b=>cases (show u=UV b from r);rfl
 | int i=>obtain ⟨t,e⟩:=(show ∃ t,u=Tq i t from r);cases e;rfl
 | str x=>obtain ⟨t,e⟩:=(show ∃ t,u=R8 x t from r);cases e;rfl
 | byt b=>obtain ⟨t,e⟩:=(show ∃ t,u=Value.bytes b t from r);cases e;rfl
 | flt b=>obtain ⟨t,e⟩:=(show ∃ t,u=Value.float b t from r);cases e;rfl
 | ref a=>cases (show u=Pp a from r);rfl
 | ty n=>cases (show u=Value.type n from r);rfl
section
variable {P:OU}{w:Pa}{H H':Hp}{h h':Heap}{a C dx:OR}{fs fs':List (Str×V)}
theorem oE (hok:HOk P w H h) (e:H a=some (.ins C dx fs)):∃ mA,rN h a dx C mA/\(∀ f,mX (fs.lookup f) (mA f))/\Uh mA (fs.map (·.1))/\fs.length<=1000/\H dx=some (.own a):=by
 obtain ⟨d,z,ne,ob,mA,n,r,q⟩:=(show d8 P w H h a (.ins C dx fs) from hok a _ e)
 exact ⟨mA,⟨ob,n,ne⟩,r,q,z,d⟩
end
structure Cls (K:OM) (C:OR):Prop where
 pg:Rc K C SR=true
 hd:QE K C=true
 po:SH K C=true
 sa:Pv K (.ref C) "__setattr__"=some (some (.builtin "object.__setattr__"))
theorem Cls.get {K:OM}{C:OR} (c:Cls K C) (f:Str):Rc K C f=true:=c.pg
def gU (K:OM) (C:OR) (f:Str):Prop:=Pv K (.ref C) f=some none
theorem gU.IM {K:OM}{C:OR}{f:Str} (n:gU K C f):Tc K C f=some none:=by
 unfold Tc
 rw[show Pv K (.ref C) f=some none from n]
 rfl
structure pZ (K:OM) (C:OR) (m:Str) (f:OR):Prop where
 at_:Pv K (.ref C) m=some (some (.ref f))
 fn:SN K (.ref f)=true
 kp:Po K (.ref f)=true
section
variable {X:Cx}{zt:List (OR×Obj)}{σ:St}{H:Hp}{s:OP}{a C dx:OR}{fs:List (Str×V)}{f:Str}{v:V}{A:PF}{E:Value->OP->Prop}
theorem lA {b:Bool}{Q:Value->OP->Prop} (I:Inv X zt σ H s) (e:H a=some (.ins C dx fs)) (c:Cls X.K C) (n:gU X.K C f) (l:fs.lookup f=some v)
 (h:∀ u s',Inv X zt σ H s'->RelV v u->Q u s'):wpAny (Pc X.prog X.w) A (getAttr (.ref a) f b) Q E s:=by
 obtain ⟨mA,O,r,_,_,_⟩:=oE I.hok e
 obtain ⟨u,hu,ru⟩:=mX.some_of (v:=v) (o:=mA f) (by rw[← l];exact r f)
 exact get_map I.kIn O (c.get f) c.hd n hu (vH ru) (h u _ (I.tok _) ru)
theorem gy {m:Str}{g:OR}{pl:Sem Bool}{Q:Value×List Value->OP->Prop} (I:Inv X zt σ H s) (e:H a=some (.ins C dx fs)) (c:Cls X.K C) (k:pZ X.K C m g) (l:fs.lookup m=none)
 (h:Q (.ref g,[.ref a]) s):wpAny (Pc X.prog X.w) A (Tn (.ref a) m pl) Q E s:=by
 obtain ⟨mA,O,r,_,_,_⟩:=oE I.hok e
 have hn:mA m=none:=mX.none_of (by rw[← l];exact r m)
 exact xR I.kIn O (c.get m) k.at_ k.fn hn h
theorem lB {y:V}{u:Value}{Q:Unit->OP->Prop} (I:Inv X zt σ H s) (e:H a=some (.ins C dx fs)) (c:Cls X.K C) (n:gU X.K C f) (hl:fs.length < 1000) (ry:RelV y u)
 (h:∀ s',Inv X zt σ (upd H a (.ins C dx (bF f y fs))) s'->Q () s'):wpAny (Pc X.prog X.w) A (setAttr (.ref a) f u) Q E s:=by
 obtain ⟨mA,O,r,wi,_,ho⟩:=oE I.hok e
 have hz:(fs.map (·.1)).length<=sizeLine:=by rw[Pq,S7];lia
 refine Br I.kIn O c.sa c.po n.IM c.hd wi hz fun h' O' sb=>h _ ?_
 have hd:∃ o,h'.get? dx=some o:=let ⟨o,_,_,e',_⟩:=O'.ns;⟨o,e'⟩
 refine I.write (x:=a) (e:=dx) (by rw[e];exact Sg) (.inr ho) (fun b q hb z=>(sb.2 b hb).trans z) hd ?_
 refine ⟨by rw[ao O.ne];exact ho,?_,O.ne,O'.obj,_,O'.ns,fun g=>?_,fun g hg=>?_⟩
 ·have:=ko f y fs;lia
 ·show mX ((bF f y fs).lookup g) (if g=f then some u else mA g)
  rw[kj]
  by_cases q:g=f
  ·rw[if_pos q,if_pos q];exact ry
  ·rw[if_neg q,if_neg q];exact r g
 ·by_cases q:g=f
  ·rw[q];exact (jT f y fs).1
  ·refine (jT f y fs).2 g (wi g fun z=>hg ?_)
   show (if g=f then some u else mA g)=none
   rw[if_neg q];exact z
theorem Inv.made (I:Inv X zt σ H s):Inv X zt σ (upd (upd H s.heap.objs.size (.own (s.heap.objs.size+1))) (s.heap.objs.size+1) (.ins C s.heap.objs.size []))
 { s with heap:=(s.heap.push P7).push (Qq C s.heap.objs.size) }:=by
 have e1:(s.heap.push P7).get? s.heap.objs.size=some P7:=Pf s.heap rfl
 have e2:((s.heap.push P7).push (Qq C s.heap.objs.size)).get? (s.heap.objs.size+1)=some (Qq C s.heap.objs.size):=by
  have:=Pf (s.heap.push P7) (o:=Qq C s.heap.objs.size) rfl
  rwa [Rz] at this
 have e3:(s.heap.push P7).Ns s.heap.objs.size (fun _=>none):=⟨P7,#[],_,e1,rfl,(fun e he=>absurd he (by simp)),fun _=>rfl⟩
 have I1:=I.laid (a:=s.heap.objs.size) (o:=.own (s.heap.objs.size+1)) (h':=s.heap.push P7) (t':=s.toks) (fun b u q=>OS _ q) (OX _) ⟨_,e1⟩
 refine I1.laid (a:=s.heap.objs.size+1) (o:=.ins C s.heap.objs.size []) (t':=s.toks) (fun b u q=>OS _ q) (Nat.le_of_eq (Rz _ _)) ?_
 have ne:s.heap.objs.size≠s.heap.objs.size+1:=Py (QW _)
 refine ⟨by rw[ao ne,aG],Qs _,ne,e2,fun _=>none,(Heap.Ns1.of_empty e3).at fun o q=>OS _ q,fun _=>Sg,fun y hy=>absurd rfl hy⟩
theorem Bs {prog:OU}{w:Pa}{env:Env}{e:Rm}{f:Str}{pos:Pos}{s:OP}{Q:Value->OP->Prop} (hb:Sf e f env (eval e env)=eval e env)
 (h:wpAny (Pc prog w) A (eval e env) (fun o s₁=>wpAny (Pc prog w) A (getAttr o f true) Q E s₁) E s):wpAny (Pc prog w) A (eval (.Attribute e f pos) env) Q E s :=
 Attribute_any_ h (by rw[arm_eval_Attribute,hb])
end
def Mg (K:OM) (ta:TE) (f:Str):TE:=fun σ H Q=>ta σ H fun x H1=>∃ a C dx fs v,x=.ref a/\H1 a=some (.ins C dx fs)/\Cls K C/\gU K C f/\fs.lookup f=some v/\Q v H1
def IP (K:OM) (ta tv:TE) (f:Str):TS:=fun D σ H=>tv σ H fun y H1=>ta σ H1 fun x H2=>∃ a C dx fs,x=.ref a/\H2 a=some (.ins C dx fs)/\Cls K C/\gU K C f/\fs.length < 1000 ∧
 D.nx σ (upd H2 a (.ins C dx (bF f y fs)))
def Mh (X:Cx) (op:Rn) (rd:V->V->Hp->VK->Prop):Prop :=
 ∀ (zt:List (OR×Obj)) (s:OP) (σ:St) (H:Hp) (x y:V) (u v:Value) (Q:VK),Inv X zt σ H s->RelV x u->RelV y v->rd x y H Q->wpAny (Pc X.prog X.w) X.A (inplaceOp op u v) (EP X zt σ Q) X.xe s
def tO (K:OM) (ta tv:TE) (rd:V->V->Hp->VK->Prop) (f:Str):TS:=fun D σ H=>ta σ H fun x H1=>∃ a C dx fs v,x=.ref a/\H1 a=some (.ins C dx fs)/\Cls K C/\gU K C f/\fs.lookup f=some v ∧
 tv σ H1 fun y H2=>rd v y H2 fun z H3=>∃ dx' fs',H3 a=some (.ins C dx' fs')/\fs'.length < 1000/\D.nx σ (upd H3 a (.ins C dx' (bF f z fs')))
section
variable {X:Cx}{o e value:Rm}{f:Str}{pos pos' tpos:Pos}{ta tv:TE}
theorem Fi (he:PE X e ta) (hb:Sf e f X.env (eval e X.env)=eval e X.env):PE X (.Attribute e f pos) (Mg X.K ta f):=by
 intro zt s σ H Q I h
 refine Bs hb (thn (he zt s σ H _ I h) fun u s1 zq=>?_)
 obtain ⟨x,H1,I1,rx,a,C,dx,fs,v,ex,ea,c,n,l,q⟩:=zq
 subst ex
 obtain rfl:u=Pp a:=rx
 exact lA I1 ea c n l fun u' s2 I2 ru=>⟨v,H1,I2,ru,q⟩
theorem Fj (ha:PE X o ta) (hv:PE X value tv) (hs:RC value (some (.Attribute o f pos')) pos.line X.env=pure false):PS X (.Assign [.Attribute o f pos'] value pos) (IP X.K ta tv f):=by
 intro zt s σ H D I h
 refine plainObj_wpAny_Assign_Attribute (thn (hv zt s σ H _ I h) fun u s1 ⟨y,H1,I1,ry,q⟩=>thn (ha zt s1 σ H1 _ I1 q) fun ov s2 ⟨x,H2,I2,rx,a,C,dx,fs,ex,ea,c,n,l,q2⟩=>?_) hs
 subst ex
 obtain rfl:ov=Pp a:=rx
 exact lB I2 ea c n l ry fun s3 I3=>⟨σ,_,I3,q2⟩
theorem vI {op:Rn}{rd:V->V->Hp->VK->Prop} (ha:PE X o ta) (hv:PE X value tv) (hop:Mh X op rd):PS X (.AugAssign (.Attribute o f tpos) op value pos) (tO X.K ta tv rd f):=by
 intro zt s σ H D I h
 refine wpAny_AugAssign_AttributeAny (thn (ha zt s σ H _ I h) fun ov s1 zq=>?_)
 obtain ⟨x,H1,I1,rx,a,C,dx,fs,v,ex,ea,c,n,l,q⟩:=zq
 subst ex
 obtain rfl:ov=Pp a:=rx
 refine lA I1 ea c n l fun u s2 I2 ru=>thn (hv zt s2 σ H1 _ I2 q) fun w3 s3 ⟨y,H2,I3,ry,q3⟩=>thn (hop zt s3 σ H2 v y u w3 _ I3 ru ry q3) fun w4 s4 zq=>?_
 obtain ⟨z,H3,I4,rz,dx',fs',ea',l',q4⟩:=zq
 exact lB I4 ea' c n l' rz fun s5 I5=>⟨σ,_,I5,q4⟩
theorem Eh {pl:Sem Bool}{m:Str}{apos:Pos}{args:List Rm}{zt:List (OR×Obj)}{s:OP}{σ:St}{H:Hp}{Q:Value->OP->Prop}{te:TE} (he:PE X e te) (I:Inv X zt σ H s)
 (h:te σ H fun x H1=>∃ a C dx fs g,x=.ref a/\H1 a=some (.ins C dx fs)/\Cls X.K C/\pZ X.K C m g/\fs.lookup m=none ∧
  ∀ s1,Inv X zt σ H1 s1->wpAny (Pc X.prog X.w) X.A (callWith pos (.ref g) [.ref a] (QA pos (Pe args X.env)) (SL pos (Rj [] X.env))) Q X.xe s1)
 (ht:eval (.Call (.Attribute e m apos) args [] pos) X.env=(do
  let ov ← eval e X.env
  standAt apos.atName
  let (f,first) ← holding [ov] (Tn ov m pl)
  callWith pos f first (QA pos (Pe args X.env)) (SL pos (Rj [] X.env)))) :
 wpAny (Pc X.prog X.w) X.A (eval (.Call (.Attribute e m apos) args [] pos) X.env) Q X.xe s:=by
 refine Q7 (pl:=pl) (thn (he zt s σ H _ I h) fun u s1 ⟨x,H1,I1,rx,a,C,dx,fs,g,ex,ea,c,k,l,q⟩=>?_) ht
 subst ex
 obtain rfl:u=Pp a:=rx
 exact gy I1 ea c k l (q s1 I1)
end
section
variable {X:Cx}{zt:List (OR×Obj)}{σ:St}{H:Hp}{s:OP}{A:PF}{E:Value->OP->Prop}{Q:Value->OP->Prop}{c:Value}{b:Bool}
end
end L2
namespace L2
open PySem PySem.Spec PyProof.Rows
structure bx (k:Nat) (A:PF):Prop where
 hd:A.handled=none
 dp:A.depth+3*k+5 < recursionLimit
 un:A.units+16*k+200 < Uz
theorem bx.mono {j k:Nat}{A:PF} (r:bx k A) (h:j<=k):bx j A:=⟨r.hd,by have:=r.dp;lia,by have:=r.un;lia⟩
theorem bx.deeper {k:Nat}{A:PF} (r:bx (k+1) A) (env:Env):bx k (A.deeper env) :=
 ⟨r.hd,by have:=r.dp;show A.depth+1+3*k+5 < _;lia,by have:=r.un;show A.units+3+16*k+200 < _;lia⟩
theorem rO {A:PF}{C:OR}{us:List Value}{kw:List (Str×Value)}:(A.under (.builtin "type.__call__" ⟨.ref C :: us,kw⟩)).depth=A.depth+1:=by
 first|rfl|simp[Ud,Code.weight,Code.isCreation,Code.isGuard,Code.isCaller,Code.frames,Uw,guardIds]
theorem rP {A:PF}{C:OR}{us:List Value}{kw:List (Str×Value)}:(A.under (.builtin "type.__call__" ⟨.ref C :: us,kw⟩)).units=A.units+1:=by
 first|rfl|simp[Ud,Code.cUnits,Code.frames,Uw]
theorem bx.make {k:Nat}{A:PF} (r:bx (k+1) A) (C:OR) (us:List Value) (kw:List (Str×Value)):bx k (A.under (.builtin "type.__call__" ⟨.ref C :: us,kw⟩)) :=
 ⟨r.hd,by have:=r.dp;rw[rO];lia,by have:=r.un;rw[rP];lia⟩
theorem bx.depth {k:Nat}{A:PF} (r:bx k A):A.depth < recursionLimit:=by have:=r.dp;lia
def xT:TA:=fun _ H Q=>Q [] H
def Ei (ta:TE) (tr:TA):TA:=fun σ H Q=>ta σ H fun x H1=>tr σ H1 fun xs H2=>Q (x :: xs) H2
section
variable {X:Cx}{e:Rm}{es:List Rm}{te:TE}{t:TA}{pos:Pos}
theorem gX:PA X [] xT:=fun _ _ _ _ H Q I h=>QL ⟨[],H,I,.nil,h⟩
theorem cF (ha:PE X e te) (hr:PA X es t) (hs:Pe (e :: es) X.env=(false,eval e X.env) :: Pe es X.env:=by rfl):PA X (e :: es) (Ei te t):=by
 intro pos zt s σ H Q I h
 rw[hs]
 show wpAny _ _ (Se ((false,eval e X.env) :: QA pos (Pe es X.env))) _ _ s
 refine P4 (thn (ha zt s σ H _ I h) fun u s1 zq=>?_)
 obtain ⟨x,H1,I1,r1,q1⟩:=zq
 exact thn (hr pos zt s1 σ H1 _ I1 q1) fun us s2 ⟨xs,H2,I2,r2,q2⟩=>⟨x :: xs,H2,I2,.cons r1 r2,q2⟩
def IQ (t:TA):TE:=fun σ H Q=>t σ H fun xs H1=>xs.length<=sizeLine/\∀ p,H1 p=none->Q (.ref p) (upd H1 p (.tup xs))
def IR (t:TA):TE:=fun σ H Q=>t σ H fun xs H1=>xs.length<=sizeLine/\∀ p,H1 p=none->Q (.ref p) (upd H1 p (.lst xs))
theorem Fk {x1} (h:PA X es t):PE X (.Tuple es x1 pos) (IQ t):=by
 intro zt s σ H Q I hq
 refine wpAny_Tuple_spliced (thn (h pos zt s σ H _ I hq) fun us s1 ⟨xs,H1,I1,r,z,q⟩=>⟨by rw[← r.length];exact z,?_⟩)
 have hf:H1 s1.heap.objs.size=none:=I1.hok.fresh (OX _)
 refine ⟨.ref s1.heap.objs.size,upd H1 s1.heap.objs.size (.tup xs),I1.laid (t':=s1.toks) (fun b u e=>OS _ e) (OX _) ?_,rfl,q _ hf⟩
 exact ⟨z,us,r,⟨_,Pf _ rfl,rfl,_,rfl⟩⟩
theorem Fo (h:PA X es t):PE X (.List es pos) (IR t):=by
 intro zt s σ H Q I hq
 refine wpAny_List_spliced (thn (h pos zt s σ H _ I hq) fun us s1 ⟨xs,H1,I1,r,z,q⟩=>⟨by rw[← r.length];exact z,?_⟩)
 have hf:H1 s1.heap.objs.size=none:=I1.hok.fresh (OX _)
 refine ⟨.ref s1.heap.objs.size,upd H1 s1.heap.objs.size (.lst xs),I1.laid (t':=s1.toks) (fun b u e=>OS _ e) (OX _) ?_,rfl,q _ hf⟩
 exact ⟨z,us,0,r,Pf _ rfl⟩
end
abbrev Sp:=List V->Hp->VK->XK->Prop
abbrev CXT:=List Env->Hp->OP->XK->Value->OP->Prop
structure jq (P:OU) (w:Pa) (K:OM) (mg:Str->Option Value) (base:Heap) (A:PF) (outer:List Env) (s:OP) (H:Hp):Prop where
 frames:A.frames=some outer
 mod:Mod K mg base
 bs:∀ b o,base.get? b=some o->s.heap.get? b=some o/\H b=none
 bsz:base.objs.size<=s.heap.objs.size
 fW:s.heap.FunFrames base outer
 frf:∀ b∈frs outer,H b=none
 hok:HOk P w H s.heap
 bare:Tf s.gens
inductive CE (outer:List Env) (P:OU) (w:Pa) (H:Hp) (s:OP) (Q:VK) (u:Value) (s':OP):Prop where
 | mk (v:V) (H':Hp) (os:s'.os=s.os) (b:Tf s'.gens) (un:Un (frs outer) [] H H' s.heap s'.heap) (hk:HOk P w H' s'.heap) (r:RelV v u) (q:Q v H'):CE outer P w H s Q u s'
def CR (CX:CXT) (outer:List Env) (P:OU) (w:Pa) (H:Hp) (s:OP) (Q:VK) (E:XK) (r:Result) (s':OP):Prop :=
 match r with
 | .ok (.ret u)=>CE outer P w H s Q u s'
 | .ok _=>False
 | .error e=>CX outer H s E e s'
structure cK (P:OU) (w:Pa) (K:OM) (mg:Str->Option Value) (base:Heap) (CX:CXT) (k:Nat) (f:OR) (fd:PN) (ps:List Str) (sp:Sp):Prop where
 len:∀ vs H Q E,sp vs H Q E->vs.length=ps.length
 run:∀ (A:PF) (outer:List Env) (s:OP) (H:Hp) (args:Args) (us:List Value) (vs:List V) (Q:VK) (E:XK),bx k A->jq P w K mg base A outer s H->BindsTo s fd args (ps.zip us)->az vs us->sp vs H Q E →
  codeAny (Pc P w) A (.call (.ref f) args) (CR CX outer P w H s Q E) s
theorem jq.make {P:OU}{w:Pa}{K:OM}{mg:Str->Option Value}{base:Heap}{A:PF}{outer:List Env}{s:OP}{H:Hp} (e:jq P w K mg base A outer s H) (C:OR) (us:List Value) (kw:List (Str×Value)) :
 jq P w K mg base (A.under (.builtin "type.__call__" ⟨.ref C :: us,kw⟩)) outer s H:=⟨by first | exact e.frames | (simpa [Ud,Code.envs,Uw,pushEnvs] using e.frames),e.mod,e.bs,e.bsz,e.fW,e.frf,e.hok,e.bare⟩
section
variable {X:Cx}{zt:List (OR×Obj)}{σ:St}{H:Hp}{s s':OP}
theorem Inv.Bt (I:Inv X zt σ H s):jq X.prog X.w X.K X.mg X.base X.A X.stack s H :=
 ⟨I.ok.frames,I.ok.mod,I.bs,PL I.ok.bsz I.sz,I.stack,I.kQ,I.hok,I.bare⟩
theorem Inv.after {Q:VK}{u:Value} (I:Inv X zt σ H s) (h:CE X.stack X.prog X.w H s Q u s'):EP X zt σ Q u s':=by
 obtain ⟨v,H',os,bare,un,hok,r,q⟩:=h
 obtain ⟨hh,g,d,t,os'⟩:=s'
 obtain rfl:os'=s.os:=os
 exact ⟨v,H',I.call (h':=hh) (g':=g) (d':=d) (t':=t) (ch:=[]) un hok bare (fun b z=>absurd z (by simp)),r,q⟩
end
def tP (sp:Sp) (dvs:List V) (E:XK) (t:TA):TE:=fun σ H Q=>t σ H fun vs H1=>sp (vs++dvs) H1 Q E
def tQ (C:OR) (m:Str) (sp:Sp) (dvs:List V) (E:XK) (ta:TE) (t:TA):TE:=fun σ H Q=>ta σ H fun x H1=>∃ a dx fs,x=.ref a/\H1 a=some (.ins C dx fs)/\fs.lookup m=none ∧
 t σ H1 fun vs H2=>sp (x :: (vs++dvs)) H2 Q E
def xU (C:OR) (sp:Sp) (dvs:List V) (E:XK) (t:TA):TE:=fun σ H Q=>t σ H fun vs H1=>∀ x dx,H1 x=none->H1 dx=none->dx≠x →
 sp (.ref x :: (vs++dvs)) (upd (upd H1 dx (.own x)) x (.ins C dx [])) (fun v H2=>v=.non/\Q (.ref x) H2) E
def Binds (K:OM) (fd:PN) (ps:List Str) (ds:List Value):Prop :=
 ∀ (s:OP) (us:List Value),K.In s.heap->(us++ds).length=ps.length->BindsTo s fd ⟨us,[]⟩ (ps.zip (us++ds))
theorem Binds.all {K:OM}{fd:PN}{ps:List Str} (h:∀ us:List Value,us.length=ps.length->T8 fd ⟨us,[]⟩=pure (ps.zip us)):Binds K fd ps []:=fun s us _ hl=>by
 rw[Pr] at hl ⊢
 exact .of_eq (h us hl)
def dW (CX:CXT) (X:Cx) (E:XK):Prop:=∀ (zt:List (OR×Obj)) (σ:St) (H:Hp) (s:OP) (e:Value) (s':OP),Inv X zt σ H s->CX X.stack H s E e s'->X.xe e s'
section
variable {X:Cx}{CX:CXT}{k:Nat}{f C:OR}{fd:PN}{ps:List Str}{sp:Sp}{dvs:List V}{ds:List Value}{E:XK}{x m:Str}{p pos apos:Pos}{e o:Rm}{es:List Rm}{ta:TE}{t:TA}
theorem lD {zt:List (OR×Obj)}{σ:St}{H:Hp}{s:OP}{Q:VK}{us:List Value}{vs:List V} (F:cK X.prog X.w X.K X.mg X.base CX k f fd ps sp) (hr:bx k X.A) (hb:Binds X.K fd ps ds) (hd:az dvs ds) (hx:dW CX X E)
 (I:Inv X zt σ H s) (r:az vs us) (h:sp (vs++dvs) H Q E):wpAny (Pc X.prog X.w) X.A (call (.ref f) us) (EP X zt σ Q) X.xe s:=by
 have r2:az (vs++dvs) (us++ds):=r.append hd
 have hl:(us++ds).length=ps.length:=by rw[← r2.length];exact F.len _ _ _ _ h
 refine R6 (Q6 (F.run X.A X.stack s H ⟨us,[]⟩ (us++ds) (vs++dvs) Q E hr I.Bt (hb s us I.kIn hl) r2 h) fun r s' hq=>?_)
 cases r with
 | error e=>exact hx zt σ H s e s' I hq
 | ok fl =>
  cases fl with
  | ret u=>exact I.after hq
  | _=>exact Pk hq
theorem tR (F:cK X.prog X.w X.K X.mg X.base CX k f fd ps sp) (hr:bx k X.A) (hg:Gl X x) (hm:X.mg x=some (.ref f)) (hk:Po X.K (.ref f)=true) (hb:Binds X.K fd ps ds) (hd:az dvs ds) (hx:dW CX X E)
 (ha:PA X (e :: es) t) (hdb:(x==("__debug__":Str))=false:=by decide) (he:Pe (e :: es) X.env=(false,eval e X.env) :: Pe es X.env:=by rfl) (hpl:(QA pos (Pe es X.env)).any (·.1)=false:=by rfl) :
 PE X (.Call (.Name x p) (e :: es) [] pos) (tP sp dvs E t):=by
 intro zt s σ H Q I h
 refine P6 (fE I hg hm ?_ hdb)
 refine Qk (h₀:=X.base) I.ok.mod.kin hk (thn (ha pos zt s σ H _ I h) fun us s1 ⟨vs,H1,I1,r,q⟩=>⟨I1.kIn,?_⟩) he hpl
 exact lD F hr hb hd hx I1 r q
theorem qa (F:cK X.prog X.w X.K X.mg X.base CX k f fd ps sp) (hr:bx k X.A) (hg:Gl X x) (hm:X.mg x=some (.ref f)) (hk:Po X.K (.ref f)=true) (hb:Binds X.K fd ps ds) (hd:az dvs ds) (hx:dW CX X E)
 (hdb:(x==("__debug__":Str))=false:=by decide):PE X (.Call (.Name x p) [] [] pos) (tP sp dvs E xT):=by
 intro zt s σ H Q I h
 refine P6 (fE I hg hm ?_ hdb)
 exact Sj I.kIn hk (lD (us:=[]) F hr hb hd hx I .nil h)
theorem tS {pl:Sem Bool} (he:PE X o ta) (c:Cls X.K C) (hm:pZ X.K C m f) (F:cK X.prog X.w X.K X.mg X.base CX k f fd ps sp) (hr:bx k X.A) (hb:Binds X.K fd ps ds) (hd:az dvs ds) (hx:dW CX X E) (ha:PA X (e :: es) t)
 (hst:Pe (e :: es) X.env=(false,eval e X.env) :: Pe es X.env:=by rfl) (hpl:(QA pos (Pe es X.env)).any (·.1)=false:=by rfl)
 (ht:eval (.Call (.Attribute o m apos) (e :: es) [] pos) X.env=(do
  let ov ← eval o X.env
  standAt apos.atName
  let (f,first) ← holding [ov] (Tn ov m pl)
  callWith pos f first (QA pos (Pe (e :: es) X.env)) (SL pos (Rj [] X.env))):=by rfl) :
 PE X (.Call (.Attribute o m apos) (e :: es) [] pos) (tQ C m sp dvs E ta t):=by
 intro zt s σ H Q I h
 refine Q7 (pl:=pl) (thn (he zt s σ H _ I h) fun u s1 ⟨x,H1,I1,rx,a,dx,fs,ex,ea,l,q⟩=>?_) ht
 subst ex
 obtain rfl:u=Pp a:=rx
 refine gy I1 ea c hm l ?_
 refine Qk (first:=[.ref a]) (h₀:=X.base) I.ok.mod.kin hm.kp (thn (ha pos zt s1 σ H1 _ I1 q) fun us s2 ⟨vs,H2,I2,r,q2⟩=>⟨I2.kIn,?_⟩) hst hpl
 exact lD (us:=.ref a :: us) (vs:=.ref a :: vs) F hr hb hd hx I2 (.cons rfl r) q2
theorem qb {pl:Sem Bool} (he:PE X o ta) (c:Cls X.K C) (hm:pZ X.K C m f) (F:cK X.prog X.w X.K X.mg X.base CX k f fd ps sp) (hr:bx k X.A) (hb:Binds X.K fd ps ds) (hd:az dvs ds) (hx:dW CX X E)
 (ht:eval (.Call (.Attribute o m apos) [] [] pos) X.env=(do
  let ov ← eval o X.env
  standAt apos.atName
  let (f,first) ← holding [ov] (Tn ov m pl)
  callWith pos f first (QA pos (Pe [] X.env)) (SL pos (Rj [] X.env))):=by rfl) :
 PE X (.Call (.Attribute o m apos) [] [] pos) (tQ C m sp dvs E ta xT):=by
 intro zt s σ H Q I h
 refine Q7 (pl:=pl) (thn (he zt s σ H _ I h) fun u s1 ⟨x,H1,I1,rx,a,dx,fs,ex,ea,l,q⟩=>?_) ht
 subst ex
 obtain rfl:u=Pp a:=rx
 refine gy I1 ea c hm l ?_
 exact Sj (first:=[.ref a]) I1.kIn hm.kp (lD (us:=[.ref a]) (vs:=[.ref a]) F hr hb hd hx I1 (.cons rfl .nil) q)
structure Mk (K:OM) (C f:OR):Prop where
 makes:Td K C=true
 init:Pv K (.ref C) "__init__"=some (some (.ref f))
 fn:SN K (.ref f)=true
 kp:Po K (.ref C)=true
theorem qc {zt:List (OR×Obj)}{σ:St}{H:Hp}{s:OP}{Q:VK}{us:List Value}{vs:List V} (M:Mk X.K C f) (F:cK X.prog X.w X.K X.mg X.base CX k f fd ps sp) (hr:bx (k+1) X.A) (hb:Binds X.K fd ps ds) (hd:az dvs ds)
 (hx:dW CX X E) (I:Inv X zt σ H s) (r:az vs us)
 (h:∀ x dx,H x=none->H dx=none->dx≠x->sp (.ref x :: (vs++dvs)) (upd (upd H dx (.own x)) x (.ins C dx [])) (fun v H2=>v=.non/\Q (.ref x) H2) E) :
 wpAny (Pc X.prog X.w) X.A (call (.ref C) us) (EP X zt σ Q) X.xe s:=by
 have hq:=h (s.heap.objs.size+1) s.heap.objs.size (I.hok.fresh (Qd _)) (I.hok.fresh (OX _)) (Py (QW _))
 have I2:=Inv.made (C:=C) I
 have r2:az (V.ref (s.heap.objs.size+1) :: (vs++dvs)) (Pp (s.heap.objs.size+1) :: (us++ds)):=.cons rfl (r.append hd)
 have hl:(Pp (s.heap.objs.size+1) :: us++ds).length=ps.length:=by
  have e:=r2.length
  rw[F.len _ _ _ _ hq] at e
  exact e.symm
 refine R6 (xS (f:=f) I.kIn M.makes M.init (beq_iff_eq.mp M.fn) (Q6 (F.run _ X.stack _ _ ⟨Pp (s.heap.objs.size+1) :: us,[]⟩ (Pp (s.heap.objs.size+1) :: (us++ds)) _ _ E (hr.make C us [])
  (I2.Bt.make C us []) (hb _ (Pp (s.heap.objs.size+1) :: us) I2.kIn hl) r2 hq) fun r s' hq'=>?_))
 cases r with
 | error e=>exact hx zt σ _ _ e s' I2 hq'
 | ok fl =>
  cases fl with
  | ret u =>
   obtain ⟨v,H',I3,rv,ev,q3⟩:=I2.after hq'
   subst ev
   exact ⟨rv,⟨V.ref (s.heap.objs.size+1),H',I3,rfl,q3⟩⟩
  | _=>exact Pk hq'
theorem Bu (M:Mk X.K C f) (F:cK X.prog X.w X.K X.mg X.base CX k f fd ps sp) (hr:bx (k+1) X.A) (hg:Gl X x) (hm:X.mg x=some (.ref C)) (hb:Binds X.K fd ps ds) (hd:az dvs ds) (hx:dW CX X E)
 (ha:PA X (e :: es) t) (hdb:(x==("__debug__":Str))=false:=by decide) (he:Pe (e :: es) X.env=(false,eval e X.env) :: Pe es X.env:=by rfl) (hpl:(QA pos (Pe es X.env)).any (·.1)=false:=by rfl) :
 PE X (.Call (.Name x p) (e :: es) [] pos) (xU C sp dvs E t):=by
 intro zt s σ H Q I h
 refine P6 (fE I hg hm ?_ hdb)
 refine Qk (h₀:=X.base) I.ok.mod.kin M.kp (thn (ha pos zt s σ H _ I h) fun us s1 ⟨vs,H1,I1,r,q⟩=>⟨I1.kIn,?_⟩) he hpl
 exact qc M F hr hb hd hx I1 r q
theorem xV (M:Mk X.K C f) (F:cK X.prog X.w X.K X.mg X.base CX k f fd ps sp) (hr:bx (k+1) X.A) (hg:Gl X x) (hm:X.mg x=some (.ref C)) (hb:Binds X.K fd ps ds) (hd:az dvs ds) (hx:dW CX X E)
 (hdb:(x==("__debug__":Str))=false:=by decide):PE X (.Call (.Name x p) [] [] pos) (xU C sp dvs E xT):=by
 intro zt s σ H Q I h
 refine P6 (fE I hg hm ?_ hdb)
 exact Sj I.kIn M.kp (qc (us:=[]) M F hr hb hd hx I .nil h)
end
section
variable {X:Cx}{CX:CXT}{k:Nat}{f C:OR}{fd:PN}{ps ks:List Str}{sp:Sp}{E:XK}{x m:Str}{p pos apos kpos:Pos}{e o:Rm}{es:List Rm}{kws:List Te}{te ta:TE}{t tk:TA}{nm:Option Str}
variable {g:List Value->List Value->List Value}{gV:List V->List V->List V}
end
structure aN (N P:List Str) (sc:O6):Prop where
 kind:sc.kind=.function
 co:sc.isCoroutine=false
 gen:sc.isGenerator=false
 nd:N.Nodup
 pre:N.take P.length=P
 par:∀ x∈P,sc.names.lookup x=some .local\/sc.names.lookup x=some .cell
 nofree:∀ y∈sc.names,y.2≠.free
theorem nG {kindOf:Str->Option QV}{x:Str}:∀ {binds:List (Str×Value)}{m:Str->Option Value},(∀ v,(x,v)∉binds)->bindL kindOf binds m x=m x
 | [],_,_=>rfl
 | (n,v) :: r,m,h=>by
  unfold bindL
  rw[nG fun w hw=>h w (O8 _ hw)]
  split
  ·have:x≠n:=by rintro rfl;exact h v Pj
   simp[this]
  ·rfl
theorem nI {kindOf:Str->Option QV}{x:Str}:∀ {binds:List (Str×Value)}{m:Str->Option Value},(∀ v,(x,v)∉binds)->bindC kindOf binds m x=m x
 | [],_,_=>rfl
 | (n,v) :: r,m,h=>by
  unfold bindC
  rw[nI fun w hw=>h w (O8 _ hw)]
  split
  ·rfl
  ·have:x≠n:=by rintro rfl;exact h v Pj
   simp[this]
theorem nJ {kindOf:Str->Option QV}{x:Str}{v:Value}:∀ {P:List Str}{vs:List Value}{i:Nat}{m:Str->Option Value},P.Nodup->P[i]?=some x->vs[i]?=some v->kindOf x=some .local →
 bindL kindOf (P.zip vs) m x=some v
 | [],_,_,_,_,h,_,_=>by simp at h
 | _ :: _,[],_,_,_,_,h,_=>by simp at h
 | p :: P,w :: vs,0,m,nd,h1,h2,hk=>by
  simp at h1 h2;subst h1;subst h2
  show bindL kindOf ((p,w) :: P.zip vs) m p=_
  unfold bindL
  rw[nG fun v hv=>(List.nodup_cons.mp nd).1 (Rq hv).1,if_pos hk]
  simp
 | p :: P,w :: vs,i+1,m,nd,h1,h2,hk=>by
  show bindL kindOf ((p,w) :: P.zip vs) m x=_
  unfold bindL
  exact nJ (i:=i) (List.nodup_cons.mp nd).2 (by simpa using h1) (by simpa using h2) hk
theorem nK {kindOf:Str->Option QV}{x:Str}{v:Value}:∀ {P:List Str}{vs:List Value}{i:Nat}{m:Str->Option Value},P.Nodup->P[i]?=some x->vs[i]?=some v->kindOf x≠some .local →
 bindC kindOf (P.zip vs) m x=some v
 | [],_,_,_,_,h,_,_=>by simp at h
 | _ :: _,[],_,_,_,_,h,_=>by simp at h
 | p :: P,w :: vs,0,m,nd,h1,h2,hk=>by
  simp at h1 h2;subst h1;subst h2
  show bindC kindOf ((p,w) :: P.zip vs) m p=_
  unfold bindC
  rw[nI fun v hv=>(List.nodup_cons.mp nd).1 (Rq hv).1,if_neg hk]
  simp
 | p :: P,w :: vs,i+1,m,nd,h1,h2,hk=>by
  show bindC kindOf ((p,w) :: P.zip vs) m x=_
  unfold bindC
  exact nK (i:=i) (List.nodup_cons.mp nd).2 (by simpa using h1) (by simpa using h2) hk
noncomputable def start (N:List Str) (vs:List V):St:=vs.map some++O7 (N.length - vs.length) none
noncomputable def aJ (CX:CXT) (P:OU) (w:Pa) (K:OM) (mg:Str->Option Value) (base:Heap) (N:List Str) (qual:Str) (scope:O6) (f:OR) (cd:Value) (A:PF) (outer:List Env) (s:OP) (H:Hp) (E:XK):Cx where
 prog:=P
 w:=w
 K:=K
 mg:=mg
 base:=base
 A:=A.deeper (Q4 qual scope s.heap.objs.size f cd)
 N:=N
 s₀:=s
 H₀:=H
 env:=Q4 qual scope s.heap.objs.size f cd
 outer:=outer
 stack:=Q4 qual scope s.heap.objs.size f cd :: outer
 ex:=[]
 calm:=true
 fn:=fun _=>true
 pn:=[]
 xe:=fun e s'=>wpAny (Pc P w) (A.deeper (Q4 qual scope s.heap.objs.size f cd)) (leaving (Q4 qual scope s.heap.objs.size f cd) e) (fun _ s''=>CX outer H s E e s'') (fun e' s''=>CX outer H s E e' s'') s'
theorem qd {sc:O6}{n:Nat}{x:Str} (h:sc.names.lookup x=some .cell):∃ c,(Ue n sc.names []).lookup x=some c:=by
 have q:=RK sc.names n [] (.inl h)
 exact Option.isSome_iff_exists.mp q
theorem nL {CX:CXT}{P:OU}{w:Pa}{K:OM}{mg:Str->Option Value}{base:Heap}{N ps:List Str}{qual:Str}{scope:O6}{f:OR}{cd:Value}{A:PF}{outer:List Env}{s s1:OP}{H:Hp}{E:XK}{us:List Value}{vs:List V}
 (S:aN N ps scope) (hd:A.handled=none) (e0:jq P w K mg base A outer s H) (hl:vs.length=ps.length) (r:az vs us)
 (x:InCallC s s.heap.objs.size (bindL (Q4 qual scope s.heap.objs.size f cd).kindOf (ps.zip us) fun _=>none) (Ue (s.heap.objs.size+1) scope.names []) (bindC (Q4 qual scope s.heap.objs.size f cd).kindOf (ps.zip us) fun _=>none) s1) :
 Inv (aJ CX P w K mg base N qual scope f cd A outer s H E) [] (start N vs) H s1:=by
 have hpl:ps.length<=N.length:=by have:=congrArg RO S.pre;rw[Ti] at this;lia
 obtain ⟨h1,tk,rfl,hk⟩:=x.done
 have noA:∀ b:OR,b∉(aJ CX P w K mg base N qual scope f cd A outer s H E).ex:=fun b z=>absurd (show b∈([]:List OR) from z) (by simp)
 refine ⟨⟨e0.mod,S.kind,rfl,rfl,OX _,fun y z c h1 h2=>?_,fun y hy=>?_,fun y c _ h=>?_,fun _=>hd,Sd e0.frames,.inr ⟨rfl,rfl⟩,fun b z=>absurd z (noA b),e0.bs,e0.bsz,fun b _ _=>noA b,fun b z=>absurd z (noA b),e0.fW,e0.frf⟩,
  rfl,e0.bare,Un.kept hk,⟨_,x.toInCall.ns,fun i y v h1 h2 h3=>?_⟩,fun y c h=>⟨_,x.cell y c h⟩,e0.hok.fresh (OX _),fun y c h=>?_,fun p hp=>absurd (show p∈([]:List (OR×Obj)) from hp) (by simp),e0.hok.kept hk,?_⟩
 ·exact name_of_addr x.apart (Qi h1) (Qi h2)
 ·have hy:scope.names.lookup y=some .cell\/scope.names.lookup y=some .free:=hy
  rcases hy with hy|hy
  ·exact qd hy
  ·exact absurd rfl (S.nofree _ (Qi hy))
 ·exact QK (x.above y c (Qi h))
 ·have hi:i < vs.length:=by
   unfold start at h2
   by_cases hi:i < vs.length
   ·exact hi
   ·rw[Pd (by simpa using hi)] at h2
    rw[Qg] at h2
    split at h2<;>cases h2
  have ha:vs[i]?=some v:=by
   unfold start at h2
   rw[OW (by simpa using hi),Pb] at h2
   cases e:vs[i]? with
   | none=>rw[e] at h2;cases h2
   | some a=>rw[e] at h2;cases h2;rfl
  obtain ⟨u,hu,rv⟩:=r.get ha
  have hp:ps[i]?=some y:=by
   rw[← S.pre,Q0 (by lia)];exact h1
  have ndP:ps.Nodup:=by rw[← S.pre];exact S.nd.sublist (List.take_sublist _ _)
  refine ⟨u,rv,?_⟩
  rcases S.par y (O5 hp) with k|k
  ·exact .inl ⟨k,nJ ndP hp hu k⟩
  ·obtain ⟨c,e⟩:=qd (n:=s.heap.objs.size+1) k
   refine .inr ⟨.inl k,c,e,?_⟩
   have q:=x.cell y c e
   rw[nK ndP hp hu (by show scope.names.lookup y≠_;rw[k];decide)] at q
   exact q
 ·exact e0.hok.fresh (QK (x.above y c (Qi h)))
 ·unfold start
  show _=N.length
  rw[PK,Pq,Re]
  lia
theorem xW {CX:CXT}{P:OU}{w:Pa}{K:OM}{mg:Str->Option Value}{base:Heap}{k:Nat}{f:OR}{name qual:Str}{params:Qo}{body:List Sx}{scope:O6}{dV kV doc pm cdv ct oc:Value}{an od:Option OR}
 {osl:Array (Option Value)}{N ps:List Str}{sp:Sp} (lk:K.lookup f=some ⟨oc,od,.func (P5 name qual params body scope dV kV doc pm an cdv ct),osl⟩) (hcd:Ru K cdv qual=true) (S:aN N ps scope)
 (len:∀ vs H Q E,sp vs H Q E->vs.length=ps.length)
 (hbody:∀ (A:PF) (outer:List Env) (s:OP) (H:Hp) (vs:List V) (Q:VK) (E:XK),bx k (A.deeper (Q4 qual scope s.heap.objs.size f cdv))->sp vs H Q E →
  ∃ t,PSs (aJ CX P w K mg base N qual scope f cdv A outer s H E) body t/\t { nx:=fun _ H'=>Q .non H',rt:=Q } (start N vs) H) :
 cK P w K mg base CX (k+1) f (P5 name qual params body scope dV kV doc pm an cdv ct) ps sp:=by
 refine ⟨len,fun A outer s H args us vs Q E hr e0 hb r hsp=>?_⟩
 have hl:=len _ _ _ _ hsp
 have KX:K.In s.heap:=e0.mod.kin.keeps fun b o e=>(e0.bs b o e).1
 have lim:s.heap.NoLimit:=e0.mod.nolimit.keeps fun b o e=>(e0.bs b o e).1
 have hkind:∀ y∈ps.zip us,scope.names.lookup y.1=some .local\/(scope.names.lookup y.1=some .cell/\((Ue (s.heap.objs.size+1) scope.names []).lookup y.1).isSome=true):=fun ⟨n,v⟩ hy=>by
  rcases S.par n (Rq hy).1 with q|q
  ·exact .inl q
  ·exact .inr ⟨q,RK _ _ _ (.inl q)⟩
 refine codeAny_call_function hr.depth (KX _ _ lk) rfl S.co S.gen rfl (Uu KX hcd) (hb _ _ _ _ ?_)
 refine Ur S.kind hkind fun env he s1 x=>?_
 subst he
 refine ⟨lim.keeps x.toInCall.keep,codeAny_func ?_⟩
 obtain ⟨t,ht,hq⟩:=hbody A outer s H vs Q E (hr.deeper _) hsp
 have I:Inv (aJ CX P w K mg base N qual scope f cdv A outer s H E) [] (start N vs) H s1:=nL S hr.hd e0 hl r x
 refine wpAny_mono (ht [] s1 (start N vs) H _ I hq) (fun fl s' hs=>?_) fun e s' hs=>hs
 have fin:∀ {σ':St}{H':Hp}{v:V}{u:Value},Inv (aJ CX P w K mg base N qual scope f cdv A outer s H E) [] σ' H' s'->RelV v u->Q v H'->CE outer P w H s Q u s' :=
  fun {σ' H' v u} J rv q=>⟨v,H',J.os,J.bare,J.base,J.hok,rv,q⟩
 cases fl with
 | ret u =>
  obtain ⟨v,σ',H',J,rv,q⟩:=hs
  exact fin J rv q
 | next =>
  obtain ⟨σ',H',J,q⟩:=hs
  exact fin (v:=V.non) (u:=SQ) J rfl q
 | brk =>
  obtain ⟨_,_,_,q⟩:=hs
  exact Pk q
 | cont =>
  obtain ⟨_,_,_,q⟩:=hs
  exact Pk q
end L2
namespace L2
open PySem PySem.Spec PyProof.Rows
section
variable {X:Cx}{x:Str}{p pos:Pos}{e:Rm}{es:List Rm}{t:TA}{id T:String}{r:List V->Hp->VK->Prop}
def tCB (r:List V->Hp->VK->Prop) (t:TA):TE:=fun σ H Q=>t σ H fun vs H1=>r vs H1 Q
theorem fh (hc:cO X (.builtin id) r) (hg:Gl X x) (hm:X.mg x=none) (hv:RN x=some (.builtin id)) (ha:PA X (e :: es) t) (hn:x≠"__name__":=by decide) (hdb:(x==("__debug__":Str))=false:=by decide)
 (he:Pe (e :: es) X.env=(false,eval e X.env) :: Pe es X.env:=by rfl) (hpl:(QA pos (Pe es X.env)).any (·.1)=false:=by rfl):PE X (.Call (.Name x p) (e :: es) [] pos) (tCB r t):=by
 intro zt s σ H Q I h
 refine P6 (ff I hg hm hv ?_ hn hdb)
 exact PyProof.Rows.callWith_builtin1 (thn (ha pos zt s σ H _ I h) fun us s1 ⟨vs,H1,I1,r1,q1⟩=>hc zt s1 σ H1 vs us Q I1 r1 q1) he hpl
theorem iL (hc:cO X (.type T) r) (hg:Gl X x) (hm:X.mg x=none) (hv:RN x=some (.type T)) (ha:PA X (e :: es) t) (hn:x≠"__name__":=by decide) (hdb:(x==("__debug__":Str))=false:=by decide)
 (he:Pe (e :: es) X.env=(false,eval e X.env) :: Pe es X.env:=by rfl) (hpl:(QA pos (Pe es X.env)).any (·.1)=false:=by rfl):PE X (.Call (.Name x p) (e :: es) [] pos) (tCB r t):=by
 intro zt s σ H Q I h
 refine P6 (ff I hg hm hv ?_ hn hdb)
 exact Pw (thn (ha pos zt s σ H _ I h) fun us s1 ⟨vs,H1,I1,r1,q1⟩=>hc zt s1 σ H1 vs us Q I1 r1 q1) he hpl
end
end L2
namespace HT
open PySem PyProof.Rows
section
open PySem.SeqAt
open PySem.AutoSeq1 (wpAny_loadPart')
open PySem.MeetsSeq PySem.MeetsSeq2 PySem.MeetsSeq3
end
section
variable {prog:OU}{w:Pa}{A:PF}{E:Value->OP->Prop}{s:OP}
theorem Bv {t b:OR}{vs ws:List Value}{Q:Value->OP->Prop} (ht:IsTup s.heap t vs.toArray) (hb:IsTup s.heap b ws.toArray) (hv:vs≠[])
 (h1:ws=[]->Q (.ref t) s) (h2:ws≠[]->Q (.ref s.heap.objs.size) { s with heap:=s.heap.push { cls:=.type "tuple",data:=.seq (vs++ws).toArray } })
 (hsz:vs.length+ws.length<=sizeLine):wpAny (Pc prog w) A (Qf .Add (.ref t) (.ref b)) Q E s:=by
 obtain ⟨⟨cls,dd,data,sl⟩,ho,hc,n,hd⟩:=id ht
 obtain ⟨⟨cls2,dd2,data2,sl2⟩,ho2,hc2,n2,hd2⟩:=id hb
 simp only at hc hd hc2 hd2
 subst hc hd hc2 hd2
 have e:vs.toArray++ws.toArray=(vs++ws).toArray:=by simp
 by_cases hw:ws=[]
 ·exact concat_meets ⟨_,ho,rfl⟩ ⟨_,ho2,rfl⟩ T3 UP RL RI (Rx _ _)
   (tuple_addW1 t b vs.toArray ws.toArray n n2 dd dd2 sl sl2 (by simpa using hv) (by simp[hw])) ⟨ho,ho2,h1 hw⟩
 ·refine concat_meets ⟨_,ho,rfl⟩ ⟨_,ho2,rfl⟩ T3 UP RL RI (Rx _ _)
   (tuple_addW2 t b vs.toArray ws.toArray n n2 dd dd2 sl sl2 (by simpa using hv) (by simpa using hw) (by rw[OT,OT];exact hsz)) ⟨ho,ho2,?_⟩
  rw[e]
  exact h2 hw
noncomputable def sIx (n d:Nat):Option Int->Nat
 | none=>d
 | some v=>if v < 0 then (v+(n:Int)).toNat else min v.toNat n
theorem Fp (n d:Nat) (hd:d<=n) (o:Option Int):sIx n d o<=n:=by
 cases o with
 | none=>exact hd
 | some v =>
  show (if v < 0 then (v+(n:Int)).toNat else min v.toNat n)<=n
  by_cases hv:v < 0
  ·rw[if_pos hv];lia
  ·rw[if_neg hv];exact Nat.min_le_right _ _
theorem tT (v:Int) (n d:Nat):(if v < 0 then max (v+(n:Int)) 0 else min v (n:Int))=((sIx n d (some v):Nat):Int):=by
 show (if v < 0 then max (v+(n:Int)) 0 else min v (n:Int))=(((if v < 0 then (v+(n:Int)).toNat else min v.toNat n):Nat):Int)
 by_cases hv:v < 0
 ·simp only[if_pos hv];lia
 ·simp only[if_neg hv];lia
theorem rQ (lo hi:Option Int) (n:Nat):Rh lo hi 1 (n:Int)=(((sIx n 0 lo:Nat):Int),((sIx n n hi:Nat):Int)):=by
 have h1:¬ ((1:Int) < 0):=by lia
 unfold Rh
 simp only[h1,if_false]
 refine Prod.ext ?_ ?_
 ·cases lo with
  | none=>rfl
  | some v=>exact tT v n 0
 ·cases hi with
  | none=>rfl
  | some v=>exact tT v n n
theorem rR (i j:Nat):QD (i:Int) (j:Int) 1=j - i:=by
 unfold QD
 have h1:(1:Int) > 0:=by lia
 simp only[h1,if_true,Int.ediv_one]
 split<;>lia
theorem lE {v:Value}{o:Option Int}{Q:Option Int->OP->Prop} (p:TZ v o) (h:Q o s):wpAny (Pc prog w) A (Builtin.Slice.slicePartIndex v) Q E s:=by
 cases p with
 | none=>exact slicePart_none h
 | int i t=>exact slicePart_int h
theorem fZ {sl:OR}{vl vu:Value}{lo hi:Option Int}{n:Nat}{Q:Int×Int×Nat->OP->Prop} (hs:s.heap.IsSliceOf sl vl vu .none) (pl:TZ vl lo) (pu:TZ vu hi)
 (h:Q (((sIx n 0 lo:Nat):Int),1,sIx n n hi - sIx n 0 lo) s):wpAny (Pc prog w) A (SA (.ref sl) (pure (n:Int))) Q E s:=by
 obtain ⟨os,hos,hcs,hds⟩:=id hs
 unfold SA Builtin.Slice.sliceFields
 refine OY (OY (wpAny_field hos hds (x:=vl) rfl (OY (wpAny_field hos hds (x:=vu) rfl (OY (wpAny_field hos hds (x:=.none) rfl (wpAny_pure ?_)))))))
 refine OY (slicePart_none ?_)
 show wpAny _ _ (if ((1:Int)==0)=true then _ else _) _ _ s
 rw[if_neg (by decide)]
 refine OY (lE pl (OY (lE pu (OY (wpAny_pure ?_)))))
 show wpAny _ _ (match Rh lo hi 1 (n:Int) with|(lo,hi)=>pure (lo,(1:Int),QD lo hi 1)) _ _ s
 rw[rQ lo hi n]
 show wpAny _ _ (pure (((sIx n 0 lo:Nat):Int),(1:Int),QD ((sIx n 0 lo:Nat):Int) ((sIx n n hi:Nat):Int) 1)) _ _ s
 rw[rR]
 exact wpAny_pure h
theorem xX (xs:Array Value) (i k:Nat):((Pu k).filterMap fun (m:Nat)=>xs[((i:Int)+(m:Int)*1).toNat]?).toArray=((xs.toList.drop i).take k).toArray:=by
 have e:(fun (m:Nat)=>xs[((i:Int)+(m:Int)*1).toNat]?)=fun m=>xs[i+m]?:=by
  funext m
  have:((i:Int)+(m:Int)*1).toNat=i+m:=by lia
  rw[this]
 rw[e]
 have:=pick_run xs i k
 rw[List.filterMap_map] at this
 have e2:((fun x=>xs[x]?) ∘ fun x=>i+x)=fun m=>xs[i+m]?:=rfl
 rw[e2] at this
 rw[this]
theorem jr {t sl:OR}{yn:Array Value}{vl vu:Value}{lo hi:Option Int}{Q:Value->OP->Prop} (ht:IsTup s.heap t yn) (hs:s.heap.IsSliceOf sl vl vu .none) (pl:TZ vl lo) (pu:TZ vu hi)
 (hw:¬ (sIx yn.size 0 lo=0/\sIx yn.size yn.size hi=yn.size))
 (h:Q (.ref s.heap.objs.size) { s with heap:=s.heap.push { cls:=.type "tuple",data:=.seq ((yn.toList.drop (sIx yn.size 0 lo)).take (sIx yn.size yn.size hi - sIx yn.size 0 lo)).toArray } })
 (hsz:yn.size<=sizeLine):wpAny (Pc prog w) A (TJ (.ref t) (.ref sl)) Q E s:=by
 have htake:sizeOk (.seq ((yn.toList.drop (sIx yn.size 0 lo)).take (sIx yn.size yn.size hi - sIx yn.size 0 lo)).toArray):=by
  show ((yn.toList.drop (sIx yn.size 0 lo)).take (sIx yn.size yn.size hi - sIx yn.size 0 lo)).toArray.size<=sizeLine
  rw[OT,Ti,List.length_drop,Sw]
  lia
 have hj:sIx yn.size yn.size hi<=yn.size:=Fp _ _ (OX _) hi
 obtain ⟨os,hos,hcs,hds⟩:=id hs
 have hTs:s.TypeIs (.ref sl) "slice":=⟨os,hos,hcs⟩
 unfold TJ
 try with_reducible refine Q9 ?_
 first|refine OY (wpAny_pure ?_)|skip
 refine OY (wpAny_sequenceKey ht.typeIs (by decide) ?_)
 refine OY (UN (name:=O3 "__getitem__") ht.typeIs Ql
  (wpAny_call_entry Ql ht.typeIs entry_tuple_getitem ?_ (args_tuple_getitem _ _)))
 show wpAny _ _ (Sz (.ref t) >>= _) _ _ s
 refine OY (tupleItemsOf_ ht ?_)
 refine OY (wpAny_typeOf hTs ?_)
 rw[if_pos (by decide)]
 refine OY (fZ hs pl pu ?_)
 have hno:¬ ((((sIx yn.size 0 lo:Nat):Int)==0&&(1:Int)==1&&(sIx yn.size yn.size hi - sIx yn.size 0 lo)==yn.size)=true):=by
  intro q
  rw[OQ,OQ] at q
  have q1:((sIx yn.size 0 lo:Nat):Int)=0:=eq_of_beq q.1.1
  have q2:sIx yn.size yn.size hi - sIx yn.size 0 lo=yn.size:=eq_of_beq q.2
  exact hw ⟨by lia,by lia⟩
 show wpAny _ _ (if (((sIx yn.size 0 lo:Nat):Int)==0&&(1:Int)==1&&(sIx yn.size yn.size hi - sIx yn.size 0 lo)==yn.size)=true then _ else _) _ _ s
 rw[if_neg hno,xX]
 first
  | exact OY (m:=QI _) (Ri (wpAny_pure ⟨_,rfl,wpAny_pure h⟩) htake)
  | exact OY (m:=QI _) (Ri (OY (wpAny_pure (wpAny_pure ⟨_,rfl,wpAny_pure h⟩))) htake)
  | exact OY (OY (m:=QI _) (Ri (wpAny_pure (wpAny_pure ⟨_,rfl,wpAny_pure h⟩)) htake))
  | exact OY (OY (m:=QI _) (Ri (wpAny_pure ⟨_,rfl,wpAny_pure h⟩) htake))
end
end HT
namespace L2
open PySem PySem.Spec PyProof.Rows
abbrev TO:=St->Hp->(Option Int->Hp->Prop)->Prop
def PO (X:Cx) (e:Option Rm) (t:TO):Prop :=
 ∀ (zt:List (OR×Obj)) (s:OP) (σ:St) (H:Hp) (Q:Option Int->Hp->Prop),Inv X zt σ H s->t σ H Q →
  wpAny (Pc X.prog X.w) X.A (evalPart e X.env) (fun u s'=>∃ o H',Inv X zt σ H' s'/\TZ u o/\Q o H') X.xe s
def Bw:TO:=fun _ H Q=>Q none H
def IS (t:TE):TO:=fun σ H Q=>t σ H fun x H1=>∃ i,x=.int i/\Q (some i) H1
section
variable {X:Cx}{e:Rm}{te:TE}{lo hi:Option Rm}{tl th:TO}{pos p2:Pos}
theorem Bx:PO X none Bw:=by
 intro zt s σ H Q I h
 rw[US]
 exact wpAny_pure ⟨none,H,I,.none,h⟩
theorem By (h:PE X e te):PO X (some e) (IS te):=by
 intro zt s σ H Q I hw
 rw[evalPart_some]
 refine thn (h zt s σ H _ I hw) fun u s1 zq=>?_
 obtain ⟨x,H1,I1,r1,q1⟩:=zq
 obtain ⟨i,rfl,q⟩:=q1
 obtain ⟨t,rfl⟩:=r1
 exact ⟨some i,H1,I1,.int i t,q⟩
def SlR (X:Cx) (r:V->Option Int->Option Int->Hp->VK->Prop):Prop :=
 ∀ (zt:List (OR×Obj)) (s:OP) (σ:St) (H:Hp) (x:V) (v vl vu:Value) (lo hi:Option Int) (sl:OR) (Q:VK),Inv X zt σ H s->RelV x v->s.heap.IsSliceOf sl vl vu .none->TZ vl lo->TZ vu hi->r x lo hi H Q →
  ∃ T id,typeLookup (.type T) "__getitem__"=pure (some (.builtin id))/\s.TypeIs v T/\wpAny (Pc X.prog X.w) X.A (TJ v (.ref sl)) (EP X zt σ Q) X.xe s
def tSl (r:V->Option Int->Option Int->Hp->VK->Prop) (te:TE) (tl th:TO):TE:=fun σ H Q=>te σ H fun x H1=>tl σ H1 fun l H2=>th σ H2 fun u H3=>r x l u H3 Q
theorem xY {r:V->Option Int->Option Int->Hp->VK->Prop} (hr:SlR X r) (he:PE X e te) (hl:PO X lo tl) (hu:PO X hi th):PE X (.Subscript e (.Slice lo hi none p2) pos) (tSl r te tl th):=by
 intro zt s σ H Q I h
 refine Subscript_ (thn (he zt s σ H _ I h) fun v s1 zq=>?_)
 obtain ⟨x,H1,I1,r1,q1⟩:=zq
 refine wpAny_Slice (thn (hl zt s1 σ H1 _ I1 q1) fun vl s2 ⟨l,H2,I2,pl,q2⟩=>thn (hu zt s2 σ H2 _ I2 q2) fun vu s3 zq=>?_)
 obtain ⟨u,H3,I3,pu,q3⟩:=zq
 rw[US]
 refine wpAny_pure ?_
 have I4:Inv X zt σ H3 { s3 with heap:=s3.heap.push { cls:=.type "slice",data:=.fields #[vl,vu,.none] } }:=I3.kept (t':=s3.toks) fun b ob q=>OS _ q
 obtain ⟨T,id,hT,ht,hg⟩:=hr zt { s3 with heap:=s3.heap.push { cls:=.type "slice",data:=.fields #[vl,vu,.none] } } σ H3 x v vl vu l u s3.heap.objs.size Q I4 r1 (Tv ..) pl pu q3
 show wpAny (Pc X.prog X.w) X.A (UO e (.Slice lo hi none p2) v (.ref s3.heap.objs.size)) (EP X zt σ Q) X.xe { s3 with heap:=s3.heap.push { cls:=.type "slice",data:=.fields #[vl,vu,.none] } }
 exact tail_any (ops:=[.ref s3.heap.objs.size,v]) ht hT hg (by with_unfolding_all rfl)
noncomputable def qe (xs:List V) (lo hi:Option Int):List V:=(xs.drop (HT.sIx xs.length 0 lo)).take (HT.sIx xs.length xs.length hi - HT.sIx xs.length 0 lo)
theorem kq (xs:List V) (lo hi:Option Int):(qe xs lo hi).length<=xs.length:=by
 unfold qe
 rw[Ti,List.length_drop]
 lia
def Mi (K:OM):V->Option Int->Option Int->Hp->VK->Prop:=fun x lo hi H Q=>∃ a xs,x=.ref a/\SqT K H a xs ∧
 ¬ (HT.sIx xs.length 0 lo=0/\HT.sIx xs.length xs.length hi=xs.length)/\∀ p,H p=none->Q (.ref p) (upd H p (.tup (qe xs lo hi)))
theorem Fq:SlR X (Mi X.K):=by
 intro zt s σ H x v vl vu lo hi sl Q I rx hs pl pu h
 obtain ⟨a,xs,rfl,hx,hw,q⟩:=h
 cases rx
 obtain ⟨its,r,ht,hz⟩:=I.tuple hx
 have hlen:its.toArray.size=xs.length:=by rw[OT];exact r.length.symm
 refine ⟨"tuple",_,PyProof.Rows.slot_tuple_getitem.lookup,ht.typeIs,?_⟩
 refine HT.jr ht hs pl pu (by rw[hlen];exact hw) ?_ (by rw[hlen];exact hz)
 rw[hlen]
 refine ⟨.ref s.heap.objs.size,_,I.laid (t':=s.toks) (o:=.tup (qe xs lo hi)) (fun b ob q=>OS _ q) (OX _) ?_,rfl,q _ (I.hok.fresh (OX _))⟩
 exact ⟨PL (kq xs lo hi) hz,_,(r.drop (HT.sIx xs.length 0 lo)).take (HT.sIx xs.length xs.length hi - HT.sIx xs.length 0 lo),IsTup.new _ _⟩
def IT (K:OM):R2:=fun x y H Q=>∃ a b xs ys,x=.ref a/\y=.ref b/\SqT K H a xs/\SqT K H b ys/\xs≠[]/\xs.length+ys.length<=sizeLine ∧
 (ys=[]->Q (.ref a) H)/\(ys≠[]->∀ p,H p=none->Q (.ref p) (upd H p (.tup (xs++ys))))
theorem az.jt {xs:List V}{us:List Value} (r:az xs us):us=[]↔xs=[]:=by
 cases r with
 | _=>simp
theorem BA:OpR X (Qf .Add) (IT X.K):=by
 intro zt s σ H x y v u Q I rx ry h
 obtain ⟨a,b,xs,ys,rfl,rfl,ha,hb,hx,hz,q1,q2⟩:=h
 cases rx
 cases ry
 obtain ⟨its,r1,p1,_⟩:=I.tuple ha
 obtain ⟨its2,r2,p2,_⟩:=I.tuple hb
 refine HT.Bv p1 p2 (fun z=>hx (r1.jt.mp z)) (fun z=>⟨.ref a,H,I,rfl,q1 (r2.jt.mp z)⟩) (fun z=>?_) (by rw[← r1.length,← r2.length];exact hz)
 refine ⟨.ref s.heap.objs.size,_,I.laid (t':=s.toks) (o:=.tup (xs++ys)) (fun b ob q=>OS _ q) (OX _) ?_,rfl,q2 (fun w=>z (r2.jt.mpr w)) _ (I.hok.fresh (OX _))⟩
 exact ⟨by rw[PK];exact hz,_,r1.append r2,IsTup.new _ _⟩
end
end L2
namespace L2
open PySem PySem.Spec PyProof.Rows
noncomputable def ixN (n:Nat) (i:Int):Option Nat:=if 0<=i then (if i < n then some i.toNat else none) else if -(n:Int)<=i then some (i+n).toNat else none
noncomputable def atI {α:Type} (xs:List α) (i:Int):Option α:=(ixN xs.length i).bind fun j=>xs[j]?
theorem tU {n:Nat}{i:Int}{j:Nat} (h:ixN n i=some j):seqIndex? i n=some j/\j < n/\-(n:Int)<=i/\i < n:=by
 unfold ixN at h
 by_cases h0:0<=i
 ·rw[if_pos h0] at h
  by_cases h1:i < n
  ·rw[if_pos h1] at h
   have e:i.toNat=j:=OV h
   exact ⟨by rw[seqIndex_of h0 h1,e],by lia,by lia,h1⟩
  ·rw[if_neg h1] at h;cases h
 ·rw[if_neg h0] at h
  by_cases h1:-(n:Int)<=i
  ·rw[if_pos h1] at h
   have e:(i+n).toNat=j:=OV h
   exact ⟨by rw[seqIndex_neg (by lia) h1,e],by lia,h1,by lia⟩
  ·rw[if_neg h1] at h;cases h
theorem oF {α:Type}{xs:List α}{i:Int}{v:α} (h:atI xs i=some v):∃ j,seqIndex? i xs.length=some j/\xs[j]?=some v/\j < xs.length/\-(xs.length:Int)<=i/\i < xs.length:=by
 unfold atI at h
 cases e:ixN xs.length i with
 | none=>rw[e] at h;cases h
 | some j =>
  rw[e] at h
  obtain ⟨h1,h2,h3,h4⟩:=tU e
  exact ⟨j,h1,h,h2,h3,h4⟩
def tV (b:Rm):Prop:=∀ o i,subscripted b false o i=operate [o,i] (TJ o i)
def IxR (X:Cx) (r:R2):Prop :=
 ∀ (value slice:Rm) (zt:List (OR×Obj)) (s:OP) (σ:St) (H:Hp) (x y:V) (v u:Value) (Q:VK),Inv X zt σ H s->RelV x v->RelV y u->r x y H Q →
  subscripted slice false v u=operate [v,u] (TJ v u)->wpAny (Pc X.prog X.w) X.A (UO value slice v u) (EP X zt σ Q) X.xe s
def MtR (X:Cx) (id:String) (r:V->List V->Hp->VK->Prop):Prop :=
 ∀ (zt:List (OR×Obj)) (s:OP) (σ:St) (H:Hp) (x:V) (xs:List V) (v:Value) (us:List Value) (Q:VK),Inv X zt σ H s->RelV x v->az xs us->r x xs H Q →
  wpAny (Pc X.prog X.w) X.A (call (.builtin id) (v :: us)) (EP X zt σ Q) X.xe s
section
variable {X:Cx}{a b:Rm}{ta tb:TE}{pos:Pos}
theorem IU {r:R2} (hr:IxR X r) (ha:PE X a ta) (hb:PE X b tb) (hs:tV b):PE X (.Subscript a b pos) (tOp r ta tb):=by
 intro zt s σ H Q I h
 exact Subscript_ (E9 ha hb I h fun v u s2 x y H2 I2 rx ry q=>hr a b zt s2 σ H2 x y v u Q I2 rx ry q (hs _ _))
def Mj (K:OM):R2:=fun x y H Q=>∃ p xs i v,x=.ref p/\y=.int i/\SqL K H p xs/\atI xs i=some v/\Q v H
def Ml (K:OM):R2:=fun x y H Q=>∃ p xs i v,x=.ref p/\y=.int i/\SqT K H p xs/\atI xs i=some v/\Q v H
def Mm:R2:=fun x y H Q=>∃ z i c,x=.str z/\y=.int i/\z.length<=sizeLine/\atI z.cps.toList i=some c/\Q (.str ⟨#[c]⟩) H
theorem BB:IxR X (Mj X.K):=by
 intro value slice zt s σ H x y v u Q I rx ry h hs
 obtain ⟨p,xs,i,z,rfl,rfl,hq,he,q⟩:=h
 cases rx
 obtain ⟨t,rfl⟩:=ry
 obtain ⟨its,r,pl,hz⟩:=I.list hq
 obtain ⟨j,h1,h2,h3,h4,h5⟩:=oF he
 obtain ⟨w,ew,rw'⟩:=r.get h2
 have hl:=r.length
 have hn:=jS
 have fin:EP X zt σ Q w s:=⟨z,H,I,rw',q⟩
 by_cases h0:0<=i
 ·have hj:i.toNat=j:=by
   rw[seqIndex_of h0 h5] at h1
   exact OV h1
  exact item_listR pl.isList h0 (by lia) (by rw[hj];simpa using ew) fin hs
 ·have hj:(i+(its.toArray.size:Int)).toNat=j:=by
   rw[seqIndex_neg (by lia) h4] at h1
   rw[OT,← hl]
   exact OV h1
  exact subscriptTail_builtinR (x:=w) pl.isList.typeIs slot_list_getitem.lookup
   (wpAny_getItem_list_neg (Q:=fun r s'=>r=w/\EP X zt σ Q r s') pl.isList (by lia) (by rw[OT]<;>lia) (by lia) (by rw[hj];simpa using ew) ⟨rfl,fin⟩) hs
theorem Ft:IxR X (Ml X.K):=by
 intro value slice zt s σ H x y v u Q I rx ry h hs
 obtain ⟨p,xs,i,z,rfl,rfl,hq,he,q⟩:=h
 cases rx
 obtain ⟨t,rfl⟩:=ry
 obtain ⟨its,r,pl,hz⟩:=I.tuple hq
 obtain ⟨j,h1,h2,h3,h4,h5⟩:=oF he
 obtain ⟨w,ew,rw'⟩:=r.get h2
 have hl:=r.length
 have hn:=jS
 have fin:EP X zt σ Q w s:=⟨z,H,I,rw',q⟩
 exact subscriptTail_builtinR (x:=w) pl.typeIs slot_tuple_getitem.lookup
  (getItem_tuple (j:=j) (Q:=fun r s'=>r=w/\EP X zt σ Q r s') pl (by lia) (by lia) (by rw[OT,← hl];exact h1) (by simpa using ew) ⟨rfl,fin⟩) hs
theorem Fv:IxR X Mm:=by
 intro value slice zt s σ H x y v u Q I rx ry h hs
 obtain ⟨z,i,c,rfl,rfl,hz,he,q⟩:=h
 obtain ⟨t,rfl⟩:=rx
 obtain ⟨t',rfl⟩:=ry
 obtain ⟨j,h1,h2,h3,h4,h5⟩:=oF he
 have hl:z.cps.toList.length=z.length:=by simp[Str.length]
 rw[hl] at h1 h4 h5
 have hn:=jS
 exact tail_any (typeIs_str s z t) slot_str_getitem.lookup (getItem_str (c:=c) (by
  have e1:decide (i < -(2 ^ 63:Int))=false:=decide_eq_false (by lia)
  have e2:decide (i ≥ 2 ^ 63)=false:=decide_eq_false (by lia)
  rw[e1,e2,RQ]) (by rw[h1];simpa using h2) ⟨.str ⟨#[c]⟩,H,I.tok _,⟨_,rfl⟩,q⟩) hs
theorem rS (its:List Value) (n j:Nat) (u:Value):Sn (·.setIfInBounds j u) { cls:=.type "list",data:=.seq its.toArray n }={ cls:=.type "list",data:=.seq (its.set j u).toArray n }:=by
 simp[Sn]
theorem Inv.lst {zt:List (OR×Obj)}{σ:St}{H:Hp}{s:OP}{p:OR}{xs:List V} (I:Inv X zt σ H s) (h:H p=some (.lst xs)) :
 ∃ (its:List Value) (n:Nat),az xs its/\s.heap.get? p=some { cls:=.type "list",data:=.seq its.toArray n }/\xs.length<=sizeLine:=by
 obtain ⟨z,its,n,r,e⟩:=I.hok p _ h
 exact ⟨its,n,r,e,z⟩
theorem Inv.Fw {zt:List (OR×Obj)}{σ:St}{H:Hp}{s:OP}{p:OR}{xs ys:List V}{its its':List Value}{n n':Nat}{f:Obj->Obj} (I:Inv X zt σ H s) (h:H p=some (.lst xs))
 (ho:s.heap.get? p=some { cls:=.type "list",data:=.seq its.toArray n }) (hf:f { cls:=.type "list",data:=.seq its.toArray n }={ cls:=.type "list",data:=.seq its'.toArray n' }) (r:az ys its') (hz:ys.length<=sizeLine) (t:Nat) :
 Inv X zt σ (upd H p (.lst ys)) { s with heap:=s.heap.update p f,toks:=t }:=by
 have e:(s.heap.update p f).get? p=some { cls:=.type "list",data:=.seq its'.toArray n' }:=by
  rw[Heap.get?_update_self f ho (by rw[hf]<;>rfl),hf]
 refine I.write (x:=p) (e:=p) (by rw[h];trivial) (.inl rfl) (fun b u hb q=>(Uo _ _ (Qj hb)).trans q) ⟨_,e⟩ ?_
 exact ⟨hz,its',n',r,e⟩
noncomputable def Ej:V->V->V->Hp->(Hp->Prop)->Prop:=fun o i v H Q=>∃ p xs k j,o=.ref p/\i=.int k/\H p=some (.lst xs)/\ixN xs.length k=some j/\Q (upd H p (.lst (xs.set j v)))
theorem set_list:Iz X Ej:=by
 intro zt s σ H o i v ov iv u Q I ro ri rv h
 obtain ⟨p,xs,k,j,rfl,rfl,hp,hj,q⟩:=h
 cases ro
 obtain ⟨t,rfl⟩:=ri
 obtain ⟨its,n,r,ho,hz⟩:=I.lst hp
 obtain ⟨h1,h2,h3,h4⟩:=tU hj
 have hl:=r.length
 have hn:=jS
 have I':Inv X zt σ (upd H p (.lst (xs.set j v))) { s with heap:=s.heap.update p (Sn (·.setIfInBounds j u)) } :=
  I.Fw hp ho (rS its n j u) (r.set rv j) (by rw[List.length_set];exact hz) s.toks
 by_cases h0:0<=k
 ·have hk:k.toNat=j:=by
   rw[seqIndex_of h0 h4] at h1
   exact OV h1
  exact PySem.W.ki_setAt ho h0 (by lia) (by rw[OT,← hl];exact h4) (by rw[hk];exact ⟨_,I',q⟩)
 ·have hk:(k+(its.toArray.size:Int)).toNat=j:=by
   rw[seqIndex_neg (by lia) h3] at h1
   rw[OT,← hl]
   exact OV h1
  exact PySem.W.ki_setBack ho (by lia) (by rw[OT,← hl];exact h3) (by lia) (by rw[hk];exact ⟨_,I',q⟩)
theorem oG (lo hi:Option Int) (n:Nat):(Pz lo hi none n).1=((HT.sIx n 0 lo:Nat):Int)/\(Pz lo hi none n).2.1=((HT.sIx n n hi:Nat):Int)/\(Pz lo hi none n).2.2=1:=by
 refine ⟨?_,?_,rfl⟩
 ·cases lo with
  | none=>simp[Pz,HT.sIx]
  | some i =>
   simp only[Pz,HT.sIx,UY,show (1:Int) > 0 by decide,if_true]
   by_cases h:i < 0
   ·simp only[h,if_true]<;>lia
   ·simp only[h,if_false]<;>lia
 ·cases hi with
  | none=>simp[Pz,HT.sIx]
  | some i =>
   simp only[Pz,HT.sIx,UY,show (1:Int) > 0 by decide,if_true]
   by_cases h:i < 0
   ·simp only[h,if_true]<;>lia
   ·simp only[h,if_false]<;>lia
theorem m6 (its:List Value) (lo hi:Option Int):slicePick its.toArray lo hi none=((its.drop (HT.sIx its.length 0 lo)).take (HT.sIx its.length its.length hi - HT.sIx its.length 0 lo)).toArray:=by
 obtain ⟨h1,h2,h3⟩:=oG lo hi its.toArray.size
 unfold slicePick
 rw[h1,h2,h3]
 simp only[sliceRange_one,pick_run,OT]<;>rfl
def Mn (K:OM):V->Option Int->Option Int->Hp->VK->Prop:=fun x lo hi H Q=>∃ a xs,x=.ref a/\SqL K H a xs/\∀ p,H p=none->Q (.ref p) (upd H p (.lst (qe xs lo hi)))
theorem BD:SlR X (Mn X.K):=by
 intro zt s σ H x v vl vu lo hi sl Q I rx hs pl pu h
 obtain ⟨a,xs,rfl,hx,q⟩:=h
 cases rx
 obtain ⟨its,r,ht,hz⟩:=I.list hx
 have hlen:=r.length
 refine ⟨"list",_,slot_list_getitem.lookup,ht.isList.typeIs,?_⟩
 refine UE ht.isList hs pl pu .none (by simp) ?_ (by rw[OT]<;>lia)
 rw[m6,← hlen]
 refine ⟨.ref s.heap.objs.size,_,I.laid (t':=s.toks) (o:=.lst (qe xs lo hi)) (fun b ob q=>OS _ q) (OX _) ?_,rfl,q _ (I.hok.fresh (OX _))⟩
 exact ⟨PL (kq xs lo hi) hz,_,0,(r.drop (HT.sIx xs.length 0 lo)).take (HT.sIx xs.length xs.length hi - HT.sIx xs.length 0 lo),Pf _ rfl⟩
theorem ju:cO X (.builtin "len") (fun xs H Q=>∃ p ys,xs=[.ref p]/\(SqL X.K H p ys\/SqT X.K H p ys)/\Q (.int ys.length) H):=by
 intro zt s σ H xs us Q I r h
 obtain ⟨p,ys,rfl,hq,q⟩:=h
 obtain ⟨u,rfl,rx⟩:=vals1 r
 cases rx
 have hn:=jS
 rcases hq with hq|hq
 ·obtain ⟨its,r',pl,hz⟩:=I.list hq
  have hlen:=r'.length
  exact Calls.call_len_list pl.isList (by simp only[OT]<;>lia) ⟨.int ys.length,H,I.tok _,⟨s.toks+1,by rw[OT,hlen]⟩,q⟩
 ·obtain ⟨its,r',pl,hz⟩:=I.tuple hq
  have hlen:=r'.length
  exact len_tuple pl (by simp only[OT]<;>lia) ⟨.int ys.length,H,I.tok _,⟨s.toks+1,by rw[OT,hlen]⟩,q⟩
theorem oH:cO X (.builtin "len") (fun xs H Q=>∃ z,xs=[.str z]/\z.length<=sizeLine/\Q (.int z.length) H):=by
 intro zt s σ H xs us Q I r h
 obtain ⟨z,rfl,hz,q⟩:=h
 obtain ⟨u,rfl,t,rfl⟩:=vals1 r
 have hn:=jS
 exact len_str (by lia) ⟨.int z.length,H,I.tok _,⟨_,rfl⟩,q⟩
theorem jv:cO X (.type "list") (fun xs H Q=>∃ p ys,xs=[.ref p]/\(SqL X.K H p ys\/SqT X.K H p ys)/\∀ l,H l=none->Q (.ref l) (upd H l (.lst ys))):=by
 intro zt s σ H xs us Q I r h
 obtain ⟨p,ys,rfl,hq,q⟩:=h
 obtain ⟨u,rfl,rx⟩:=vals1 r
 cases rx
 have fin:∀ (its:List Value),az ys its->ys.length<=sizeLine->∀ (h':Heap) (c':Nat),(∀ b o',s.heap.get? b=some o'->h'.get? b=some o') →
  h'.get? s.heap.objs.size=some { cls:=.type "list",dict:=none,data:=.seq its.toArray c',slots:=#[] }->EP X zt σ Q (.ref s.heap.objs.size) { s with heap:=h' }:=fun its r' hz h' c' kp e =>
  ⟨.ref s.heap.objs.size,_,I.laid (t':=s.toks) kp (OX _) (show d8 X.prog X.w _ h' _ (.lst ys) from ⟨hz,its,c',r',e⟩),rfl,q _ (I.hok.fresh (OX _))⟩
 rcases hq with hq|hq
 ·obtain ⟨its,r',pl,hz⟩:=I.list hq
  have hlen:=r'.length
  obtain ⟨o,ho,hc,n,hd⟩:=pl.isList
  exact call_list_seq p (.inl rfl) ho hc hd (fun h' c' kp e=>fin its r' hz h' c' kp e) (by simp only[OT]<;>lia)
 ·obtain ⟨its,r',pl,hz⟩:=I.tuple hq
  have hlen:=r'.length
  obtain ⟨o,ho,hc,n,hd⟩:=pl
  exact call_list_seq p (.inr rfl) ho hc hd (fun h' c' kp e=>fin its r' hz h' c' kp e) (by simp only[OT]<;>lia)
theorem iX:cO X (.type "tuple") (fun xs H Q=>∃ p ys,xs=[.ref p]/\((SqL X.K H p ys/\∀ l,H l=none->Q (.ref l) (upd H l (.tup ys)))\/(SqT X.K H p ys/\Q (.ref p) H))):=by
 intro zt s σ H xs us Q I r h
 obtain ⟨p,ys,rfl,h⟩:=h
 obtain ⟨u,rfl,rx⟩:=vals1 r
 cases rx
 rcases h with ⟨hq,q⟩|⟨hq,q⟩
 ·obtain ⟨its,r',pl,hz⟩:=I.list hq
  have hlen:=r'.length
  refine call_tuple_list pl.isList (fun h' kp=>?_) (by simp only[OT]<;>lia)
  have I1:Inv X zt σ H { s with heap:=h' }:=I.kept (t':=s.toks) kp
  have I2:Inv X zt σ (upd H h'.objs.size (.tup ys)) { s with heap:=h'.push { cls:=.type "tuple",data:=.seq its.toArray } } :=
   I1.laid (t':=s.toks) (fun b o e=>OS _ e) (OX _) (show d8 X.prog X.w _ _ _ (.tup ys) from ⟨hz,its,r',IsTup.new _ _⟩)
  exact ⟨.ref h'.objs.size,_,I2,rfl,q _ (I1.hok.fresh (OX _))⟩
 ·obtain ⟨its,r',pl,hz⟩:=I.tuple hq
  exact call_tuple_same pl ⟨.ref p,H,I,rfl,q⟩
def tyV (K:OM) (T:String) (x:V) (H:Hp):Prop:=match x with
 | .str _=>T="str"
 | .int _=>T="int"
 | .ref p=>(T="list"/\∃ xs,SqL K H p xs)\/(T="tuple"/\∃ o,K.lookup p=some o/\o.cls=.type "tuple"/\o.dict=none) ∨
  (T="dict"/\((∃ kvs,H p=some (.dK kvs))\/∃ kvs,H p=some (.dT kvs)))\/(T="set"/\∃ S n,H p=some (.set S n))
 | _=>False
theorem xZ {zt:List (OR×Obj)}{σ:St}{H:Hp}{s:OP}{T:String}{x:V}{v:Value} (I:Inv X zt σ H s) (r:RelV x v) (ty:tyV X.K T x H) :
 s.TypeIs v T/\∀ a,v=.ref a->∃ ob,s.heap.get? a=some ob/\ob.dict=none:=by
 cases x with
 | str z =>
  obtain ⟨t,rfl⟩:=r
  cases (show T="str" from ty)
  exact ⟨typeIs_str s z t,fun _ e=>nomatch e⟩
 | int i =>
  obtain ⟨t,rfl⟩:=r
  cases (show T="int" from ty)
  exact ⟨typeIs_int s i t,fun _ e=>nomatch e⟩
 | ref p =>
  cases r
  rcases ty with ⟨rfl,xs,hq⟩|⟨rfl,o,hk,hc,hd⟩|⟨rfl,hk⟩|⟨rfl,S,n,hk⟩
  ·obtain ⟨its,_,pl,_⟩:=I.list hq
   refine ⟨pl.isList.typeIs,fun a e=>?_⟩
   cases e
   obtain ⟨o,n,e,c,hd,_⟩:=pl
   exact ⟨o,e,hd⟩
  ·refine ⟨⟨o,I.kIn p o hk,hc⟩,fun a e=>?_⟩
   cases e
   exact ⟨o,I.kIn _ o hk,hd⟩
  ·have z:∃ o,s.heap.get? p=some o/\o.ExactDict:=by
    rcases hk with ⟨kvs,hk⟩|⟨kvs,hk⟩
    ·obtain ⟨_,_,_,_,o,_,_,e,ex,_⟩:=I.hok p _ hk
     exact ⟨o,e,ex⟩
    ·obtain ⟨_,_,_,_,o,_,_,e,ex,_⟩:=I.hok p _ hk
     exact ⟨o,e,ex⟩
   obtain ⟨o,e,ex⟩:=z
   refine ⟨⟨o,e,ex.1⟩,fun a e2=>?_⟩
   cases e2
   exact ⟨o,e,ex.2.1⟩
  ·obtain ⟨o,_,_,_,e,ex,_⟩:=I.hok p _ hk
   refine ⟨⟨o,e,ex.1⟩,fun a e2=>?_⟩
   cases e2
   exact ⟨o,e,ex.2.1⟩
 | _=>exact Pk ty
def Mp (K:OM) (T:String) (r:V->List V->Hp->VK->Prop) (to:TE):TE:=fun σ H Q=>to σ H fun x H1=>tyV K T x H1/\r x [] H1 Q
def tBM (K:OM) (T:String) (r:V->List V->Hp->VK->Prop) (to:TE) (t:TA):TE:=fun σ H Q=>to σ H fun x H1=>tyV K T x H1/\t σ H1 fun xs H2=>r x xs H2 Q
variable {o e:Rm}{es:List Rm}{to:TE}{t:TA}{name:Str}{apos cpos:Pos}{T id:String}{r:V->List V->Hp->VK->Prop}
theorem Fx (pa:PlainAttrs T) (slot:Slot T name id) (hty:typeOf (.builtin id)=pure (.type "method_descriptor")) (hm:MtR X id r) (ho:PE X o to)
 (hbase:Sf o name X.env (eval o X.env)=eval o X.env:=by rfl) (hline:(apos.endLine==cpos.line)=true:=by rfl):PE X (.Call (.Attribute o name apos) [] [] cpos) (Mp X.K T r to):=by
 intro zt s σ H Q I h
 refine wpAny_Call_method0_late hbase hline (thn (ho zt s σ H _ I h) fun v s1 zq=>?_)
 obtain ⟨x,H1,I1,r1,ty,q1⟩:=zq
 obtain ⟨h1,h2⟩:=xZ I1 r1 ty
 exact ⟨T,id,pa,slot,hty,h1,h2,Uc rfl (PySem.evalArgs_none (hm zt s1 σ H1 x [] v [] Q I1 r1 .nil q1))⟩
theorem Ek (pa:PlainAttrs T) (slot:Slot T name id) (hty:typeOf (.builtin id)=pure (.type "method_descriptor")) (hm:MtR X id r) (ho:PE X o to) (ha:PA X (e :: es) t)
 (hbase:Sf o name X.env (eval o X.env)=eval o X.env:=by rfl)
 (hfew:((QA cpos (Pe (e :: es) X.env)).all (fun x=>!x.1)&&(SL cpos (Rj [] X.env)).all (fun x=>x.1.isSome)
 &&decide ((e :: es).length+([]:List Te).length+(if ([]:List Te).isEmpty then 0 else 1) < 30))=true:=by rfl)
 (hline:(apos.endLine==cpos.line)=true:=by rfl) (hs:Pe (e :: es) X.env=(false,eval e X.env) :: Pe es X.env:=by rfl) (hplain:(QA cpos (Pe es X.env)).any (·.1)=false:=by rfl) :
 PE X (.Call (.Attribute o name apos) (e :: es) [] cpos) (tBM X.K T r to t):=by
 intro zt s σ H Q I h
 refine wpAny_Call_method_late hbase hfew hline rfl (thn (ho zt s σ H _ I h) fun v s1 zq=>?_)
 obtain ⟨x,H1,I1,r1,ty,q1⟩:=zq
 obtain ⟨h1,h2⟩:=xZ I1 r1 ty
 refine ⟨T,id,pa,slot,hty,h1,h2,?_⟩
 have hA:=ha cpos zt s1 σ H1 _ I1 q1
 rw[hs] at hA ⊢
 refine Uc (by show (false||(QA cpos (Pe es X.env)).any (·.1))=false;rw[hplain]<;>rfl) (Ux ?_)
 exact thn hA fun us s2 ⟨vs,H2,I2,r2,q2⟩=>hm zt s2 σ H2 x vs v us Q I2 r1 r2 q2
/- xs.append(e),list.index on a module's tuple .. are MtR facts of 06m -/
end
end L2
namespace L2
open PySem PySem.Spec PyProof.Rows
def MtM (X:Cx) (id:String) (r:V->List V->Hp->VK->Prop):Prop :=
 ∀ (zt:List (OR×Obj)) (s:OP) (σ:St) (H:Hp) (x:V) (xs:List V) (v:Value) (us:List Value) (Q:VK),Inv X zt σ H s->RelV x v->az xs us->r x xs H Q →
  wpAny (Pc X.prog X.w) X.A (call (.builtin id) (v :: us)) (EP X zt σ Q) X.xe s
theorem az.one {x:V}{us:List Value} (h:az [x] us):∃ u,us=[u]/\RelV x u:=by
 cases h with|cons r t=>cases t;exact ⟨_,rfl,r⟩
theorem az.two {x y:V}{us:List Value} (h:az [x,y] us):∃ u v,us=[u,v]/\RelV x u/\RelV y v:=by
 cases h with|cons r t=>obtain ⟨v,rfl,q⟩:=az.one t;exact ⟨_,v,rfl,r,q⟩
theorem az.zero:∀ {us:List Value},az [] us->us=[]
 | _,.nil=>rfl
theorem az.dropLast {xs:List V}{us:List Value} (h:az xs us):az xs.dropLast us.dropLast:=by
 induction h with
 | nil=>exact .nil
 | cons r t ih =>
  cases t with
  | nil=>exact .nil
  | cons q t'=>exact .cons r ih
theorem az.rep {xs:List V}{us:List Value} (h:az xs us):∀ k:Nat,az (O7 k xs).flatten (O7 k us).flatten
 | 0=>.nil
 | k+1=>by
  rw[P1,P1,Qw,Qw]
  exact az.append h (az.rep h k)
theorem rT {α:Type} (l:List α):l.eraseIdx (l.length - 1)=l.dropLast:=by
 induction l with
 | nil=>rfl
 | cons a r ih =>
  cases r with
  | nil=>rfl
  | cons b r =>
   have e:(a :: b :: r).length - 1=((b :: r).length - 1)+1:=by
    have h1:(a :: b :: r).length=r.length+2:=rfl
    have h2:(b :: r).length=r.length+1:=rfl
    lia
   rw[e,List.eraseIdx_cons_succ,ih]
   all_goals rfl
theorem foldl_rep (its:List Value):∀ (k:Nat) (acc:List Value),
 T5 (fun x1 x2=>x1++x2) acc.toArray (O7 k its.toArray)=(acc++(O7 k its).flatten).toArray
 | 0,acc=>by simp
 | k+1,acc=>by
  have e:acc.toArray++its.toArray=(acc++its).toArray:=by simp
  have e2:(acc++its)++(O7 k its).flatten=acc++(O7 (k+1) its).flatten:=by
   rw[P1,Qw,Qx]
  rw[← e2,← foldl_rep its k (acc++its),← e,P1,List.foldl_cons]
section
variable {X:Cx}{zt:List (OR×Obj)}{σ:St}{H:Hp}{s:OP}{l b:OR}{xs ys zs:List V}
theorem Inv.BE {its its':List Value}{n:Nat}{f:Array Value->Array Value}{t':Nat} (I:Inv X zt σ H s) (hH:H l=some (.lst xs))
 (e:s.heap.get? l=some { cls:=.type "list",data:=.seq its.toArray n }) (hf:f its.toArray=its'.toArray) (hv:az ys its') (hz:ys.length<=sizeLine) :
 Inv X zt σ (upd H l (.lst ys)) { s with heap:=s.heap.update l (Sn f),toks:=t' }:=by
 have q:=PySem.IsL.update e f
 rw[hf] at q
 refine I.write (x:=l) (e:=l) (by rw[hH];exact trivial) (.inl rfl) (fun b' u hb hu=>(Uo s.heap (Sn f) (Qj hb)).trans hu) ⟨_,q⟩ ?_
 exact ⟨hz,its',_,hv,q⟩
theorem Inv.IV {its:List Value}{t':Nat} (I:Inv X zt σ H s) (hv:az ys its) (hz:ys.length<=sizeLine) :
 Inv X zt σ (upd H s.heap.objs.size (.lst ys)) { s with heap:=s.heap.push { cls:=.type "list",data:=.seq its.toArray },toks:=t' } :=
 I.laid (fun _ _ q=>OS _ q) (OX _) ⟨hz,its,0,hv,Pf _ rfl⟩
theorem Inv.fresh (I:Inv X zt σ H s):H s.heap.objs.size=none:=I.hok.fresh (OX _)
theorem Inv.BH (I:Inv X zt σ H s) (hH:H l=some (.lst xs)):xs.length<=sizeLine/\∃ (its:List Value) (n:Nat),az xs its/\xs.length=its.length/\s.heap.get? l=some { cls:=.type "list",data:=.seq its.toArray n }:=by
 obtain ⟨z,its,n,r,e⟩:=I.hok l _ hH
 exact ⟨z,its,n,r,r.length,e⟩
theorem lF {n:Nat} (h:n<=sizeLine):P9 n=false:=by
 unfold P9
 exact decide_eq_false (by lia)
end
section
variable {X:Cx}
def BI:V->List V->Hp->VK->Prop:=fun x vs H Q=>∃ l xs y,x=.ref l/\vs=[y]/\H l=some (.lst xs)/\xs.length < sizeLine/\Q .non (upd H l (.lst (xs++[y])))
theorem vJ:MtM X "list.append" BI:=by
 intro zt s σ H x vs v us Q I rx rv h
 obtain ⟨l,xs,y,rfl,rfl,hH,hz,q⟩:=h
 cases rx
 obtain ⟨u,rfl,ru⟩:=rv.one
 obtain ⟨z,its,n,r,hl,e⟩:=I.BH hH
 refine QU F.slot_list_append ⟨_,e,rfl⟩ F.entry_list_append (F.args_list_append_2 _ _) (PySem.list_append l its.toArray n u (by rw[OT];lia)) ⟨e,?_⟩
 refine ⟨.non,_,I.BE (its':=its++[u]) hH e (by simp) (r.append (.cons ru .nil)) ?_,rfl,q⟩
 rw[PK,Sb]
 lia
def Mq:V->List V->Hp->VK->Prop:=fun x vs H Q=>∃ l xs y,x=.ref l/\vs=[]/\H l=some (.lst xs)/\xs[xs.length - 1]?=some y/\Q y (upd H l (.lst xs.dropLast))
theorem Fy:MtM X "list.pop" Mq:=by
 intro zt s σ H x vs v us Q I rx rv h
 obtain ⟨l,xs,y,rfl,rfl,hH,hy,q⟩:=h
 cases rx
 have hus:=rv.zero
 subst hus
 obtain ⟨z,its,n,r,hl,e⟩:=I.BH hH
 obtain ⟨u,hu,ru⟩:=r.get hy
 have hy':its.toArray[its.toArray.size - 1]?=some u:=by
  show its.toArray[its.length - 1]?=some u
  rw[← Uq,← hl]
  exact hu
 refine QU F.slot_list_pop ⟨_,e,rfl⟩ F.entry_list_pop (F.args_list_pop_1 _) (MeetsSeq.list_pop_last l its.toArray n u hy' (by rw[OT];lia)) ⟨e,?_⟩
 refine ⟨y,_,I.BE (its':=its.dropLast) hH e ?_ r.dropLast ?_,ru,q⟩
 ·show its.toArray.eraseIdxIfInBounds (its.toArray.size - 1)=its.dropLast.toArray
  rw[OT,List.eraseIdxIfInBounds_toArray,rT]
 ·rw[List.length_dropLast]
  lia
theorem len_rep {α:Type} (xs:List α) (k:Nat):(O7 k xs).flatten.length=k*xs.length:=by
 induction k with
 | zero=>simp
 | succ k ih=>rw[P1,Qw,PK,ih,Nat.succ_mul,Nat.add_comm]
end
section
variable {prog:OU}{w:Pa}{A:PF}{E:Value->OP->Prop}{s:OP}
set_option maxRecDepth 100000 in
end
section
variable {X:Cx}
end
end L2
namespace Att
open PySem PySem.W PySem.Calls PyProof.Rows
theorem kH {P:Params}{h:Heap}:∀ (ns:List Int) (vs:List Value),WellAll P h vs (ns.map WData.int)->IntsAre vs ns:=by
 intro ns
 induction ns with
 | nil =>
  intro vs w
  rw[QZ] at w
  cases w
  exact .nil
 | cons n ns ih =>
  intro vs w
  rw[Px] at w
  cases w with
  | cons a b =>
   cases a
   exact .cons _ _ (ih _ b)
theorem vK {l:OpenLaw}{n:Nat} (hn:l.most=some n) {P:Params}{h:Heap}{args:List WData}{vals:List Value}
 (hpre:l.row.toRowW.claim.pre args=true) (hwl:WellAll P h vals args) :
 ∃ a vs ns,vals=[Pp a]/\args=[WData.list (ns.map WData.int)]/\h.get? a=some { cls:=.type "list",data:=.seq vs.toArray }/\IntsAre vs ns/\ns.length<=n:=by
 have hsh:WShape.hasAll [] args [.list .int]=true:=(pre_splitW hpre).1
 have hc:l.pre.holds [] { args:=args }=true:=(pre_splitW hpre).2
 obtain ⟨d,r,rfl,h1,h2⟩:=hasAllW_cons hsh
 obtain rfl:=hasAllW_nil h2
 obtain ⟨xs,rfl,h3⟩:=hasW_list h1
 obtain ⟨ns,rfl⟩:=items_int h3
 have hlen:ns.length<=n:=by
  unfold OpenLaw.pre at hc
  have h4:(WTm.not (.lt (.lit (.int (n:Int))) (.len (.arg 0)))).holds [] { args:=[.list (ns.map .int)] }=true:=by
   have h4:=(holds_andW hc).1
   rw[hn] at h4
   exact h4
  have h5:=condW_of h4 (w_not (w_lt w_lit (w_len_list (w_arg rfl))))
  rw[Pq] at h5
  refine Nat.le_of_not_lt fun q=>?_
  have q':(n:Int) < ((ns.length:Nat):Int):=by lia
  first
   | (rw[decide_eq_true q'] at h5;exact absurd h5 (by decide))
   | (simp at h5;lia)
 cases hwl with
 | cons w1 w2 =>
  cases w2
  cases w1 with
  | list ho hall=>exact ⟨_,_,ns,rfl,rfl,ho,kH ns _ hall,hlen⟩
theorem vL (l:OpenLaw) (args:List WData):l.row.toRowW.claim.post args (.bool true) args=true :=
 postW_of (r:=l.row.toRowW) (X:=(true==true))
  (show WShape.has [] (.bool true) .bool=true by first|rfl|decide|simp[WShape.has,WShape.arms,WShape.armsAll])
  (show (WTm.eq .res (.lit (.bool true))).value [] { args:=args,res:=some (.bool true),after:=args }=some (.bool (true==true)) from w_eq_bool (w_res rfl) w_lit) rfl
theorem qf {l:OpenLaw}{n:Nat}{q:OU}{loose:List Str}{XP:(Str->Option Value)->Heap->Prop}{YP:Pa->Heap->Prop}{d:DefRec}
 (hn:l.most=some n) (hdf:d.params.defaults=[])
 (call:∀ (w:Pa) (s₀ s₁:OP) (mg mb:Str->Option Value) (fa:OR) (o:Obj) (pm cd doc:Value) (a:OR) (vs:List Value) (ns:List Int),
  Ground q loose [] XP w s₀ mg mb s₁.heap->YP w s₁.heap →
  s₁.heap.get? fa=some o->o.data=.func (docDef d.name d.params d.body d.scope pm cd doc)->s₁.heap.CodeRec cd d.name->mg d.name=some (.ref fa) →
  s₁.heap.get? a=some { cls:=.type "list",data:=.seq vs.toArray }->IntsAre vs ns->ns.length<=n->s₁.gens=#[] →
  codeAny (Pc l.prog w) UU (.call (.ref fa) ⟨[.ref a],[]⟩) (fun r s'=>r=.ok (.ret (.bool true))/\OldK s₁.heap s'.heap/\s'.os=s₁.os/\Tf s'.gens) s₁) :
 WalkO q loose XP YP l.row.toRowW d [] (fun f vs=>UW f vs):=by
 intro w s₀ s₁ mg mb G Y fa o pm cd doc dV kV ho hd hcd hD hmg hg args vals as hpre hlay hrd hwl hlo
 obtain rfl:dV=.none:=Dflts.none hD hdf
 obtain rfl:kV=.none:=Dflts.noKw hD
 obtain ⟨a,vs,ns,rfl,rfl,hobj,hints,hlen⟩:=vK hn hpre hwl
 refine enter_call (Q6 (call w s₀ s₁ mg mb fa o pm cd doc a vs ns G Y ho (fd_plain hd) hcd hmg hobj hints hlen hg) fun r s' hq=>?_)
 obtain ⟨rfl,h2,h3,h4⟩:=hq
 exact ⟨.inl ⟨.bool true,.bool true,[],rfl,fun _=>rfl,.bool true,vL l _,fun _=>⟨List.Pairwise.nil,fun _ hm=>(nomatch hm)⟩⟩,h2,h3,h4⟩
section
variable {prog:OU}{w:Pa}{A:PF}{E:Value->OP->Prop}{s:OP}{K:Frag}
noncomputable def ledger (h:Heap) (L d:OR):List (OR×Obj):=(Pu h.objs.size).filterMap fun a=>if a=L\/a=d then none else (h.get? a).map fun o=>(a,o)
end
end Att
namespace L2
open PySem PySem.Spec PyProof.Rows
theorem nM:∀ {vs:List Value}{ns:List Int},IntsAre vs ns->az (ns.map V.int) vs
 | _,_,.nil=>.nil
 | _,_,.cons n t h=>.cons ⟨t,rfl⟩ (nM h)
end L2
namespace L2
open PySem PySem.Spec PyProof.Rows
noncomputable abbrev KOf {K:OM}{h:Heap} (_:K.In h):OM:=K
end L2
/- THE LAST THEOREM (shape;LID,My.* are yours):
 My.Adr: a structure of the addresses that your layer names (classes,functions);My.Txt K t: a structure (Prop) of the equations over K;
 My.txt_mk:{K}{implicit addresses ..} (e1:nsIn K O4 "law"=some (some (.ref f))) (e2:K.lookup f=some ⟨oc,od,.func (fnOf "law" "law" params body scope dV kV doc pm an cdv ct),sl⟩) (e3:codeIn K cdv "law"=true) ..:∃ t,My.Txt K t
set_option maxRecDepth 100000 in
set_option maxHeartbeats 0 in
theorem PySem.Challenge.BJ:PySem.Challenge.rw_LID.Holds:=by
 w_on;o_law;k_head;(case hw=>w_witness2)
 k_fill
 refine L2.walk_of (l:=PySem.Challenge.rw_LID) (n:=63) (k:=40) (x:="script") (CX:=fun w=>..) (sp:=fun _=>My.AM) rfl (by decide) rfl ⟨rfl,by decide,by decide⟩ (fun w h Y=>PySem.W.kIn_of Y) ?F ?S ?C
 case F =>
  intro w mg fa h KX G hmg
  have T:∃ t,My.Txt (L2.KOf KX) t:=by
   dsimp only[L2.KOf]                          -- K must stand as «<heap const> w.params» for k_is
   refine' My.txt_mk ?e1 ?e2 ?e3 ..
   (case e1=>PySem.W.k_is)                    -- in the order: a name->its address->its object->its parts
   (case e2=>PySem.W.k_is)
   ..
  obtain ⟨t,T⟩:=T
  have e0:=hmg.symm.trans (PR KX G T.law)
  cases e0                                       -- fa is the law's own address
  exact ⟨_,fun s u=>.of_eq rfl,fun base kb nb=>My.law_fn T kb nb⟩     -- if «.of_eq rfl» comes too early: refine' ⟨_,?b,fun base kb nb=>My.law_fn T kb nb⟩;exact fun s u=>.of_eq rfl
 case S=>exact fun w H a ns hl hO hS=>..
 case C=>exact ..
(the tactic k_is has no namespace: write k_is) -/
namespace L2
open PySem PySem.Spec PyProof.Rows
abbrev CX0:CXT:=fun _ _ _ _ _ _=>False
abbrev E0:XK:=fun _ _ _=>False
theorem lG {X:Cx}:dW CX0 X E0:=fun _ _ _ _ _ _ _ h=>h.elim
inductive IW (K:OM) (x qual:Str) (st:Sx) (f:OR) (fd:PN):Prop where
 | mk (oc:Value) (od:Option OR) (kV doc pm:Value) (an:Option OR) (cdv ct:Value) (osl:Array (Option Value)) (h1:fd=P5 x qual (cE st) (ay st) (aa st) .none kV doc pm an cdv ct) (h2:K.lookup f=some ⟨oc,od,.func fd,osl⟩) (h3:Ru K cdv qual=true):IW K x qual st f fd
structure Fun (K:OM) (x qual:Str) (st:Sx) (f:OR) (fd:PN):Prop where
 ex:IW K x qual st f fd
 kp:Po K (.ref f)=true
section
variable {P:OU}{w:Pa}{K:OM}{mg:Str->Option Value}{base:Heap}
theorem Fun.binds {x qual:Str}{st:Sx}{f:OR}{fd:PN}{ps:List Str} (F:Fun K x qual st f fd)
 (h:∀ (kV doc pm:Value) (an:Option OR) (cdv ct:Value) (us:List Value),us.length=ps.length->T8 (P5 x qual (cE st) (ay st) (aa st) .none kV doc pm an cdv ct) ⟨us,[]⟩=pure (ps.zip us)):Binds K fd ps []:=by
 obtain ⟨oc,od,kV,doc,pm,an,cdv,ct,osl,rfl,lk,hcd⟩:=F.ex
 exact .all (h kV doc pm an cdv ct)
theorem Fz {x qual:Str}{st:Sx}{f:OR}{oc:Value}{od an:Option OR}{osl:Array (Option Value)}{kV doc pm cdv ct:Value} (l:K.lookup f=some ⟨oc,od,.func (P5 x qual (cE st) (ay st) (aa st) .none kV doc pm an cdv ct),osl⟩)
 (c:Ru K cdv qual=true) (k:Po K (.ref f)=true):Fun K x qual st f (P5 x qual (cE st) (ay st) (aa st) .none kV doc pm an cdv ct):=⟨⟨oc,od,kV,doc,pm,an,cdv,ct,osl,rfl,l,c⟩,k⟩
end
theorem vM {n:Nat} (h:n<=1000):n < sizeLine:=SV h (by decide)
section
variable {X:Cx}
end
end L2
end
section
namespace L2
open PySem PySem.Spec PyProof.Rows
section
variable {κ:Type} [DecidableEq κ]
noncomputable def putK (kvs:List (κ×V)) (k:κ) (v:V):List (κ×V) :=
 if (kvs.any fun kv=>decide (kv.1=k))=true then kvs.map (fun kv=>if kv.1=k then (kv.1,v) else kv) else kvs++[(k,v)]
end
section
variable {P:OU}{w:Pa}{H:Hp}{h:Heap}{a:OR}
end
section
variable {X:Cx}{zt:List (OR×Obj)}{σ:St}{H:Hp}{s:OP}{a:OR}{y v:V}{u r:Value}{o:Option V}{A:PF}{E:Value->OP->Prop}
end
end L2
end
section
namespace BT
open PySem PySem.W PyProof.Rows
noncomputable def IX {α:Type} (lt:Nat->Nat->Bool):KasT α->α
 | .ret a=>a
 | .ask i j k=>IX lt (k (lt i j))
noncomputable def Ends {α:Type} (n:Nat) (P:α->Prop):KasT α->Prop
 | .ret a=>P a
 | .ask i j k=>i < n/\j < n/\∀ b,Ends n P (k b)
noncomputable def ltP (ps:List (Int×Int)) (i j:Nat):Bool :=
 if (ps.getD i (0,0)).1=(ps.getD j (0,0)).1 then decide ((ps.getD i (0,0)).2 < (ps.getD j (0,0)).2) else decide ((ps.getD i (0,0)).1 < (ps.getD j (0,0)).1)
noncomputable def Mr (ps:List (Int×Int)):List Nat:=(IX (ltP ps) (kas_sort ps.length)).toList
end BT
end
section
namespace BS
open PySem PySem.W PySem.Spec PyProof.Rows
section
variable {prog:OU}{w:Pa}{A:PF}{E:Value->OP->Prop}{s:OP}
end
end BS
end
section
namespace BX
open PySem PyProof.Rows
section
variable {prog:OU}{w:Pa}{A:PF}{E:Value->OP->Prop}{s:OP}
end
section
variable {prog:OU}{w:Pa}{A:PF}{E:Value->OP->Prop}{R:Result->OP->Prop}
end
section
variable {prog:OU}{w:Pa}{A:PF}{E:Value->OP->Prop}{s:OP}
end
section
variable {prog:OU}{w:Pa}{A:PF}{E:Value->OP->Prop}{s:OP}
end
end BX
end
section
namespace BT
open PySem
inductive D where
 | non|bl (b:Bool)|int (i:Int)|str (x:Str)|tup (xs:List D)|lst (xs:List D)
inductive FK where
 | f (x:Str)|m (c x:Str)|l (i:Nat)
 deriving DecidableEq
instance:Coe String FK:=⟨fun s=>.f (O3 s)⟩
inductive Cp where
 | p (d:D)|o (n:Nat)
inductive W where
 | p (d:D)|r (n:Nat)|k (kvs:List (Str×D))|o (n:Nat)|c (f:FK) (cs:List Cp)|x (c:Str)
noncomputable def Cp.w:Cp->W
 | .p d=>.p d
 | .o n=>.o n
@[simp] theorem Cp.w_p (d:D):Cp.w (.p d)=.p d:=rfl
@[simp] theorem Cp.w_o (n:Nat):Cp.w (.o n)=.o n:=rfl
noncomputable def qh:W->Option Cp
 | .p d=>some (.p d)
 | .o n=>some (.o n)
 | .r _=>none
 | .k _=>none
 | .c _ _=>none
 | .x _=>none
@[simp] theorem KS (d:D):qh (.p d)=some (.p d):=rfl
@[simp] theorem KU (n:Nat):qh (.o n)=some (.o n):=rfl
noncomputable abbrev Ky:=Int ⊕ Str
inductive Cl where
 | l (xs:List D)|o (c:Str) (fs:List (Str×W))|d (kvs:List (Ky×D))
noncomputable abbrev HH:=List Cl
noncomputable abbrev Sl:=List (Option W)
set_option genInjectivity false in
inductive Bin where
 | add|sub|mul|mod|fdiv|pow
set_option genInjectivity false in
inductive Cm where
 | eq|ne|lt|le|gt|ge|isN|notN|mem|nmem
set_option genInjectivity false in
inductive Sr where
 | seq|rng1|rng2|rev|enu|zip2
inductive Bi where
 | len|abs|int|str|bool|list|tuple|all|any|isInt|isBool|isStr|isTuple|isList|min2|max2
 | sum|sorted|max1|lzip|nset|sset
set_option genInjectivity false in
inductive Me where
 | append|pop|extend|tindex|sindex|dget|count|lindex
set_option genInjectivity false in
mutual
inductive E where
 | var (i:Nat) (x:Str)
 | cst (d:D)
 | glo (x:Str)
 | bin (o:Bin) (a b:E)
 | neg (a:E)
 | not (a:E)
 | and (a b:E)
 | or (a b:E)
 | cmp (o:Cm) (a b:E)
 | chain (o o':Cm) (a b c:E)
 | ite (c a b:E)
 | tup (as:Es)
 | lst (mu:Bool) (as:Es)
 | idx (a i:E)
 | slc (a:E) (lo hi:Es)
 | rvs (a:E)
 | stp (mu:Bool) (k:Int) (a:E)
 | call (f:Str) (as:Es)
 | fld (a:E) (f:Str)
 | meth (o:E) (m:Str) (as:Es)
 | make (c:Str) (as:Es)
 | bi (b:Bi) (mu:Bool) (as:Es)
 | lsr (mu:Bool) (sr:Sr) (as:Es)
 | me (m:Me) (o:E) (as:Es)
 | comp (mu:Bool) (sr:Sr) (sa:Es) (tg:List Str) (fv:List (Nat×Str)) (cond:Es) (elt:E)
 | callv (i:Nat) (x:Str) (as:Es)
 | methL (o:E) (m:Str) (as:Es) (L:Nat) (fv:List (Nat×Str))
 | isx (c:Str) (a:E)
 | cat (a b:E)
inductive Es where
 | nil
 | cons (a:E) (as:Es)
end
set_option genInjectivity false in
inductive S where
 | nil
 | seq (a b:S)
 | set (i:Nat) (x:Str) (e:E)
 | unp (xs:List (Nat×Str)) (e:E)
 | aug (i:Nat) (x:Str) (o:Bin) (e:E)
 | put (i:Nat) (x:Str) (k e:E)
 | setf (o:E) (f:Str) (e:E)
 | augf (o:E) (f:Str) (op:Bin) (e:E)
 | ex (e:E)
 | ret (e:E)
 | ife (c:E) (a b:S)
 | whl (c:E) (b:S)
 | for (tg:List (Nat×Str)) (sr:Sr) (sa:Es) (b:S)
 | brk|cnt
 | bad
 | rai (c:Str) (e:E)
set_option genInjectivity false in
structure Fn where
 ps:List Str
 ns:List Str
 body:S
noncomputable def bnd {α β:Type} (x:Option (α×HH)) (k:α->HH->Option β):Option β :=
 match x with|some (a,h)=>k a h|none=>none
@[simp] theorem bR {α β:Type} (a:α) (h:HH) (k:α->HH->Option β):bnd (some (a,h)) k=k a h:=rfl
@[simp] theorem IY {α β:Type} (k:α->HH->Option β):bnd none k=none:=rfl
@[simp] noncomputable def lim:Nat:=100000
mutual
@[simp] noncomputable def eqv:D->D->Bool
 | .non,.non=>true
 | .bl a,.bl b=>a==b
 | .bl a,.int j=>(if a then (1:Int) else 0)==j
 | .int i,.bl b=>i==(if b then (1:Int) else 0)
 | .int i,.int j=>i==j
 | .str x,.str y=>x==y
 | .tup xs,.tup ys=>m7 xs ys
 | .lst xs,.lst ys=>m7 xs ys
 | _,_=>false
@[simp] noncomputable def m7:List D->List D->Bool
 | [],[]=>true
 | x :: xs,y :: ys=>eqv x y&&m7 xs ys
 | _,_=>false
end
noncomputable def oJ:Cl->Option (List D)
 | .l xs=>some xs
 | .o _ _=>none
 | .d _=>none
noncomputable def qi:Cl->Option (Str×List (Str×W))
 | .l _=>none
 | .o c fs=>some (c,fs)
 | .d _=>none
noncomputable def ya:Cl->Option (List (Ky×D))
 | .l _=>none
 | .o _ _=>none
 | .d kvs=>some kvs
@[simp] theorem Ms (kvs:List (Ky×D)):oJ (.d kvs)=none:=rfl
@[simp] theorem Mt (kvs:List (Ky×D)):qi (.d kvs)=none:=rfl
@[simp] theorem Mu (kvs:List (Ky×D)):ya (.d kvs)=some kvs:=rfl
@[simp] theorem Mv (xs:List D):ya (.l xs)=none:=rfl
@[simp] theorem Mw (c:Str) (fs:List (Str×W)):ya (.o c fs)=none:=rfl
@[simp] theorem Mx (xs:List D):oJ (.l xs)=some xs:=rfl
@[simp] theorem Mz (c:Str) (fs:List (Str×W)):oJ (.o c fs)=none:=rfl
@[simp] theorem MA (xs:List D):qi (.l xs)=none:=rfl
@[simp] theorem FA (c:Str) (fs:List (Str×W)):qi (.o c fs)=some (c,fs):=rfl
noncomputable def lat (h:HH) (n:Nat):Option (List D):=(h[n]?).bind oJ
noncomputable def oat (h:HH) (n:Nat):Option (Str×List (Str×W)):=(h[n]?).bind qi
noncomputable def dat (h:HH) (n:Nat):Option (List (Ky×D)):=(h[n]?).bind ya
noncomputable def vN:D->Option Ky
 | .non=>none
 | .bl _=>none
 | .int i=>some (.inl i)
 | .str x=>some (.inr x)
 | .tup _=>none
 | .lst _=>none
@[simp] theorem IZ (i:Int):vN (.int i)=some (.inl i):=rfl
@[simp] theorem Ja (x:Str):vN (.str x)=some (.inr x):=rfl
noncomputable def BK:Ky->D
 | .inl i=>.int i
 | .inr x=>.str x
@[simp] theorem MB (i:Int):BK (.inl i)=.int i:=rfl
@[simp] theorem MC (x:Str):BK (.inr x)=.str x:=rfl
noncomputable def El (kvs:List (Ky×D)) (k:Ky):Option D:=(kvs.find? fun kv=>decide (kv.1=k)).map (·.2)
noncomputable def Em (kvs:List (Ky×D)) (k:Ky) (v:D):List (Ky×D) :=
 if (kvs.any fun kv=>decide (kv.1=k))=true then kvs.map (fun kv=>if kv.1=k then (kv.1,v) else kv) else kvs++[(k,v)]
noncomputable def lH (kvs:List (Ky×D)):List D:=kvs.map fun q=>.tup [BK q.1,q.2]
noncomputable def rd (w:W) (h:HH):Option D:=match w with
 | .p d=>some d
 | .r n=>(lat h n).map D.lst
 | .k _=>none
 | .o _=>none
 | .c _ _=>none
 | .x _=>none
@[simp] theorem OB (d:D) (h:HH):rd (.p d) h=some d:=rfl
noncomputable def big (i:Int):Bool:=decide (i.natAbs < 2 ^ 64)
noncomputable def rep (k:Nat) (xs:List D):List D:=(O7 k xs).flatten
noncomputable def iW:Bin->D->D->Option D
 | .add,.int i,.int j=>some (.int (i+j))
 | .add,.str x,.str y=>if x.length+y.length<=lim then some (.str (x++y)) else none
 | .add,.tup xs,.tup ys=>if xs.length+ys.length<=lim then some (.tup (xs++ys)) else none
 | .add,.lst xs,.lst ys=>if xs.length+ys.length<=lim then some (.lst (xs++ys)) else none
 | .sub,.int i,.int j=>some (.int (i - j))
 | .mul,.int i,.int j=>if big i||big j then some (.int (i*j)) else none
 | .mul,.tup xs,.int k=>if 2<=k&&k<=1000&&!xs.isEmpty&&xs.length*k.toNat<=lim then some (.tup (rep k.toNat xs)) else none
 | .mul,.lst xs,.int k=>if -1000<=k&&k<=1000&&xs.length*k.toNat<=lim then some (.lst (rep k.toNat xs)) else none
 | .mod,.int i,.int j=>if 0 < j then some (.int (i % j)) else none
 | .fdiv,.int i,.int j=>if 0 < j&&j < 1073741824 then some (.int (i / j)) else none
 | .pow,.int i,.int j=>if 0<=j&&j<=100&&big i then some (.int (i ^ j.toNat)) else none
 | _,_,_=>none
noncomputable def lI:Bin->D->D->Option D
 | .add,.int i,.int j=>some (.int (i+j))
 | .sub,.int i,.int j=>some (.int (i - j))
 | .mul,.int i,.int j=>if big i||big j then some (.int (i*j)) else none
 | _,_,_=>none
@[simp] theorem Jb (i j:Int):lI .add (.int i) (.int j)=some (.int (i+j)):=rfl
@[simp] theorem Jc (i j:Int):lI .sub (.int i) (.int j)=some (.int (i - j)):=rfl
@[simp] theorem qj (i j:Int):lI .mul (.int i) (.int j)=if big i||big j then some (.int (i*j)) else none:=rfl
@[simp] noncomputable def place (n:Nat) (i:Int):Option Nat :=
 if 0<=i then (if i < n then some i.toNat else none) else if -(n:Int)<=i then some (i+n).toNat else none
@[simp] noncomputable def atP {α:Type} (xs:List α) (i:Int):Option α:=(place xs.length i).bind fun j=>xs[j]?
@[simp] noncomputable def c9 (k:Str):List (Str×D)->Option D
 | []=>none
 | (x,d) :: r=>if k=x then some d else c9 k r
noncomputable def aA:D->D->Option D
 | .tup xs,.int i=>atP xs i
 | .lst xs,.int i=>atP xs i
 | .str x,.int i=>if x.length<=lim then (atP x.cps.toList i).map fun c=>.str ⟨#[c]⟩ else none
 | _,_=>none
@[simp] noncomputable def clip (n d:Nat):Option Int->Nat
 | none=>d
 | some v=>if v < 0 then (v+(n:Int)).toNat else if v<=(n:Int) then v.toNat else n
@[simp] noncomputable def cut (xs:List D) (lo hi:Option Int):List D:=(xs.drop (clip xs.length 0 lo)).take (clip xs.length xs.length hi - clip xs.length 0 lo)
@[simp] noncomputable def oK:List D->Option (Option Int)
 | []=>some none
 | [.int i]=>some (some i)
 | _=>none
noncomputable def oM (x:D) (lo hi:Option Int):Option D:=match x with
 | .tup xs=>some (.tup (cut xs lo hi))
 | .lst xs=>some (.lst (cut xs lo hi))
 | _=>none
noncomputable def dok:Nat->D->Bool
 | _,.non=>true
 | _,.bl _=>true
 | _,.int _=>true
 | _,.str _=>true
 | 0,.tup _=>false
 | 0,.lst _=>false
 | n+1,.tup xs=>xs.all (dok n)
 | n+1,.lst xs=>xs.all (dok n)
@[simp] theorem BN (n:Nat):dok n .non=true:=by cases n<;>rfl
@[simp] theorem MD (n:Nat) (b:Bool):dok n (.bl b)=true:=by cases n<;>rfl
@[simp] theorem BO (n:Nat) (i:Int):dok n (.int i)=true:=by cases n<;>rfl
@[simp] theorem BP (n:Nat) (x:Str):dok n (.str x)=true:=by cases n<;>rfl
@[simp] theorem tW (n:Nat) (xs:List D):dok (n+1) (.tup xs)=xs.all (dok n):=rfl
@[simp] theorem tX (n:Nat) (xs:List D):dok (n+1) (.lst xs)=xs.all (dok n):=rfl
noncomputable def aV (x y:D):Bool:=dok 100 x||dok 100 y
@[simp] theorem Jd (x:D) (y:Str):aV x (.str y)=true:=by simp[aV]
@[simp] theorem Je (x:D) (y:Int):aV x (.int y)=true:=by simp[aV]
@[simp] theorem HL (x:D) (y:Str):aV (.str y) x=true:=by simp[aV]
@[simp] theorem HM (x:D) (y:Int):aV (.int y) x=true:=by simp[aV]
@[simp] theorem HN (x:D):aV x (.tup [])=true:=by simp[aV,dok]
@[simp] theorem HP (x:D):aV x (.lst [])=true:=by simp[aV,dok]
@[simp] theorem KW (x:D) (b:Bool):aV x (.bl b)=true:=by simp[aV]
theorem fX {x y:D} (h:dok 100 y=true):aV x y=true:=by simp[aV,h]
noncomputable def gY:D->Bool
 | .non=>true
 | .bl _=>false
 | .int _=>false
 | .str _=>false
 | .tup _=>false
 | .lst _=>false
@[simp] theorem HQ:gY .non=true:=rfl
@[simp] theorem Jf (z:Bool):gY (.bl z)=false:=rfl
@[simp] theorem HR (z:Int):gY (.int z)=false:=rfl
@[simp] theorem HS (z:Str):gY (.str z)=false:=rfl
@[simp] theorem HU (z:List D):gY (.tup z)=false:=rfl
@[simp] theorem HV (z:List D):gY (.lst z)=false:=rfl
noncomputable def dX:Cm->D->D->Option Bool
 | .eq,x,y=>if aV x y then some (eqv x y) else none
 | .ne,x,y=>if aV x y then some (!eqv x y) else none
 | .lt,.int i,.int j=>some (decide (i < j))
 | .le,.int i,.int j=>some (decide (i<=j))
 | .gt,.int i,.int j=>some (decide (j < i))
 | .ge,.int i,.int j=>some (decide (j<=i))
 | .isN,x,.non=>some (gY x)
 | .notN,x,.non=>some (!gY x)
 | .mem,x,.tup ys=>if ys.all fun y=>aV y x then some (ys.any fun y=>eqv y x) else none
 | .mem,x,.lst ys=>if ys.all fun y=>aV y x then some (ys.any fun y=>eqv y x) else none
 | .nmem,x,.tup ys=>if ys.all fun y=>aV y x then some (!ys.any fun y=>eqv y x) else none
 | .nmem,x,.lst ys=>if ys.all fun y=>aV y x then some (!ys.any fun y=>eqv y x) else none
 | _,_,_=>none
@[simp] noncomputable def intsOf:List D->Option (List Int)
 | []=>some []
 | .int i :: r=>(intsOf r).map (i :: ·)
 | _=>none
@[simp] noncomputable def allB:List D->Option Bool
 | []=>some true
 | .bl b :: r=>if b then allB r else some false
 | _=>none
@[simp] noncomputable def anyB:List D->Option Bool
 | []=>some false
 | .bl b :: r=>if b then some true else anyB r
 | _=>none
noncomputable def isI:D->Bool
 | .non=>false
 | .bl _=>true
 | .int _=>true
 | .str _=>false
 | .tup _=>false
 | .lst _=>false
@[simp] theorem KY:isI .non=false:=rfl
@[simp] theorem ME (z:Bool):isI (.bl z)=true:=rfl
@[simp] theorem KZ (z:Int):isI (.int z)=true:=rfl
@[simp] theorem K0 (z:Str):isI (.str z)=false:=rfl
@[simp] theorem K1 (z:List D):isI (.tup z)=false:=rfl
@[simp] theorem K3 (z:List D):isI (.lst z)=false:=rfl
noncomputable def isB:D->Bool
 | .non=>false
 | .bl _=>true
 | .int _=>false
 | .str _=>false
 | .tup _=>false
 | .lst _=>false
@[simp] theorem K4:isB .non=false:=rfl
@[simp] theorem MF (z:Bool):isB (.bl z)=true:=rfl
@[simp] theorem K5 (z:Int):isB (.int z)=false:=rfl
@[simp] theorem K6 (z:Str):isB (.str z)=false:=rfl
@[simp] theorem K7 (z:List D):isB (.tup z)=false:=rfl
@[simp] theorem K8 (z:List D):isB (.lst z)=false:=rfl
noncomputable def isS:D->Bool
 | .non=>false
 | .bl _=>false
 | .int _=>false
 | .str _=>true
 | .tup _=>false
 | .lst _=>false
@[simp] theorem K9:isS .non=false:=rfl
@[simp] theorem MG (z:Bool):isS (.bl z)=false:=rfl
@[simp] theorem La (z:Int):isS (.int z)=false:=rfl
@[simp] theorem Lb (z:Str):isS (.str z)=true:=rfl
@[simp] theorem Lc (z:List D):isS (.tup z)=false:=rfl
@[simp] theorem Ld (z:List D):isS (.lst z)=false:=rfl
noncomputable def isT:D->Bool
 | .non=>false
 | .bl _=>false
 | .int _=>false
 | .str _=>false
 | .tup _=>true
 | .lst _=>false
@[simp] theorem Lf:isT .non=false:=rfl
@[simp] theorem MH (z:Bool):isT (.bl z)=false:=rfl
@[simp] theorem Lg (z:Int):isT (.int z)=false:=rfl
@[simp] theorem Lh (z:Str):isT (.str z)=false:=rfl
@[simp] theorem Li (z:List D):isT (.tup z)=true:=rfl
@[simp] theorem Lj (z:List D):isT (.lst z)=false:=rfl
noncomputable def isL:D->Bool
 | .non=>false
 | .bl _=>false
 | .int _=>false
 | .str _=>false
 | .tup _=>false
 | .lst _=>true
@[simp] theorem Lk:isL .non=false:=rfl
@[simp] theorem MI (z:Bool):isL (.bl z)=false:=rfl
@[simp] theorem Ll (z:Int):isL (.int z)=false:=rfl
@[simp] theorem Lm (z:Str):isL (.str z)=false:=rfl
@[simp] theorem Ln (z:List D):isL (.tup z)=false:=rfl
@[simp] theorem Lo (z:List D):isL (.lst z)=true:=rfl
noncomputable def sortI (ns:List Int):List Int:=ns.mergeSort fun a b=>decide (a<=b)
noncomputable def MJ:List Int->Option Int
 | []=>none
 | n :: ns=>some (ns.foldl max n)
@[simp] noncomputable def BQ:List D->List D->List D
 | x :: xs,y :: ys=>.tup [x,y] :: BQ xs ys
 | _,_=>[]
noncomputable def ded (ns:List Int):List Int:=ns.foldl (fun σ v=>if σ.any (·==v) then σ else σ++[v]) []
noncomputable def biD:Bi->List D->Option D
 | .len,[.tup xs]=>some (.int xs.length)
 | .len,[.lst xs]=>some (.int xs.length)
 | .len,[.str x]=>if x.length<=lim then some (.int x.length) else none
 | .abs,[.int i]=>some (.int (if i < 0 then -i else i))
 | .int,[.int i]=>some (.int i)
 | .int,[.bl b]=>some (.int (if b then 1 else 0))
 | .str,[.int i]=>if big i then some (.str (toString i)) else none
 | .tuple,[.lst xs]=>some (.tup xs)
 | .tuple,[.tup xs]=>some (.tup xs)
 | .list,[.lst xs]=>some (.lst xs)
 | .list,[.tup xs]=>some (.lst xs)
 | .all,[.lst xs]=>(allB xs).map .bl
 | .any,[.lst xs]=>(anyB xs).map .bl
 | .isInt,[x]=>some (.bl (isI x))
 | .isBool,[x]=>some (.bl (isB x))
 | .isStr,[x]=>some (.bl (isS x))
 | .isTuple,[x]=>some (.bl (isT x))
 | .isList,[x]=>some (.bl (isL x))
 | .min2,[.int i,.int j]=>some (.int (if j < i then j else i))
 | .max2,[.int i,.int j]=>some (.int (if j > i then j else i))
 | .sorted,[.lst xs]=>(intsOf xs).bind fun ns=>if ns.length < 64 then some (.lst ((sortI ns).map .int)) else none
 | .max1,[.lst xs]=>(intsOf xs).bind fun ns=>(MJ ns).map .int
 | .sum,[.lst xs]=>(intsOf xs).map fun ns=>.int ns.sum
 | .nset,[.lst xs]=>(intsOf xs).bind fun ns=>if ns.length < 1000 then some (.int ((ded ns).length:Nat)) else none
 | .sset,[.lst xs]=>(intsOf xs).bind fun ns=>if ns.length < 64 then some (.lst ((sortI (ded ns)).map .int)) else none
 | .lzip,[.tup xs,.tup ys]=>if 0 < xs.length/\xs.length=ys.length then some (.lst (BQ xs ys)) else none
 | _,_=>none
@[simp] noncomputable def bz:Nat->List D->List D
 | _,[]=>[]
 | k,x :: r=>.tup [.int k,x] :: bz (k+1) r
noncomputable def oN:D->Option (List D)
 | .tup xs=>some xs
 | .lst xs=>some xs
 | _=>none
noncomputable def upto (lo:Int) (n:Nat):List D:=(Pu n).map fun (k:Nat)=>D.int (lo+(k:Int))
noncomputable def dY:Sr->List D->Option (List D)
 | .seq,[x]=>oN x
 | .rng1,[.int n]=>if -100000<=n&&n<=100000 then some (upto 0 n.toNat) else none
 | .rng2,[.int a,.int b]=>if -100000<=a&&a<=100000&&-100000<=b&&b<=100000 then some (upto a (b - a).toNat) else none
 | .rev,[.lst xs]=>some xs.reverse
 | .enu,[.lst xs]=>some (bz 0 xs)
 | .zip2,[.lst xs,.lst ys]=>some (BQ xs ys)
 | _,_=>none
@[simp] noncomputable def fj (x:D):List D->Nat->Option Nat
 | [],_=>none
 | y :: r,k=>if eqv y x then some k else fj x r (k+1)
@[simp] noncomputable def Jg (c:Nat):List Nat->Nat->Option Nat
 | [],_=>none
 | y :: r,k=>if y=c then some k else Jg c r (k+1)
@[simp] noncomputable def aO:List W->Option (List D)
 | []=>some []
 | .p d :: r=>(aO r).map (d :: ·)
 | .r _ :: _=>none
 | .k _ :: _=>none
 | .o _ :: _=>none
 | .c _ _ :: _=>none
 | .x _ :: _=>none
noncomputable def meD:Me->D->List D->Option D
 | .tindex,.tup xs,[x]=>if xs.all fun y=>aV y x then (fj x xs 0).map fun (q:Nat)=>D.int (q:Int) else none
 | .sindex,.str x,[.str y]=>match QT x y 0 x.length 1 with
  | i :: _=>some (.int (i:Int))
  | []=>none
 | .count,.lst xs,[x]=>if xs.all fun y=>aV y x then some (.int ((xs.countP fun y=>eqv y x:Nat):Int)) else none
 | .lindex,.lst xs,[x]=>if xs.all fun y=>aV y x then (fj x xs 0).map fun (q:Nat)=>D.int (q:Int) else none
 | _,_,_=>none
theorem rV {xs:List D}{x:D}:meD .count (.lst xs) [x]=if xs.all fun y=>aV y x then some (.int ((xs.countP fun y=>eqv y x:Nat):Int)) else none:=rfl
theorem rW {xs:List D}{x:D}:meD .lindex (.lst xs) [x]=if xs.all fun y=>aV y x then (fj x xs 0).map fun (q:Nat)=>D.int (q:Int) else none:=rfl
theorem yb {xs:List D}{x:D}:meD .tindex (.tup xs) [x]=if xs.all fun y=>aV y x then (fj x xs 0).map fun (q:Nat)=>D.int (q:Int) else none:=rfl
theorem yc {x y:Str}:meD .sindex (.str x) [.str y]=match QT x y 0 x.length 1 with
 | i :: _=>some (.int (i:Int))
 | []=>none:=rfl
noncomputable def meW (m:Me) (o:W) (as:List W) (h:HH):Option (W×HH):=match m,o,as with
 | .append,.r n,[.p d]=>match lat h n with
  | some xs=>if xs.length < lim then some (.p .non,h.set n (.l (xs++[d]))) else none
  | none=>none
 | .pop,.r n,[]=>match lat h n with
  | some xs=>match xs.getLast? with
   | some d=>some (.p d,h.set n (.l xs.dropLast))
   | none=>none
  | none=>none
 | .extend,.r n,[w]=>match lat h n,(rd w h).bind oN with
  | some xs,some ys=>if xs.length+ys.length<=lim then some (.p .non,h.set n (.l (xs++ys))) else none
  | _,_=>none
 | .dget,.k kvs,[.p (.str x)]=>some (.p ((c9 x kvs).getD .non),h)
 | .dget,.k _,[.p .non]=>some (.p .non,h)
 | .dget,.k kvs,[.p (.str x),.p d]=>some (.p ((c9 x kvs).getD d),h)
 | m,.p d,as=>match aO as with
  | some ds=>(meD m d ds).map fun x=>(.p x,h)
  | none=>none
 | _,_,_=>none
section
variable (n:Nat) (d:D) (h:HH) (kvs:List (Str×D)) (x:Str) (as:List W)
@[simp] theorem rX:meW .append (.r n) [.p d] h=match lat h n with
 | some xs=>if xs.length < lim then some (.p .non,h.set n (.l (xs++[d]))) else none
 | none=>none:=rfl
@[simp] theorem BU:meW .pop (.r n) [] h=match lat h n with
 | some xs=>match xs.getLast? with
  | some d=>some (.p d,h.set n (.l xs.dropLast))
  | none=>none
 | none=>none:=rfl
@[simp] theorem rY (w:W):meW .extend (.r n) [w] h=match lat h n,(rd w h).bind oN with
 | some xs,some ys=>if xs.length+ys.length<=lim then some (.p .non,h.set n (.l (xs++ys))) else none
 | _,_=>none:=rfl
@[simp] theorem Jh:meW .dget (.k kvs) [.p (.str x)] h=some (.p ((c9 x kvs).getD .non),h):=rfl
@[simp] theorem FD:meW .dget (.k kvs) [.p .non] h=some (.p .non,h):=rfl
@[simp] theorem HW:meW .dget (.k kvs) [.p (.str x),.p d] h=some (.p ((c9 x kvs).getD d),h):=rfl
@[simp] theorem lJ:meW .tindex (.p d) as h=match aO as with
 | some ds=>(meD .tindex d ds).map fun x=>(.p x,h)
 | none=>none:=rfl
@[simp] theorem vO:meW .count (.p d) as h=match aO as with
 | some ds=>(meD .count d ds).map fun x=>(.p x,h)
 | none=>none:=rfl
@[simp] theorem rZ:meW .lindex (.p d) as h=match aO as with
 | some ds=>(meD .lindex d ds).map fun x=>(.p x,h)
 | none=>none:=rfl
@[simp] theorem lK:meW .sindex (.p d) as h=match aO as with
 | some ds=>(meD .sindex d ds).map fun x=>(.p x,h)
 | none=>none:=rfl
end
noncomputable def new (mu:Bool) (xs:List D) (h:HH):W×HH:=if mu then (.r h.length,h++[.l xs]) else (.p (.lst xs),h)
@[simp] theorem Og (xs:List D) (h:HH):new false xs h=(.p (.lst xs),h):=rfl
@[simp] theorem Oh (xs:List D) (h:HH):new true xs h=(.r h.length,h++[.l xs]):=rfl
@[simp] noncomputable def rds (ws:List W) (h:HH):Option (List D):=match ws with
 | []=>some []
 | w :: r=>(rd w h).bind fun d=>(rds r h).map (d :: ·)
noncomputable def OD:D->Option (List D)
 | .lst xs=>some xs
 | _=>none
noncomputable def unpack (n:Nat):D->Option (List D)
 | .tup xs=>if xs.length=n then some xs else none
 | _=>none
noncomputable def target (n:Nat) (d:D):Option (List D):=if n=1 then some [d] else unpack n d
section
variable (i j k a b:Int) (c:Bool) (x y:Str) (xs ys:List D) (kvs:List (Str×D)) (d e:D) (lo hi:Option Int)
@[simp] theorem f6:iW .add (.int i) (.int j)=some (.int (i+j)):=rfl
@[simp] theorem dg:iW .add (.str x) (.str y)=if x.length+y.length<=lim then some (.str (x++y)) else none:=rfl
@[simp] theorem cL:iW .add (.tup xs) (.tup ys)=if xs.length+ys.length<=lim then some (.tup (xs++ys)) else none:=rfl
@[simp] theorem bS:iW .add (.lst xs) (.lst ys)=if xs.length+ys.length<=lim then some (.lst (xs++ys)) else none:=rfl
@[simp] theorem f7:iW .sub (.int i) (.int j)=some (.int (i - j)):=rfl
@[simp] theorem f9:iW .mul (.int i) (.int j)=if big i||big j then some (.int (i*j)) else none:=rfl
@[simp] theorem dh:iW .mul (.tup xs) (.int k)=if 2<=k&&k<=1000&&!xs.isEmpty&&xs.length*k.toNat<=lim then some (.tup (rep k.toNat xs)) else none:=rfl
@[simp] theorem dj:iW .mul (.lst xs) (.int k)=if -1000<=k&&k<=1000&&xs.length*k.toNat<=lim then some (.lst (rep k.toNat xs)) else none:=rfl
@[simp] theorem gc:iW .mod (.int i) (.int j)=if 0 < j then some (.int (i % j)) else none:=rfl
@[simp] theorem eW:iW .fdiv (.int i) (.int j)=if 0 < j&&j < 1073741824 then some (.int (i / j)) else none:=rfl
@[simp] theorem gf:iW .pow (.int i) (.int j)=if 0<=j&&j<=100&&big i then some (.int (i ^ j.toNat)) else none:=rfl
@[simp] theorem aB:aA (.tup xs) (.int i)=atP xs i:=rfl
@[simp] theorem bq:aA (.lst xs) (.int i)=atP xs i:=rfl
@[simp] theorem gZ:aA (.str x) (.int i)=if x.length<=lim then (atP x.cps.toList i).map fun c=>.str ⟨#[c]⟩ else none:=rfl
@[simp] theorem oO:oM (.tup xs) lo hi=some (.tup (cut xs lo hi)):=rfl
@[simp] theorem MK:oM (.lst xs) lo hi=some (.lst (cut xs lo hi)):=rfl
@[simp] theorem tY:dX .eq d e=if aV d e then some (eqv d e) else none:=rfl
@[simp] theorem dG:dX .ne d e=if aV d e then some (!eqv d e) else none:=rfl
@[simp] theorem fF:dX .lt (.int i) (.int j)=some (decide (i < j)):=rfl
@[simp] theorem fG:dX .le (.int i) (.int j)=some (decide (i<=j)):=rfl
@[simp] theorem fH:dX .gt (.int i) (.int j)=some (decide (j < i)):=rfl
@[simp] theorem fJ:dX .ge (.int i) (.int j)=some (decide (j<=i)):=rfl
@[simp] theorem dP:dX .isN d .non=some (gY d):=rfl
@[simp] theorem cQ:dX .notN d .non=some (!gY d):=rfl
@[simp] theorem bI:dX .mem d (.tup ys)=if ys.all fun y=>aV y d then some (ys.any fun y=>eqv y d) else none:=rfl
@[simp] theorem bT:dX .mem d (.lst ys)=if ys.all fun y=>aV y d then some (ys.any fun y=>eqv y d) else none:=rfl
@[simp] theorem bG:dX .nmem d (.tup ys)=if ys.all fun y=>aV y d then some (!ys.any fun y=>eqv y d) else none:=rfl
@[simp] theorem bH:dX .nmem d (.lst ys)=if ys.all fun y=>aV y d then some (!ys.any fun y=>eqv y d) else none:=rfl
@[simp] theorem nN:biD .len [.tup xs]=some (.int xs.length):=rfl
@[simp] theorem vP:biD .len [.lst xs]=some (.int xs.length):=rfl
@[simp] theorem vQ:biD .len [.str x]=if x.length<=lim then some (.int x.length) else none:=rfl
@[simp] theorem Lp:biD .abs [.int i]=some (.int (if i < 0 then -i else i)):=rfl
@[simp] theorem Lq:biD .int [.int i]=some (.int i):=rfl
@[simp] theorem HX:biD .int [.bl c]=some (.int (if c then 1 else 0)):=rfl
@[simp] theorem Lr:biD .str [.int i]=if big i then some (.str (toString i)) else none:=rfl
@[simp] theorem En:biD .tuple [.lst xs]=some (.tup xs):=rfl
@[simp] theorem Eo:biD .tuple [.tup xs]=some (.tup xs):=rfl
@[simp] theorem FE:biD .list [.lst xs]=some (.lst xs):=rfl
@[simp] theorem FF:biD .list [.tup xs]=some (.lst xs):=rfl
@[simp] theorem Ls:biD .all [.lst xs]=(allB xs).map .bl:=rfl
@[simp] theorem Lu:biD .any [.lst xs]=(anyB xs).map .bl:=rfl
@[simp] theorem HY:biD .isInt [d]=some (.bl (isI d)):=rfl
@[simp] theorem FG:biD .isBool [d]=some (.bl (isB d)):=rfl
@[simp] theorem HZ:biD .isStr [d]=some (.bl (isS d)):=rfl
@[simp] theorem Ep:biD .isTuple [d]=some (.bl (isT d)):=rfl
@[simp] theorem FH:biD .isList [d]=some (.bl (isL d)):=rfl
@[simp] theorem Lv:biD .min2 [.int i,.int j]=some (.int (if j < i then j else i)):=rfl
@[simp] theorem Lx:biD .max2 [.int i,.int j]=some (.int (if j > i then j else i)):=rfl
@[simp] theorem ML:oN (.tup xs)=some xs:=rfl
@[simp] theorem MM:oN (.lst xs)=some xs:=rfl
@[simp] theorem yd:dY .seq [d]=oN d:=rfl
@[simp] theorem eX:dY .rng1 [.int a]=if -100000<=a&&a<=100000 then some (upto 0 a.toNat) else none:=rfl
@[simp] theorem eY:dY .rng2 [.int a,.int b]=if -100000<=a&&a<=100000&&-100000<=b&&b<=100000 then some (upto a (b - a).toNat) else none:=rfl
@[simp] theorem Ji:dY .rev [.lst xs]=some xs.reverse:=rfl
@[simp] theorem ye:dY .enu [.lst xs]=some (bz 0 xs):=rfl
@[simp] theorem Jj:dY .zip2 [.lst xs,.lst ys]=some (BQ xs ys):=rfl
@[simp] theorem FI:meD .tindex (.tup xs) [d]=if xs.all fun y=>aV y d then (fj d xs 0).map fun (q:Nat)=>D.int (q:Int) else none:=rfl
@[simp] theorem yf (n:Nat):unpack n (.tup xs)=if xs.length=n then some xs else none:=rfl
end
@[simp] theorem jw (d:D):target 1 d=some [d]:=rfl
@[simp] theorem Jk (d:D):target 2 d=unpack 2 d:=rfl
noncomputable def tZ (o:Option D) (out:List D) (h:HH):Option (List D×HH):=some (match o with|some x=>x :: out|none=>out,h)
noncomputable def BV (r:HH->Option (List D×HH)) (o:Option D) (h:HH):Option (List D×HH):=bnd (r h) (tZ o)
@[simp] theorem yh (o:Option D) (out:List D) (h:HH):tZ o out h=some (match o with|some x=>x :: out|none=>out,h):=rfl
@[simp] theorem BW (r:HH->Option (List D×HH)) (o:Option D) (h:HH):BV r o h=bnd (r h) (tZ o):=rfl
noncomputable def bJ (f:List D->HH->Option (Option D×HH)) (n:Nat):List D->HH->Option (List D×HH)
 | [],h=>some ([],h)
 | d :: r,h=>match target n d with
  | some ds=>bnd (f ds h) (BV (bJ f n r))
  | none=>none
noncomputable def dZ (d:D):Option W:=some (.p d)
noncomputable abbrev EH:=HH->Option (W×HH)
noncomputable abbrev OpW:=W->W->HH->Option (W×HH)
@[simp] noncomputable def k2 (eb:EH) (op:OpW) (x:W) (h:HH):Option (W×HH):=bnd (eb h) (op x)
@[simp] noncomputable def m8 (o:Bin) (x y:W) (h:HH):Option (W×HH):=match rd x h,rd y h with
 | some d,some e=>(iW o d e).map fun z=>(.p z,h)
 | _,_=>none
noncomputable def inK (o:Cm) (x:W) (kvs:List (Str×D)):Option Bool:=match o,x with
 | .mem,.p (.str s)=>some (c9 s kvs).isSome
 | .nmem,.p (.str s)=>some (!(c9 s kvs).isSome)
 | _,_=>none
@[simp] noncomputable def gP (o:Cm) (x y:W) (h:HH):Option (W×HH):=match y with
 | .k kvs=>(inK o x kvs).map fun z=>(.p (.bl z),h)
 | y=>match rd x h,rd y h with
  | some d,some e=>(dX o d e).map fun z=>(.p (.bl z),h)
  | _,_=>none
noncomputable def atK (kvs:List (Str×D)) (y:W):Option D:=match y with
 | .p (.str s)=>c9 s kvs
 | _=>none
@[simp] theorem Oi (kvs:List (Str×D)) (x:Str):atK kvs (.p (.str x))=c9 x kvs:=rfl
@[simp] theorem Oj (kvs:List (Str×D)) (x:Str):inK .mem (.p (.str x)) kvs=some (c9 x kvs).isSome:=rfl
@[simp] theorem Ol (kvs:List (Str×D)) (x:Str):inK .nmem (.p (.str x)) kvs=some (!(c9 x kvs).isSome):=rfl
@[simp] noncomputable def BY (x y:W) (h:HH):Option (W×HH):=match x with
 | .k kvs=>(atK kvs y).map fun z=>(.p z,h)
 | x=>match rd x h,rd y h with
  | some d,some e=>(aA d e).map fun z=>(.p z,h)
  | _,_=>none
@[simp] noncomputable def BZ (x:W) (h:HH):Option (W×HH):=match x with | .p (.int i)=>some (.p (.int (-i)),h)|_=>none
@[simp] noncomputable def B0 (x:W) (h:HH):Option (W×HH):=match x with | .p (.bl b)=>some (.p (.bl (!b)),h)|_=>none
@[simp] noncomputable def B3 (eb:EH) (x:W) (h:HH):Option (W×HH):=match x with | .p (.bl c)=>if c then eb h else some (.p (.bl false),h)|_=>none
@[simp] noncomputable def kOr (eb:EH) (x:W) (h:HH):Option (W×HH):=match x with | .p (.bl c)=>if c then some (.p (.bl true),h) else eb h|_=>none
@[simp] noncomputable def B4 (ea eb:EH) (x:W) (h:HH):Option (W×HH):=match x with | .p (.bl c)=>if c then ea h else eb h|_=>none
@[simp] noncomputable def Jl (o':Cm) (e:D) (z:W) (h:HH):Option (W×HH):=match rd z h with
 | some f=>(dX o' e f).map fun r=>(.p (.bl r),h)
 | none=>none
@[simp] noncomputable def oCh (o o':Cm) (ec:EH) (x y:W) (h:HH):Option (W×HH):=match rd x h,y with
 | some d,.p e=>match dX o d e with
  | some true=>bnd (ec h) (Jl o' e)
  | some false=>some (.p (.bl false),h)
  | none=>none
 | _,_=>none
@[simp] noncomputable def FJ (ws:List W) (h:HH):Option (W×HH):=match aO ws with|some ds=>if ds.length<=lim then some (.p (.tup ds),h) else none|none=>none
@[simp] noncomputable def FM (mu:Bool) (ws:List W) (h:HH):Option (W×HH):=match aO ws with|some ds=>if ds.length<=lim then some (new mu ds h) else none|none=>none
@[simp] noncomputable def Jm (x:W) (l u:List W) (h:HH):Option (W×HH):=match rd x h,(aO l).bind oK,(aO u).bind oK with
 | some d,some l',some u'=>(oM d l' u').map fun z=>(.p z,h)
 | _,_,_=>none
@[simp] noncomputable def Jo (eu:HH->Option (List W×HH)) (x:W) (l:List W) (h:HH):Option (W×HH):=bnd (eu h) (Jm x l)
@[simp] noncomputable def Jp (el eu:HH->Option (List W×HH)) (x:W) (h:HH):Option (W×HH):=bnd (el h) (Jo eu x)
@[simp] noncomputable def MN (x:W) (h:HH):Option (W×HH):=match rd x h with
 | some (.tup xs)=>some (.p (.tup xs.reverse),h)
 | some (.lst xs)=>some (.p (.lst xs.reverse),h)
 | _=>none
noncomputable def qk (k:Int) (xs:List D):List D:=(SK (Pz none none (some k) xs.length).1 (Pz none none (some k) xs.length).2.1 (Pz none none (some k) xs.length).2.2).filterMap fun i=>xs[i]?
@[simp] noncomputable def FN (mu:Bool) (k:Int) (x:W) (h:HH):Option (W×HH):=match rd x h with
 | some (.lst xs)=>some (new mu (qk k xs) h)
 | _=>none
@[simp] noncomputable def kBi (b:Bi) (mu:Bool) (ws:List W) (h:HH):Option (W×HH):=match rds ws h with
 | some ds=>match biD b ds with
  | some d=>if mu then (match d with | .lst xs=>some (new true xs h)|_=>none) else some (.p d,h)
  | none=>none
 | none=>none
noncomputable def ng (x:W) (h:HH):Bool:=match x with
 | .r n=>(lat h n).isSome
 | _=>true
@[simp] theorem MO (n:Nat) (h:HH):ng (.r n) h=(lat h n).isSome:=rfl
@[simp] theorem MP (d:D) (h:HH):ng (.p d) h=true:=rfl
@[simp] theorem MQ (d:List (Str×D)) (h:HH):ng (.k d) h=true:=rfl
@[simp] noncomputable def kMe (m:Me) (ea:HH->Option (List W×HH)) (x:W) (h:HH):Option (W×HH):=if ng x h then bnd (ea h) (meW m x) else none
@[simp] noncomputable def kLs (mu:Bool) (sr:Sr) (ws:List W) (h:HH):Option (W×HH):=match (rds ws h).bind (dY sr) with
 | some ds=>if ds.length<=lim then some (new mu ds h) else none
 | none=>none
@[simp] noncomputable def nh (w:W) (h:HH):Option (Option D×HH):=match w with | .p d=>some (some d,h)|_=>none
noncomputable def ua (ee:EH) (cs:List W) (h:HH):Option (Option D×HH):=match cs with
 | []=>bnd (ee h) nh
 | [.p (.bl true)]=>bnd (ee h) nh
 | [.p (.bl false)]=>some (none,h)
 | _=>none
@[simp] theorem Ly (ee:EH) (h:HH):ua ee [] h=bnd (ee h) nh:=rfl
@[simp] theorem Lz (ee:EH) (h:HH):ua ee [.p (.bl true)] h=bnd (ee h) nh:=rfl
@[simp] theorem LC (ee:EH) (h:HH):ua ee [.p (.bl false)] h=some (none,h):=rfl
@[simp] noncomputable def fK (ec:Sl->HH->Option (List W×HH)) (ee:Sl->EH) (fs:Sl) (xs:List D) (h:HH):Option (Option D×HH) :=
 bnd (ec (xs.map dZ++fs) h) (ua (ee (xs.map dZ++fs)))
@[simp] noncomputable def fk (mu:Bool) (out:List D) (h:HH):Option (W×HH):=if out.length<=lim then some (new mu out h) else none
noncomputable def aX (f:Str):List (Str×W)->Option W
 | []=>none
 | (x,w) :: r=>if f=x then some w else aX f r
noncomputable def bF (f:Str) (w:W):List (Str×W)->List (Str×W)
 | []=>[(f,w)]
 | (x,u) :: r=>if f=x then (f,w) :: r else (x,u) :: bF f w r
@[simp] theorem Jq (f:Str):aX f []=none:=rfl
@[simp] theorem nO (f x:Str) (w:W) (r:List (Str×W)):aX f ((x,w) :: r)=if f=x then some w else aX f r:=rfl
@[simp] theorem Jr (f:Str) (w:W):bF f w []=[(f,w)]:=rfl
@[simp] theorem vR (f x:Str) (w u:W) (r:List (Str×W)):bF f w ((x,u) :: r)=if f=x then (f,w) :: r else (x,u) :: bF f w r:=rfl
noncomputable def attrOk:W->Bool
 | .p _=>true
 | .r _=>true
 | .k _=>false
 | .o _=>true
 | .c _ _=>false
 | .x _=>false
@[simp] theorem Js (d:D):attrOk (.p d)=true:=rfl
@[simp] theorem Jt (n:Nat):attrOk (.r n)=true:=rfl
@[simp] theorem Ju (n:Nat):attrOk (.o n)=true:=rfl
noncomputable def B5 (f:Str) (x:W) (h:HH):Option (W×HH):=match x with
 | .o n=>match oat h n with
  | some (_,fs)=>(aX f fs).map fun w=>(w,h)
  | none=>none
 | _=>none
@[simp] theorem FO (f:Str) (n:Nat) (h:HH):B5 f (.o n) h=match oat h n with
 | some (_,fs)=>(aX f fs).map fun w=>(w,h)
 | none=>none:=rfl
noncomputable def r8 (F:FK->List W->HH->Option (W×HH)) (q:FK) (n:Nat) (ws:List W) (h:HH):Option (W×HH):=F q (.o n :: ws) h
@[simp] theorem Ia (F:FK->List W->HH->Option (W×HH)) (q:FK) (n:Nat) (ws:List W) (h:HH):r8 F q n ws h=F q (.o n :: ws) h:=rfl
noncomputable def yi (F:FK->List W->HH->Option (W×HH)) (m:Str) (ea:HH->Option (List W×HH)) (x:W) (h:HH):Option (W×HH):=match x with
 | .o n=>match oat h n with
  | some (c,fs)=>if (aX m fs).isNone then bnd (ea h) (r8 F (.m c m) n) else none
  | none=>none
 | _=>none
@[simp] theorem B6 (F:FK->List W->HH->Option (W×HH)) (m:Str) (ea:HH->Option (List W×HH)) (n:Nat) (h:HH):yi F m ea (.o n) h=match oat h n with
 | some (c,fs)=>if (aX m fs).isNone then bnd (ea h) (r8 F (.m c m) n) else none
 | none=>none:=rfl
noncomputable def uc (n:Nat) (x:W) (h:HH):Option (W×HH):=match x with
 | .p .non=>some (.o n,h)
 | _=>none
@[simp] theorem LD (n:Nat) (h:HH):uc n (.p .non) h=some (.o n,h):=rfl
noncomputable def Er (F:FK->List W->HH->Option (W×HH)) (c:Str) (ws:List W) (h:HH):Option (W×HH):=bnd (F (.m c "__init__") (.o h.length :: ws) (h++[.o c []])) (uc h.length)
@[simp] theorem yj (F:FK->List W->HH->Option (W×HH)) (c:Str) (ws:List W) (h:HH):Er F c ws h=bnd (F (.m c "__init__") (.o h.length :: ws) (h++[.o c []])) (uc h.length):=rfl
noncomputable def fD:List W->Bool
 | []=>true
 | .p _ :: r=>fD r
 | _=>false
open Classical in
noncomputable def chk (q:Nat) (ds:List D) (f:List D->HH->Option (Option D×HH)) (xs:List D) (h:HH):Option (Option D×HH):=match f xs h with
 | some (o,h')=>if lat h' q=some ds then some (o,h') else none
 | none=>none
noncomputable def r9 (mu:Bool) (sr:Sr) (n:Nat) (f:List D->HH->Option (Option D×HH)) (ws:List W) (ds:List D) (h:HH):Option (W×HH):=match ws,sr with
 | [.r q],.seq=>bnd (bJ (chk q ds f) n ds h) (fk mu)
 | _,_=>none
theorem qm (mu:Bool) (n:Nat) (f:List D->HH->Option (Option D×HH)) (q:Nat) (ds:List D) (h:HH):r9 mu .seq n f [.r q] ds h=bnd (bJ (chk q ds f) n ds h) (fk mu):=rfl
@[simp] noncomputable def lM (mu:Bool) (sr:Sr) (n:Nat) (fs:Option Sl) (ec:Sl->HH->Option (List W×HH)) (ee:Sl->EH) (ws:List W) (h:HH):Option (W×HH) :=
 match (rds ws h).bind (dY sr),fs with
 | some ds,some fs=>if fD ws then bnd (bJ (fK ec ee fs) n ds h) (fk mu) else r9 mu sr n (fK ec ee fs) ws ds h
 | _,_=>none
@[simp] noncomputable def jb (w:W) (ws:List W) (h:HH):Option (List W×HH):=some (w :: ws,h)
@[simp] noncomputable def lN (er:HH->Option (List W×HH)) (w:W) (h:HH):Option (List W×HH):=bnd (er h) (jb w)
@[simp] noncomputable def frees (s:Sl):List (Nat×Str)->Option Sl
 | []=>some []
 | q :: r=>match s[q.1]? with
  | some w=>(frees s r).map (w :: ·)
  | none=>none
noncomputable def caps (s:Sl):List (Nat×Str)->Option (List Cp)
 | []=>some []
 | q :: r=>match s[q.1]? with
  | some (some w)=>(qh w).bind fun x=>(caps s r).map (x :: ·)
  | _=>none
@[simp] theorem Jv (s:Sl):caps s []=some []:=rfl
@[simp] theorem vS (s:Sl) (q:Nat×Str) (r:List (Nat×Str)):caps s (q :: r)=match s[q.1]? with
 | some (some w)=>(qh w).bind fun x=>(caps s r).map (x :: ·)
 | _=>none:=rfl
noncomputable def noC:List W->Bool
 | []=>true
 | .p _ :: r=>noC r
 | .r _ :: r=>noC r
 | .k _ :: r=>noC r
 | .o _ :: r=>noC r
 | .c _ _ :: _=>false
 | .x _ :: _=>false
@[simp] theorem LG:noC []=true:=rfl
@[simp] theorem Om (d:D) (r:List W):noC (.p d :: r)=noC r:=rfl
@[simp] theorem On (d:Nat) (r:List W):noC (.r d :: r)=noC r:=rfl
@[simp] theorem Oo (d:Nat) (r:List W):noC (.o d :: r)=noC r:=rfl
noncomputable def oQ (F:FK->List W->HH->Option (W×HH)) (o:Option (Option W)) (ws:List W) (h:HH):Option (W×HH):=match o with
 | some (some (.c k cs))=>if noC ws then F k (ws++cs.map Cp.w) h else none
 | _=>none
@[simp] theorem Jw (F:FK->List W->HH->Option (W×HH)) (k:FK) (cs:List Cp) (ws:List W) (h:HH):oQ F (some (some (.c k cs))) ws h=if noC ws then F k (ws++cs.map Cp.w) h else none:=rfl
noncomputable def yk (w:W) (h:HH):Option (W×HH):=match w with
 | .c _ _=>none
 | .x _=>none
 | w=>some (w,h)
@[simp] theorem MR (d:D) (h:HH):yk (.p d) h=some (.p d,h):=rfl
@[simp] theorem MS (n:Nat) (h:HH):yk (.r n) h=some (.r n,h):=rfl
@[simp] theorem MT (n:Nat) (h:HH):yk (.o n) h=some (.o n,h):=rfl
noncomputable def oR (F:FK->List W->HH->Option (W×HH)) (q:FK) (n:Nat) (L:Nat) (cs:Option (List Cp)) (ws:List W) (h:HH):Option (W×HH):=match cs with
 | some cs=>bnd (F q (.o n :: (ws++[.c (.l L) cs])) h) yk
 | none=>none
@[simp] theorem vU (F:FK->List W->HH->Option (W×HH)) (q:FK) (n:Nat) (L:Nat) (cs:List Cp) (ws:List W) (h:HH):oR F q n L (some cs) ws h=bnd (F q (.o n :: (ws++[.c (.l L) cs])) h) yk:=rfl
noncomputable def sf (F:FK->List W->HH->Option (W×HH)) (m:Str) (ea:HH->Option (List W×HH)) (L:Nat) (cs:Option (List Cp)) (x:W) (h:HH):Option (W×HH):=match x with
 | .o n=>match oat h n with
  | some (c,fs)=>if (aX m fs).isNone then bnd (ea h) (oR F (.m c m) n L cs) else none
  | none=>none
 | _=>none
@[simp] theorem yl (F:FK->List W->HH->Option (W×HH)) (m:Str) (ea:HH->Option (List W×HH)) (L:Nat) (cs:Option (List Cp)) (n:Nat) (h:HH):sf F m ea L cs (.o n) h=match oat h n with
 | some (c,fs)=>if (aX m fs).isNone then bnd (ea h) (oR F (.m c m) n L cs) else none
 | none=>none:=rfl
noncomputable def FP (n:Nat) (y z:W) (h:HH):Option (W×HH):=match y,z with
 | .p k,.p d=>(dat h n).bind fun kvs=>(vN k).map fun q=>(.p ((El kvs q).getD d),h)
 | _,_=>none
@[simp] theorem MU (n:Nat) (k d:D) (h:HH):FP n (.p k) (.p d) h=(dat h n).bind fun kvs=>(vN k).map fun q=>(.p ((El kvs q).getD d),h):=rfl
noncomputable def FQ (ed:EH) (n:Nat) (y:W) (h:HH):Option (W×HH):=bnd (ed h) (FP n y)
@[simp] theorem LH (ed:EH) (n:Nat) (y:W) (h:HH):FQ ed n y h=bnd (ed h) (FP n y):=rfl
noncomputable def MV (ek ed:EH) (x:W) (h:HH):Option (W×HH):=match x with
 | .r n=>if (dat h n).isSome then bnd (ek h) (FQ ed n) else none
 | _=>none
@[simp] theorem MW (ek ed:EH) (n:Nat) (h:HH):MV ek ed (.r n) h=if (dat h n).isSome then bnd (ek h) (FQ ed n) else none:=rfl
noncomputable def kI (c cn:Str):Bool:=cn==c||cn=="TapeError"||cn=="ValueError"
noncomputable def Jx (cn:Str) (x:W) (h:HH):Option (W×HH):=match x with
 | .x c=>some (.p (.bl (kI c cn)),h)
 | _=>none
@[simp] theorem MX (cn c:Str) (h:HH):Jx cn (.x c) h=some (.p (.bl (kI c cn)),h):=rfl
noncomputable def ym:List (Ky×D)->Option (List (Int×Int))
 | []=>some []
 | (.inl k,.int v) :: r=>(ym r).map ((k,v) :: ·)
 | _=>none
noncomputable def yo (kvs:List (Ky×D)):Option (List D):=if kvs.length<=1 then some (lH kvs) else (ym kvs).bind fun ps=>if ps.length < 64 then some ((Mr ps).filterMap fun i=>(lH kvs)[i]?) else none
@[simp] theorem LJ (kv:Ky×D):yo [kv]=some (lH [kv]):=rfl
noncomputable def MY (x:W) (h:HH):Option (W×HH):=match x with
 | .r n=>(dat h n).bind fun kvs=>(yo kvs).map fun l=>(.p (.lst l),h)
 | _=>none
@[simp] theorem MZ (n:Nat) (h:HH):MY (.r n) h=(dat h n).bind fun kvs=>(yo kvs).map fun l=>(.p (.lst l),h):=rfl
noncomputable def M0 (x:W) (h:HH):Option (W×HH):=match x with
 | .r n=>(dat h n).bind fun kvs=>if kvs.length<=lim then some (.p (.lst (lH kvs)),h) else none
 | _=>none
@[simp] theorem M1 (n:Nat) (h:HH):M0 (.r n) h=(dat h n).bind fun kvs=>if kvs.length<=lim then some (.p (.lst (lH kvs)),h) else none:=rfl
noncomputable def B7 (x y:W) (h:HH):Option (W×HH):=match rd x h,rd y h with
 | some (.lst xs),some (.lst ys)=>if xs.length+ys.length<=lim then some (new true (xs++ys) h) else none
 | _,_=>none
@[simp] theorem M3 (xs ys:List D) (h:HH):B7 (.p (.lst xs)) (.p (.lst ys)) h=if xs.length+ys.length<=lim then some (new true (xs++ys) h) else none:=rfl
section
variable (F:FK->List W->HH->Option (W×HH)) (G:Str->Option W)
mutual
@[simp] noncomputable def ev:E->Sl->HH->Option (W×HH)
 | .var i _,s,h=>match s[i]? with|some (some w)=>some (w,h)|_=>none
 | .cst d,_,h=>some (.p d,h)
 | .glo x,_,h=>(G x).map fun w=>(w,h)
 | .bin o a b,s,h=>bnd (ev a s h) (k2 (ev b s) (m8 o))
 | .neg a,s,h=>bnd (ev a s h) BZ
 | .not a,s,h=>bnd (ev a s h) B0
 | .and a b,s,h=>bnd (ev a s h) (B3 (ev b s))
 | .or a b,s,h=>bnd (ev a s h) (kOr (ev b s))
 | .cmp o a b,s,h=>bnd (ev a s h) (k2 (ev b s) (gP o))
 | .chain o o' a b c,s,h=>bnd (ev a s h) (k2 (ev b s) (oCh o o' (ev c s)))
 | .ite c a b,s,h=>bnd (ev c s h) (B4 (ev a s) (ev b s))
 | .tup as,s,h=>bnd (evs as s h) FJ
 | .lst mu as,s,h=>bnd (evs as s h) (FM mu)
 | .idx a i,s,h=>bnd (ev a s h) (k2 (ev i s) BY)
 | .slc a lo hi,s,h=>bnd (ev a s h) (Jp (evs lo s) (evs hi s))
 | .rvs a,s,h=>bnd (ev a s h) MN
 | .stp mu k a,s,h=>bnd (ev a s h) (FN mu k)
 | .call f as,s,h=>bnd (evs as s h) (F (.f f))
 | .fld a f,s,h=>bnd (ev a s h) (B5 f)
 | .meth o m as,s,h=>bnd (ev o s h) (yi F m (evs as s))
 | .make c as,s,h=>bnd (evs as s h) (Er F c)
 | .bi b mu as,s,h=>bnd (evs as s h) (kBi b mu)
 | .lsr mu sr as,s,h=>bnd (evs as s h) (kLs mu sr)
 | .me m o as,s,h=>bnd (ev o s h) (kMe m (evs as s))
 | .comp mu sr sa tg fv cond elt,s,h=>bnd (evs sa s h) (lM mu sr tg.length (frees s fv) (evs cond) (ev elt))
 | .callv i _ as,s,h=>bnd (evs as s h) (oQ F s[i]?)
 | .methL o m as L fv,s,h=>bnd (ev o s h) (sf F m (evs as s) L (caps s fv))
 | .isx c a,s,h=>bnd (ev a s h) (Jx c)
 | .cat a b,s,h=>bnd (ev a s h) (k2 (ev b s) B7)
@[simp] noncomputable def evs:Es->Sl->HH->Option (List W×HH)
 | .nil,_,h=>some ([],h)
 | .cons a as,s,h=>bnd (ev a s h) (lN (evs as s))
end
inductive Fl where
 | nx (s:Sl) (h:HH)|rt (w:W) (h:HH)|bk (s:Sl) (h:HH)|ct (s:Sl) (h:HH)
noncomputable def Jy (k:Bool->HH->Option Fl) (w:W) (h:HH):Option Fl:=match w with | .p (.bl b)=>k b h|_=>none
noncomputable def tst (x:Option (W×HH)) (k:Bool->HH->Option Fl):Option Fl:=bnd x (Jy k)
@[simp] theorem g9 (b:Bool) (h:HH) (k:Bool->HH->Option Fl):tst (some (.p (.bl b),h)) k=k b h:=rfl
noncomputable def ku (x:Option Fl) (k:Sl->HH->Option Fl):Option Fl:=match x with
 | some (.nx s h)=>k s h
 | y=>y
@[simp] theorem jx (s:Sl) (h:HH) (k:Sl->HH->Option Fl):ku (some (.nx s h)) k=k s h:=rfl
@[simp] theorem Jz (w:W) (h:HH) (k:Sl->HH->Option Fl):ku (some (.rt w h)) k=some (.rt w h):=rfl
@[simp] theorem JA (s:Sl) (h:HH) (k:Sl->HH->Option Fl):ku (some (.bk s h)) k=some (.bk s h):=rfl
@[simp] theorem JB (s:Sl) (h:HH) (k:Sl->HH->Option Fl):ku (some (.ct s h)) k=some (.ct s h):=rfl
@[simp] theorem FU (k:Sl->HH->Option Fl):ku none k=none:=rfl
noncomputable def gj (x:Option Fl) (k:Sl->HH->Option Fl):Option Fl:=match x with
 | some (.nx s h)=>k s h
 | some (.ct s h)=>k s h
 | some (.bk s h)=>some (.nx s h)
 | y=>y
@[simp] theorem bU (s:Sl) (h:HH) (k:Sl->HH->Option Fl):gj (some (.nx s h)) k=k s h:=rfl
@[simp] theorem JC (s:Sl) (h:HH) (k:Sl->HH->Option Fl):gj (some (.ct s h)) k=k s h:=rfl
@[simp] theorem JD (s:Sl) (h:HH) (k:Sl->HH->Option Fl):gj (some (.bk s h)) k=some (.nx s h):=rfl
@[simp] theorem JE (w:W) (h:HH) (k:Sl->HH->Option Fl):gj (some (.rt w h)) k=some (.rt w h):=rfl
@[simp] theorem FW (k:Sl->HH->Option Fl):gj none k=none:=rfl
@[simp] noncomputable def sets:List (Nat×Str)->List D->Sl->Sl
 | (i,_) :: r,d :: ds,s=>sets r ds (s.set i (some (.p d)))
 | _,_,s=>s
noncomputable def FY (b:Sl->HH->Option Fl) (again:Sl->HH->Option Fl) (s:Sl) (t:Bool) (h:HH):Option Fl:=if t then gj (b s h) again else some (.nx s h)
@[simp] theorem lO (b again:Sl->HH->Option Fl) (s:Sl) (h:HH):FY b again s true h=gj (b s h) again:=rfl
@[simp] theorem lP (b again:Sl->HH->Option Fl) (s:Sl) (h:HH):FY b again s false h=some (.nx s h):=rfl
noncomputable def b9 (c:Sl->HH->Option (W×HH)) (b:Sl->HH->Option Fl):Nat->Sl->HH->Option Fl
 | 0,_,_=>none
 | n+1,s,h=>tst (c s h) (FY b (b9 c b n) s)
@[simp] noncomputable def bM (b:Sl->HH->Option Fl) (tg:List (Nat×Str)):List D->Sl->HH->Option Fl
 | [],s,h=>some (.nx s h)
 | d :: r,s,h=>match target tg.length d with
  | some ds=>gj (b (sets tg ds s) h) (bM b tg r)
  | none=>none
noncomputable def turns:Nat:=100000
@[simp] noncomputable def sj (s:Sl) (i:Nat) (w:W) (h:HH):Option Fl:=some (.nx (s.set i (some w)) h)
@[simp] noncomputable def M4 (s:Sl) (xs:List (Nat×Str)) (w:W) (h:HH):Option Fl:=match w with
 | .p d=>match unpack xs.length d with|some ds=>some (.nx (sets xs ds s) h)|none=>none
 | _=>none
@[simp] noncomputable def JF (s:Sl) (i:Nat) (o:Bin) (w:W) (h:HH):Option Fl:=match s[i]?,w with
 | some (some (.p d)),.p d'=>(lI o d d').map fun z=>.nx (s.set i (some (.p z))) h
 | _,_=>none
@[simp] noncomputable def Et (s:Sl) (n:Nat) (d:D) (q:W) (h:HH):Option Fl:=match q,lat h n with
 | .p (.int j),some xs=>match place xs.length j with
  | some m=>some (.nx s (h.set n (.l (xs.set m d))))
  | none=>none
 | _,_=>none
@[simp] noncomputable def FZ (ek:EH) (s:Sl) (i:Nat) (w:W) (h:HH):Option Fl:=match w,s[i]? with
 | .p d,some (some (.r n))=>bnd (ek h) (Et s n d)
 | _,_=>none
noncomputable def yp (s:Sl) (n:Nat) (d:D) (q:W) (h:HH):Option Fl:=match q with
 | .p k=>(dat h n).bind fun kvs=>(vN k).bind fun y=>if kvs.length < lim then some (.nx s (h.set n (.d (Em kvs y d)))) else none
 | _=>none
@[simp] theorem JG (s:Sl) (n:Nat) (d k:D) (h:HH):yp s n d (.p k) h=(dat h n).bind fun kvs=>(vN k).bind fun y=>if kvs.length < lim then some (.nx s (h.set n (.d (Em kvs y d)))) else none:=rfl
noncomputable def Oq (ek:EH) (s:Sl) (i:Nat) (w:W) (h:HH):Option Fl:=match w,s[i]? with
 | .p d,some (some (.r n))=>bnd (ek h) (yp s n d)
 | _,_=>none
noncomputable def oS (s:Sl) (f:Str) (v:W) (x:W) (h:HH):Option Fl:=match x with
 | .o n=>match oat h n with
  | some (c,fs)=>if attrOk v&&fs.length < 1000 then some (.nx s (h.set n (.o c (bF f v fs)))) else none
  | none=>none
 | _=>none
@[simp] theorem yq (s:Sl) (f:Str) (v:W) (n:Nat) (h:HH):oS s f v (.o n) h=match oat h n with
 | some (c,fs)=>if attrOk v&&fs.length < 1000 then some (.nx s (h.set n (.o c (bF f v fs)))) else none
 | none=>none:=rfl
noncomputable def yr (eo:EH) (s:Sl) (f:Str) (v:W) (h:HH):Option Fl:=bnd (eo h) (oS s f v)
@[simp] theorem yt (eo:EH) (s:Sl) (f:Str) (v:W) (h:HH):yr eo s f v h=bnd (eo h) (oS s f v):=rfl
noncomputable def oU (s:Sl) (f:Str) (op:Bin) (n:Nat) (c:Str) (d:D) (v:W) (h:HH):Option Fl:=match v,oat h n with
 | .p e,some (c',fs)=>match lI op d e with
  | some z=>if c'=c/\fs.length < 1000 then some (.nx s (h.set n (.o c' (bF f (.p z) fs)))) else none
  | none=>none
 | _,_=>none
@[simp] theorem yu (s:Sl) (f:Str) (op:Bin) (n:Nat) (c:Str) (d e:D) (h:HH):oU s f op n c d (.p e) h=match oat h n with
 | some (c',fs)=>match lI op d e with
  | some z=>if c'=c/\fs.length < 1000 then some (.nx s (h.set n (.o c' (bF f (.p z) fs)))) else none
  | none=>none
 | none=>none:=by unfold oU;cases oat h n<;>rfl
noncomputable def ud (ee:EH) (s:Sl) (f:Str) (op:Bin) (x:W) (h:HH):Option Fl:=match x with
 | .o n=>match oat h n with
  | some (c,fs)=>match aX f fs with
   | some (.p d)=>bnd (ee h) (oU s f op n c d)
   | _=>none
  | none=>none
 | _=>none
@[simp] theorem B8 (ee:EH) (s:Sl) (f:Str) (op:Bin) (n:Nat) (h:HH):ud ee s f op (.o n) h=match oat h n with
 | some (c,fs)=>match aX f fs with
  | some (.p d)=>bnd (ee h) (oU s f op n c d)
  | _=>none
 | none=>none:=rfl
@[simp] noncomputable def kEx (s:Sl) (_:W) (h:HH):Option Fl:=some (.nx s h)
@[simp] noncomputable def yv (w:W) (h:HH):Option Fl:=some (.rt w h)
@[simp] noncomputable def kIf (fa fb:HH->Option Fl) (t:Bool) (h:HH):Option Fl:=if t then fa h else fb h
@[simp] noncomputable def kFor (b:Sl->HH->Option Fl) (tg:List (Nat×Str)) (sr:Sr) (s:Sl) (ws:List W) (h:HH):Option Fl:=match (rds ws h).bind (dY sr) with
 | some ds=>if fD ws then bM b tg ds s h else none
 | none=>none
@[simp] noncomputable def evS:S->Sl->HH->Option Fl
 | .nil,s,h=>some (.nx s h)
 | .seq a b,s,h=>ku (evS a s h) (evS b)
 | .set i _ e,s,h=>bnd (ev F G e s h) (sj s i)
 | .unp xs e,s,h=>bnd (ev F G e s h) (M4 s xs)
 | .aug i _ o e,s,h=>bnd (ev F G e s h) (JF s i o)
 | .put i _ k e,s,h=>bnd (ev F G e s h) (FZ (ev F G k s) s i)
 | .setf o f e,s,h=>bnd (ev F G e s h) (yr (ev F G o s) s f)
 | .augf o f op e,s,h=>bnd (ev F G o s h) (ud (ev F G e s) s f op)
 | .ex e,s,h=>bnd (ev F G e s h) (kEx s)
 | .ret e,s,h=>bnd (ev F G e s h) yv
 | .ife c a b,s,h=>tst (ev F G c s h) (kIf (evS a s) (evS b s))
 | .whl c b,s,h=>b9 (ev F G c) (evS b) turns s h
 | .for tg sr sa b,s,h=>bnd (evs F G sa s h) (kFor (evS b) tg sr s)
 | .brk,s,h=>some (.bk s h)
 | .cnt,s,h=>some (.ct s h)
 | .bad,_,_=>none
 | .rai _ _,_,_=>none
open Classical in
noncomputable def fin (h:HH) (w:W) (h':HH):Option (W×HH) :=
 if h'.length=h.length then some (w,h')
 else if h'.take h.length=h then (match w with
  | .p d=>some (.p d,h)
  | .r n=>if n < h.length then some (.r n,h) else (lat h' n).map fun xs=>(.p (.lst xs),h)
  | .o n=>if n < h.length then some (.o n,h) else some (.o n,h')
  | .k _=>none
  | .c _ _=>none
  | .x _=>none)
 else some (w,h')
@[simp] noncomputable def br (n:Nat) (ws:List W):Sl:=ws.map some++O7 (n - ws.length) none
noncomputable def jy (x:Option Fl) (k:W->HH->Option (W×HH)):Option (W×HH):=match x with
 | some (.rt w h)=>k w h
 | some (.nx _ h)=>k (.p .non) h
 | _=>none
@[simp] theorem LK (w:W) (h:HH) (k:W->HH->Option (W×HH)):jy (some (.rt w h)) k=k w h:=rfl
@[simp] theorem LM (s:Sl) (h:HH) (k:W->HH->Option (W×HH)):jy (some (.nx s h)) k=k (.p .non) h:=rfl
@[simp] theorem Ib (k:W->HH->Option (W×HH)):jy none k=none:=rfl
end
section
variable (T:FK->Option Fn) (G:Str->Option W)
noncomputable def runN:Nat->FK->List W->HH->Option (W×HH)
 | 0,_,_,_=>none
 | k+1,f,ws,h=>match T f with
  | some fn=>if ws.length=fn.ps.length then jy (evS (runN k) G fn.body (br fn.ns.length ws) h) (fin h) else none
  | none=>none
theorem run_eq {T:FK->Option Fn}{G:Str->Option W}{f:FK}{fn:Fn}{ws:List W}{h:HH}{k:Nat} (hT:T f=some fn) (hl:ws.length=fn.ps.length) :
 runN T G (k+1) f ws h=jy (evS (runN T G k) G fn.body (br fn.ns.length ws) h) (fin h):=by
 rw[runN,hT];exact if_pos hl
end
noncomputable def M5:Fn:=⟨["state","thing"],["state","thing"],.ret (.call "worth_in" (.cons (.var 0 "state") (.cons (.var 1 "thing") .nil)))⟩
noncomputable def M6:Fn:=⟨["state","thing","worth"],["state","thing","worth"],.ret (.cmp .ne (.call "worth_in" (.cons (.var 0 "state") (.cons (.var 1 "thing") .nil))) (.var 2 "worth"))⟩
noncomputable def M7:Fn:=⟨["state","thing","worth"],["state","thing","worth"],.ret (.cmp .ne (.call "worth_in" (.cons (.var 0 "state") (.cons (.var 1 "thing") .nil))) (.var 2 "worth"))⟩
noncomputable def M8:Fn:=⟨["state","term"],["state","term"],.ret (.call "reckoned" (.cons (.var 1 "term") (.cons (.var 0 "state") .nil)))⟩
noncomputable def M9:Fn:=⟨["state","term"],["state","term"],.ret (.cmp .ne (.call "reckoned" (.cons (.var 1 "term") (.cons (.var 0 "state") .nil))) (.cst (.int 0)))⟩
noncomputable def Na:Fn:=⟨["state","term"],["state","term"],.ret (.cmp .ne (.call "reckoned" (.cons (.var 1 "term") (.cons (.var 0 "state") .nil))) (.cst (.int 0)))⟩
noncomputable def Nb:Fn:=⟨["state"],["state"],.ret (.idx (.var 0 "state") (.glo "ROW"))⟩
noncomputable def Nc:Fn:=⟨["state","row"],["state","row"],.ret (.cmp .eq (.idx (.var 0 "state") (.glo "ROW")) (.var 1 "row"))⟩
noncomputable def Nd:Fn:=⟨["state","number"],["state","number"],.ret (.cmp .gt (.bi .len false (.cons (.idx (.var 0 "state") (.glo "SAID")) .nil)) (.var 1 "number"))⟩
noncomputable def Nf:Fn:=⟨["state","bound"],["state","bound"],.ret (.cmp .le (.call "open_in" (.cons (.var 0 "state") .nil)) (.var 1 "bound"))⟩
noncomputable def JH:Fn:=⟨["state","bound"],["state","bound"],.ret (.cmp .le (.call "open_in" (.cons (.var 0 "state") .nil)) (.var 1 "bound"))⟩
noncomputable def JI:Fn:=⟨["state","wanted"],["state","wanted"],.ret (.and (.cmp .eq (.idx (.var 0 "state") (.glo "NAMES")) (.idx (.var 1 "wanted") (.glo "NAMES"))) (.cmp .eq (.idx (.var 0 "state") (.glo "CELLS")) (.idx (.var 1 "wanted") (.glo "CELLS"))))⟩
noncomputable def ue:Fn:=⟨["state","tape","thing"],["state","tape","thing"],.ret (.cmp .eq (.call "written_next" (.cons (.var 1 "tape") (.cons (.var 0 "state") .nil))) (.var 2 "thing"))⟩
noncomputable def JJ:Fn:=⟨[],[],.ret (.cst .non)⟩
noncomputable def JK:Fn:=⟨[],[],.ret (.cst .non)⟩
noncomputable def lQ (i:Nat):Option Fn:=([M5,M6,M7,M8,M9,Na,Nb,Nc,Nd,Nf,JH,JI,ue,JJ,JK]:List Fn)[i]?
noncomputable def dH:List Str:=["worths_of","last_change","next_change","moments_so","last_so","next_so","visits","last_visit","when_said","next_within","last_within","first_other","writer_of","judged","remade"]
noncomputable def qo (i:Nat):Str:=dH.getD i ""
noncomputable def bA (x:Str):Str:="<"++x++">"
end BT
end
section
namespace BS
open PySem PySem.Spec PyProof.Rows L2
variable {H H':Hp}{K:OM}{a:OR}{c:BT.Cl}{h:BT.HH}{m m':List OR}{n:Nat}{o:HO}{v:V}{vs:List V}{xs:List BT.D}
theorem ai {β:Type}{a:β}{P:Prop} (h:(none:Option β)=some a):P:=nomatch h
noncomputable def attrName (f:Str):Bool:=(["program","asked","gap","most","kept","farthest","front","now","origins","branches","tape","named"]:List Str).contains f
noncomputable def qp:BT.Bi->Option (String×(BT.D->Bool))
 | .isInt=>some ("int",BT.isI)
 | .isBool=>some ("bool",BT.isB)
 | .isStr=>some ("str",BT.isS)
 | .isTuple=>some ("tuple",BT.isT)
 | .isList=>some ("list",BT.isL)
 | _=>none
noncomputable def lR (sc:O6) (x:Str):Bool:=match sc.names.lookup x with
 | some .local=>true
 | some .cell=>true
 | some .free=>true
 | _=>false
noncomputable def aE (sc:O6) (x:Str):Bool:=sc.names.lookup x==some .globalImplicit
noncomputable def aH (x:Str):Bool:=!(x=="__debug__")&&!(x=="__classdict__")&&!(x=="__name__")
noncomputable def noStar:ON->Bool
 | .Starred _ _=>false
 | _=>true
noncomputable def kU:ON->Bool
 | .Slice _ _ _ _=>false
 | _=>true
noncomputable def aL:ON->Bool
 | .Name _ _=>true
 | .Constant _ _ _=>true
 | .Subscript _ _ _=>true
 | .Attribute _ _ _=>true
 | .Call (.Attribute _ _ _) _ _ _=>true
 | _=>false
noncomputable def Eu:BT.Bin->Rn->Bool
 | .add,.Add=>true
 | .sub,.Sub=>true
 | .mul,.Mult=>true
 | .mod,.Mod=>true
 | .fdiv,.FloorDiv=>true
 | .pow,.Pow=>true
 | _,_=>false
noncomputable def B9:BT.Cm->CmpOp->Bool
 | .eq,.Eq=>true
 | .ne,.NotEq=>true
 | .lt,.Lt=>true
 | .le,.LtE=>true
 | .gt,.Gt=>true
 | .ge,.GtE=>true
 | .isN,.Is=>true
 | .notN,.IsNot=>true
 | .mem,.In=>true
 | .nmem,.NotIn=>true
 | _,_=>false
noncomputable def Ew:BT.D->Const->Bool
 | .non,.none=>true
 | .bl a,.bool b=>a==b
 | .int i,.int j=>i==j
 | .str x,.str y=>x==y&&PyData.strOk x
 | _,_=>false
noncomputable def yw:BT.Bi->Bool->Option Str
 | .len,false=>some "len"
 | .abs,false=>some "abs"
 | .int,false=>some "int"
 | .list,_=>some "list"
 | .tuple,false=>some "tuple"
 | _,_=>none
noncomputable def Ex (b:BT.Bi) (mu:Bool) (x:Str):Bool:=yw b mu==some x
noncomputable def yx:BT.Bi->Str->Bool
 | .min2,x=>x=="min"
 | .max2,x=>x=="max"
 | _,_=>false
noncomputable def Ca:ON->Option Const
 | .Constant c _ _=>some c
 | _=>none
noncomputable def cInt:Const->Option Int
 | .int j=>some j
 | _=>none
noncomputable def unE:ON->Option ON
 | .UnaryOp o e _=>if o=.USub then some e else none
 | _=>none
noncomputable def oV (k:Int) (e:ON):Bool:=((Ca e).bind cInt==some k&&decide (0 < k))||(((unE e).bind Ca).bind cInt==some (-k)&&decide (k < 0))
noncomputable def yy:BT.Me->Str
 | .append=>"append"
 | .pop=>"pop"
 | .extend=>"extend"
 | .tindex=>"index"
 | .sindex=>"index"
 | .dget=>"get"
 | .count=>"count"
 | .lindex=>"index"
noncomputable def yz:BT.E->Bool
 | .glo _=>true
 | _=>false
noncomputable def Cb (m:BT.Me) (o:BT.E):Bool:=match m with
 | .append=>true
 | .pop=>true
 | .extend=>true
 | .sindex=>true
 | .tindex=>yz o
 | .dget=>false
 | .count=>true
 | .lindex=>true
noncomputable def fm (c:Str):Bool:=(["NoMoment","NoThing","NoRun","NoText"]:List Str).contains c
noncomputable def yC (cn:Str):Bool:=fm cn||cn=="ValueError"
noncomputable def cR (N:List Str):Bool:=!N.contains "_law_flags"
noncomputable def tOK:BT.E->Bool
 | .ite _ _ _=>false
 | .not a=>tOK a
 | .and a b=>tOK a&&tOK b
 | .or a b=>tOK a&&tOK b
 | .tup _=>false
 | .lst _ _=>false
 | .comp _ _ _ _ _ _ _=>false
 | _=>true
noncomputable def jc:ON->Bool
 | .Set _ _ _=>false
 | _=>true
noncomputable def nQ:BT.Sr->ON->Bool
 | .zip2,.Tuple _ _ _=>true
 | .enu,.Tuple _ _ _=>true
 | .zip2,_=>false
 | .enu,_=>false
 | _,_=>true
noncomputable def bw (scope sc:O6):O6 :=
 { scope with names:=scope.names.map fun (n,k)=>if (k==.free&&sc.kind==.function&&sc.names.lookup n==some .cell) then (n,.cell) else (n,k) }
noncomputable def nmE:ON->Option Str
 | .Name y _=>some y
 | _=>none
noncomputable def F3:ON->List ON
 | .Tuple xs _ _=>xs
 | _=>[]
noncomputable def qt (sc:O6) (tg:List Str) (te:ON):Bool:=((tg.map some==[nmE te])||(tg.length==2&&tg.map some==(F3 te).map nmE))&&tg.all fun x=>sc.names.lookup x==some .local
noncomputable def jd:List Str->Bool
 | []=>true
 | x :: r=>!r.contains x&&jd r
noncomputable def je (sc:O6) (N:List Str) (tg:List Str) (fv:List (Nat×Str)) (scope:O6):Bool :=
 scope.kind==.function&&sc.kind==.function&&scope.names.all (fun y=>!(y.2==.cell))&&scope.names.all (fun y=>!(y.2==.local)||scope.names.lookup y.1==some .local) &&
 scope.names.all (fun y=>!(y.2==.free)||sc.names.lookup y.1==some .cell) &&
 fv.all (fun q=>N[q.1]?==some q.2&&scope.names.contains (q.2,.free)&&sc.names.lookup q.2==some .cell&&(bw scope sc).names.lookup q.2==some .cell)&&jd (tg++fv.map (·.2))
mutual
inductive CE':O6->List Str->BT.E->ON->Prop where
 | var {sc:O6}{N:List Str}{i:Nat}{x:Str}{p:Pos} (h1:N[i]?=some x) (h2:lR sc x=true) (h3:aH x=true):CE' sc N (.var i x) (.Name x p)
 | cst {sc:O6}{N:List Str}{d:BT.D}{c:Const}{k:Nat}{p:Pos} (h:Ew d c=true):CE' sc N (.cst d) (.Constant c k p)
 | glo {sc:O6}{N:List Str}{x:Str}{p:Pos} (h2:aE sc x=true) (h3:aH x=true):CE' sc N (.glo x) (.Name x p)
 | bin {sc:O6}{N:List Str}{o:BT.Bin}{op:Rn}{a b:BT.E}{l r:ON}{p:Pos} (h:Eu o op=true) (ha:CE' sc N a l) (hb:CE' sc N b r):CE' sc N (.bin o a b) (.BinOp l op r p)
 | neg {sc:O6}{N:List Str}{a:BT.E}{x:ON}{p:Pos} (ha:CE' sc N a x):CE' sc N (.neg a) (.UnaryOp .USub x p)
 | not {sc:O6}{N:List Str}{a:BT.E}{x:ON}{p:Pos} (ha:CE' sc N a x):CE' sc N (.not a) (.UnaryOp .Not x p)
 | and2 {sc:O6}{N:List Str}{a b:BT.E}{x y:ON}{p:Pos} (ha:CE' sc N a x) (hb:CE' sc N b y):CE' sc N (.and a b) (.BoolOp .And [x,y] p)
 | and3 {sc:O6}{N:List Str}{a b:BT.E}{x y z:ON}{r:List ON}{p:Pos} (ha:CE' sc N a x) (hb:CE' sc N b (.BoolOp .And (y :: z :: r) p)):CE' sc N (.and a b) (.BoolOp .And (x :: y :: z :: r) p)
 | or2 {sc:O6}{N:List Str}{a b:BT.E}{x y:ON}{p:Pos} (ha:CE' sc N a x) (hb:CE' sc N b y):CE' sc N (.or a b) (.BoolOp .Or [x,y] p)
 | or3 {sc:O6}{N:List Str}{a b:BT.E}{x y z:ON}{r:List ON}{p:Pos} (ha:CE' sc N a x) (hb:CE' sc N b (.BoolOp .Or (y :: z :: r) p)):CE' sc N (.or a b) (.BoolOp .Or (x :: y :: z :: r) p)
 | cmp {sc:O6}{N:List Str}{o:BT.Cm}{op:CmpOp}{a b:BT.E}{l r:ON}{p:Pos} (h:B9 o op=true) (ha:CE' sc N a l) (hb:CE' sc N b r) (hm:To op r=false):CE' sc N (.cmp o a b) (.Compare l [op] [r] p)
 | chain {sc:O6}{N:List Str}{o o':BT.Cm}{op op':CmpOp}{a b c:BT.E}{l r r':ON}{p:Pos} (h:B9 o op=true) (h':B9 o' op'=true) (ha:CE' sc N a l) (hb:CE' sc N b r) (hc:CE' sc N c r') (hm:lastMarks [op,op'] [r,r']=false):CE' sc N (.chain o o' a b c) (.Compare l [op,op'] [r,r'] p)
 | ite {sc:O6}{N:List Str}{c a b:BT.E}{t x y:ON}{p:Pos} (h:tOK c=true) (hc:CE' sc N c t) (ha:CE' sc N a x) (hb:CE' sc N b y):CE' sc N (.ite c a b) (.IfExp t x y p)
 | tup {sc:O6}{N:List Str}{as:BT.Es}{es:List ON}{k:Nat}{p:Pos} (h:CEs sc N as es):CE' sc N (.tup as) (.Tuple es k p)
 | lst {sc:O6}{N:List Str}{mu:Bool}{as:BT.Es}{es:List ON}{p:Pos} (h:CEs sc N as es):CE' sc N (.lst mu as) (.List es p)
 | idx {sc:O6}{N:List Str}{a i:BT.E}{x sl:ON}{p:Pos} (ha:CE' sc N a x) (hi:CE' sc N i sl) (hs:kU sl=true):CE' sc N (.idx a i) (.Subscript x sl p)
 | slc {sc:O6}{N:List Str}{a:BT.E}{lo hi:BT.Es}{x:ON}{l u:Option ON}{p2 p:Pos} (ha:CE' sc N a x) (hl:CO sc N lo l) (hu:CO sc N hi u):CE' sc N (.slc a lo hi) (.Subscript x (.Slice l u none p2) p)
 | call {sc:O6}{N:List Str}{f:Str}{as:BT.Es}{es:List ON}{np p:Pos} (hg:aE sc f=true) (hn:aH f=true) (ha:CEs sc N as es):CE' sc N (.call f as) (.Call (.Name f np) es [] p)
 | lrng {sc:O6}{N:List Str}{mu:Bool}{a:BT.E}{e:ON}{np zp p pos:Pos} (hu:cR N=true) (hg:aE sc "list"=true) (hg2:aE sc "range"=true) (hs:noStar e=true) (h:CE' sc N a e) :
  CE' sc N (.lsr mu .rng1 (.cons a .nil)) (.Call (.Name "list" np) [.Call (.Name "range" zp) [e] [] pos] [] p)
 | bi {sc:O6}{N:List Str}{b:BT.Bi}{mu:Bool}{x:Str}{a:BT.E}{e:ON}{np p:Pos} (hu:cR N=true) (hb:Ex b mu x=true) (hg:aE sc x=true) (hs:noStar e=true) (ha:CE' sc N a e):CE' sc N (.bi b mu (.cons a .nil)) (.Call (.Name x np) [e] [] p)
 | inst {sc:O6}{N:List Str}{b:BT.Bi}{c:String}{f:BT.D->Bool}{a:BT.E}{e:ON}{np p2 p:Pos} (hb:qp b=some (c,f)) (hg:aE sc "isinstance"=true) (hg2:aE sc (O3 c)=true) (hs:noStar e=true) (ha:CE' sc N a e) :
  CE' sc N (.bi b false (.cons a .nil)) (.Call (.Name "isinstance" np) [e,.Name (O3 c) p2] [] p)
 | isx {sc:O6}{N:List Str}{cn:Str}{a:BT.E}{e:ON}{np p2 p:Pos} (hx:yC cn=true) (hn:aH cn=true) (hg:aE sc "isinstance"=true) (hg2:aE sc cn=true) (hs:noStar e=true) (ha:CE' sc N a e) :
  CE' sc N (.isx cn a) (.Call (.Name "isinstance" np) [e,.Name cn p2] [] p)
 | me {sc:O6}{N:List Str}{m:BT.Me}{o:BT.E}{as:BT.Es}{oe:ON}{name:Str}{apos cpos:Pos}{es:List ON} (h1:Cb m o=true) (h2:name=yy m) (h3:aL oe=true) (h6:(apos.endLine==cpos.line)=true) (h7:es.length < 20) (ho:CE' sc N o oe) (ha:CEs sc N as es) :
  CE' sc N (.me m o as) (.Call (.Attribute oe name apos) es [] cpos)
 | comp {sc:O6}{N:List Str}{mu:Bool}{sr:BT.Sr}{sa:BT.Es}{tg:List Str}{fv:List (Nat×Str)}{cond:BT.Es}{elt:BT.E}{te iter elt':ON}{ifs:List ON}{scope:O6}{pos:Pos}
  (hu:cR N=true) (hk:je sc N tg fv scope=true) (ht:qt (bw scope sc) tg te=true) (hz:nQ sr te=true) (hs:jc iter=true) (hi:CI sc N sr sa iter)
  (hc:CC (bw scope sc) (tg++fv.map (·.2)) cond ifs) (he:CE' (bw scope sc) (tg++fv.map (·.2)) elt elt'):CE' sc N (.comp mu sr sa tg fv cond elt) (.ListComp elt' [⟨te,iter,ifs,0⟩] scope pos)
 | fld {sc:O6}{N:List Str}{a:BT.E}{f:Str}{x:ON}{p:Pos} (hb:aL x=true) (hf:attrName f=true) (ha:CE' sc N a x):CE' sc N (.fld a f) (.Attribute x f p)
 | meth {sc:O6}{N:List Str}{o:BT.E}{m:Str}{as:BT.Es}{oe:ON}{apos cpos:Pos}{es:List ON} (h3:aL oe=true) (h6:(apos.endLine==cpos.line)=true) (h7:es.length < 20) (ho:CE' sc N o oe) (ha:CEs sc N as es) :
  CE' sc N (.meth o m as) (.Call (.Attribute oe m apos) es [] cpos)
 | stp {sc:O6}{N:List Str}{mu:Bool}{k:Int}{a:BT.E}{x se:ON}{p2 p:Pos} (hk:oV k se=true) (ha:CE' sc N a x):CE' sc N (.stp mu k a) (.Subscript x (.Slice none none (some se) p2) p)
 | bi2 {sc:O6}{N:List Str}{b:BT.Bi}{x:Str}{a1 a2:BT.E}{e1 e2:ON}{np p:Pos} (hu:cR N=true) (hb:yx b x=true) (hg:aE sc x=true) (hs1:noStar e1=true) (hs2:noStar e2=true) (h1:CE' sc N a1 e1) (h2:CE' sc N a2 e2) :
  CE' sc N (.bi b false (.cons a1 (.cons a2 .nil))) (.Call (.Name x np) [e1,e2] [] p)
 | make {sc:O6}{N:List Str}{c:Str}{as:BT.Es}{es:List ON}{np p:Pos} (hg:aE sc c=true) (hn:aH c=true) (ha:CEs sc N as es):CE' sc N (.make c as) (.Call (.Name c np) es [] p)
 | callv {sc:O6}{N:List Str}{i:Nat}{x:Str}{as:BT.Es}{e:ON}{es:List ON}{np p:Pos} (h1:N[i]?=some x) (h2:lR sc x=true) (h3:aH x=true) (ha:CEs sc N as (e :: es)):CE' sc N (.callv i x as) (.Call (.Name x np) (e :: es) [] p)
 | cat {sc:O6}{N:List Str}{a b:BT.E}{x y:ON}{p:Pos} (ha:CE' sc N a x) (hb:CE' sc N b y):CE' sc N (.cat a b) (.BinOp x .Add y p)
 | lrng2 {sc:O6}{N:List Str}{mu:Bool}{a b:BT.E}{x y:ON}{np zp p pos:Pos} (hu:cR N=true) (hg:aE sc "list"=true) (hg2:aE sc "range"=true) (hs:noStar x=true) (hs2:noStar y=true) (ha:CE' sc N a x) (hb:CE' sc N b y) :
  CE' sc N (.lsr mu .rng2 (.cons a (.cons b .nil))) (.Call (.Name "list" np) [.Call (.Name "range" zp) [x,y] [] pos] [] p)
inductive CEs:O6->List Str->BT.Es->List ON->Prop where
 | nil {sc:O6}{N:List Str}:CEs sc N .nil []
 | cons {sc:O6}{N:List Str}{a:BT.E}{as:BT.Es}{e:ON}{es:List ON} (hs:noStar e=true) (ha:CE' sc N a e) (hr:CEs sc N as es):CEs sc N (.cons a as) (e :: es)
inductive CO:O6->List Str->BT.Es->Option ON->Prop where
 | nil {sc:O6}{N:List Str}:CO sc N .nil none
 | one {sc:O6}{N:List Str}{a:BT.E}{e:ON} (ha:CE' sc N a e):CO sc N (.cons a .nil) (some e)
inductive CC:O6->List Str->BT.Es->List ON->Prop where
 | nil {sc:O6}{N:List Str}:CC sc N .nil []
 | one {sc:O6}{N:List Str}{a:BT.E}{e:ON} (ht:tOK a=true) (ha:CE' sc N a e):CC sc N (.cons a .nil) [e]
inductive CI:O6->List Str->BT.Sr->BT.Es->ON->Prop where
 | rng1 {sc:O6}{N:List Str}{a:BT.E}{e:ON}{p pos:Pos} (hg:aE sc "range"=true) (hs:noStar e=true) (h:CE' sc N a e):CI sc N .rng1 (.cons a .nil) (.Call (.Name "range" p) [e] [] pos)
 | rng2 {sc:O6}{N:List Str}{a b:BT.E}{x y:ON}{p pos:Pos} (hg:aE sc "range"=true) (hs:noStar x=true) (hs2:noStar y=true) (ha:CE' sc N a x) (hb:CE' sc N b y):CI sc N .rng2 (.cons a (.cons b .nil)) (.Call (.Name "range" p) [x,y] [] pos)
 | rev {sc:O6}{N:List Str}{a:BT.E}{e:ON}{p pos:Pos} (hg:aE sc "reversed"=true) (hs:noStar e=true) (h:CE' sc N a e):CI sc N .rev (.cons a .nil) (.Call (.Name "reversed" p) [e] [] pos)
 | enu {sc:O6}{N:List Str}{a:BT.E}{e:ON}{p pos:Pos} (hg:aE sc "enumerate"=true) (hs:noStar e=true) (h:CE' sc N a e):CI sc N .enu (.cons a .nil) (.Call (.Name "enumerate" p) [e] [] pos)
 | seq {sc:O6}{N:List Str}{a:BT.E}{x:ON} (h:CE' sc N a x):CI sc N .seq (.cons a .nil) x
end
inductive LPa:Qo->List Str->Prop where
 | one {p:Pos}:LPa ⟨[],[⟨"state",none,p⟩],none,[],[],none,[]⟩ ["state"]
 | two {p q:Pos}:LPa ⟨[],[⟨"row",none,p⟩,⟨"state",none,q⟩],none,[],[],none,[]⟩ ["row","state"]
noncomputable def kB (ps fs:List Str) (sc:O6):Bool :=
 sc.kind==.function&&!sc.isCoroutine&&!sc.isGenerator&&sc.names.all (fun y=>!(y.2==.cell))&&ps.all (fun x=>sc.names.lookup x==some .local) &&
 fs.all (fun x=>sc.names.lookup x==some .free&&sc.names.contains (x,.free))&&sc.names.all (fun y=>!(y.2==.free)||fs.contains y.1)&&jd (ps++fs)
noncomputable def su (sc:O6) (N:List Str) (fv:List (Nat×Str)):Bool:=fv.all fun q=>N[q.1]?==some q.2&&sc.names.lookup q.2==some .cell
inductive CL (sc:O6) (N:List Str):BT.E->Str->BT.Es->Nat->List (Nat×Str)->ON->Prop where
 | zero {o bt:BT.E}{m:Str}{L:Nat}{fv:List (Nat×Str)}{oe be:ON}{apos cpos lp:Pos}{pa:Qo}{scope:O6}{ns ps:List Str} (hl:BT.lQ L=some ⟨ns,ns,.ret bt⟩) (hp:LPa pa ps) (hn:ns=ps++fv.map (·.2)) (hk:kB ps (fv.map (·.2)) scope=true) (hv:su sc N fv=true)
  (ht:N.contains (BT.bA (BT.qo L))=true) (hc:CE' scope ns bt be) (h3:aL oe=true) (h6:(apos.endLine==cpos.line)=true) (ho:CE' sc N o oe):CL sc N o m .nil L fv (.Call (.Attribute oe m apos) [.Lambda pa be scope lp] [] cpos)
 | one {o bt a:BT.E}{m:Str}{L:Nat}{fv:List (Nat×Str)}{oe be e:ON}{apos cpos lp:Pos}{pa:Qo}{scope:O6}{ns ps:List Str} (hl:BT.lQ L=some ⟨ns,ns,.ret bt⟩) (hp:LPa pa ps) (hn:ns=ps++fv.map (·.2)) (hk:kB ps (fv.map (·.2)) scope=true) (hv:su sc N fv=true)
  (ht:N.contains (BT.bA (BT.qo L))=true) (hc:CE' scope ns bt be) (h3:aL oe=true) (h6:(apos.endLine==cpos.line)=true) (ho:CE' sc N o oe) (hs:noStar e=true) (ha:CE' sc N a e):CL sc N o m (.cons a .nil) L fv (.Call (.Attribute oe m apos) [e,.Lambda pa be scope lp] [] cpos)
def KT (K:OM) (a:OR) (xs:List V):Prop :=
 ∃ (o:Obj) (its:Array Value) (n:Nat),(K.lookup a=some o/\o.cls=.type "tuple"/\o.data=.seq its n/\its.size<=sizeLine/\az xs its.toList)/\o.dict=none
def KL (K:OM) (a:OR) (xs:List V):Prop:=∃ (its:List Value) (n:Nat),K.lookup a=some { cls:=.type "list",data:=.seq its.toArray n }/\its.length<=sizeLine/\az xs its
def LL (K:OM) (H:Hp) (a:OR) (xs:List V):Prop:=Rd H a (.lst xs)\/KL K a xs
theorem LL.sq {xs:List V} (h:LL K H a xs):SqL K H a xs:=by
 rcases h with h|⟨its,n,h1,h2,h3⟩
 ·exact .inl h
 ·exact .inr ⟨_,its.toArray,n,h1,rfl,rfl,rfl,by simpa using h2,by simpa using h3⟩
def KD (P:OU) (w:Pa) (K:OM) (a:OR) (es:List (Str×V)):Prop :=
 (a==TH)=false/\∃ vs:List (Key×Value),KV (es.map fun q=>(Sum.inr q.1,q.2)) vs/\∀ h:Heap,K.In h->h.DictOf (cT P w) a vs
mutual
inductive RD (K:OM) (m:List OR) (H:Hp):V->BT.D->Prop where
 | non:RD K m H .non .non
 | bl (b:Bool):RD K m H (.bl b) (.bl b)
 | int (i:Int):RD K m H (.int i) (.int i)
 | str (x:Str) (h:PyData.strOk x=true):RD K m H (.str x) (.str x)
 | tup {a:OR}{vs:List V}{ds:List BT.D} (h:(Rd H a (.tup vs)/\a∉m)\/KT K a vs) (r:RDs K m H vs ds):RD K m H (.ref a) (.tup ds)
 | lst {a:OR}{vs:List V}{ds:List BT.D} (h:(Rd H a (.lst vs)/\a∉m)\/KL K a vs) (r:RDs K m H vs ds):RD K m H (.ref a) (.lst ds)
inductive RDs (K:OM) (m:List OR) (H:Hp):List V->List BT.D->Prop where
 | nil:RDs K m H [] []
 | cons {v:V}{d:BT.D}{vs:List V}{ds:List BT.D} (r:RD K m H v d) (t:RDs K m H vs ds):RDs K m H (v :: vs) (d :: ds)
end
inductive RDk (K:OM):List (Str×V)->List (Str×BT.D)->Prop where
 | nil:RDk K [] []
 | cons {x:Str}{v:V}{d:BT.D}{es:List (Str×V)}{kvs:List (Str×BT.D)} (r:∀ m H,RD K m H v d) (t:RDk K es kvs):RDk K ((x,v) :: es) ((x,d) :: kvs)
inductive RA (K:OM) (m:List OR) (H:Hp):V->BT.W->Prop where
 | p {v:V}{d:BT.D} (r:RD K m H v d):RA K m H v (.p d)
 | r {a:OR}{n:Nat} (h:m[n]?=some a):RA K m H (.ref a) (.r n)
 | o {a:OR}{n:Nat} (h:m[n]?=some a):RA K m H (.ref a) (.o n)
def Tr (m:List OR) (H:Hp) (a:OR) (o:Obj):Prop:=H a=some (.frz o (.own 0))/\a∉m
noncomputable def vV (x:Str):Str:=x++".<locals>."++"<lambda>"
inductive gQ (m:List OR) (H:Hp) (cl:List (Str×OR)):List Str->List V->Prop where
 | nil:gQ m H cl [] []
 | cons {x:Str}{c:OR}{o:Obj}{u:Value}{v:V}{xs:List Str}{vs:List V} (h1:cl.lookup x=some c) (h2:Tr m H c o) (h3:o.data=.cell (some u)) (r:RelV v u) (t:gQ m H cl xs vs):gQ m H cl (x :: xs) (v :: vs)
inductive gM (m:List OR) (H:Hp) (f:OR) (L:Nat) (vs:List V):Prop where
 | mk (bt:_) (ps:_) (fs:_) (pa:_) (be:_) (sc:_) (cl:_) (pm:_) (ctv:_) (c':_) (oc:_) (os:_) (t:_) (q:_) (h1:BT.lQ L=some ⟨ps++fs,ps++fs,.ret bt⟩) (h2:LPa pa ps) (h3:kB ps fs sc=true) (h4:CE' sc (ps++fs) bt be) (h5:(∀ x y c,cl.lookup x=some c->cl.lookup y=some c->x=y)) (h6:(∀ x c,cl.lookup x=some c->x∈fs)) (h7:Tr m H f (RT "<lambda>" q pa be sc cl pm c' ctv)) (h8:Tr m H c' oc) (h9:oc.data=.fields os) (h10:os[1]?=some (.str q t)) (h11:gQ m H cl fs vs):gM m H f L vs
inductive RCs (K:OM) (m:List OR) (H:Hp):List V->List BT.Cp->Prop where
 | nil:RCs K m H [] []
 | cons {v:V}{x:BT.Cp}{vs:List V}{xs:List BT.Cp} (r:RA K m H v x.w) (t:RCs K m H vs xs):RCs K m H (v :: vs) (x :: xs)
def TB (K:OM) (H:Hp):Prop:=∀ x∈BT.dH,∀ c P,PX K x=some (c,P)->∃ ps,H P=some (.tbl ps)/\TriplesOk ps.toList ∧
 ∀ pos v,RG pos ps.toList=some v->∃ c' oc os t,v=.ref c'/\H c'=some (.frz oc (.own 0))/\oc.data=.fields os/\os[1]?=some (.str (vV x) t)
theorem TB.mono  (h:TB K H) (h1:∀ P ps,H P=some (.tbl ps)->H' P=some (.tbl ps)) (h2:∀ a o vs,o.data=.fields vs->H a=some (.frz o (.own 0))->H' a=some (.frz o (.own 0))):TB K H':=fun x hx c P e=>by
 obtain ⟨ps,e1,e2,e3⟩:=h x hx c P e
 refine ⟨ps,h1 _ _ e1,e2,fun pos v q=>?_⟩
 obtain ⟨c',oc,os,t,q1,q2,q3⟩:=e3 pos v q
 exact ⟨c',oc,os,t,q1,h2 _ _ _ q3.1 q2,q3⟩
def CN (K:OM) (c:Str) (C:OR):Prop:=PB K O4 c=some (some (.ref C))
structure XT (K:OM) (c:Str) (C:OR):Prop where
 ga:Pv K (.ref C) "__getattribute__"=some (some (.builtin "BaseException.__getattribute__"))
 nga:Pv K (.ref C) "__getattr__"=some none
 mrb:Sq K C (.type "BaseException")=some true
 dct:QE K C=true
 fnd:Pv K (.ref C) "__class__"=some (some (.builtin "object.__class__"))
 spc:UB K (.builtin "object.__class__") "__get__"=some (some (.builtin "getset_descriptor.__get__"))
 tak:UX K (.builtin "object.__class__")=some true
 mro:Sq K C (.type "object")=some true
 own:∀ cn,fm cn=true->∃ D,CN K cn D/\Qe K (.ref C) (.ref D)=some (BT.kI c cn)
 val:Qe K (.ref C) (.type "ValueError")=some true
def excAt (K:OM) (c:Str) (a:OR):Heap->Prop:=fun h=>∃ o C,CN K c C/\XT K c C/\h.get? a=some o/\o.cls=.ref C
inductive RW (P:OU) (w:Pa) (K:OM) (m:List OR) (H:Hp):V->BT.W->Prop where
 | p {v:V}{d:BT.D} (r:RD K m H v d):RW P w K m H v (.p d)
 | r {a:OR}{n:Nat} (h:m[n]?=some a):RW P w K m H (.ref a) (.r n)
 | k {a:OR}{es:List (Str×V)}{kvs:List (Str×BT.D)} (h:KD P w K a es) (r:RDk K es kvs):RW P w K m H (.ref a) (.k kvs)
 | o {a:OR}{n:Nat} (h:m[n]?=some a):RW P w K m H (.ref a) (.o n)
 | c {f:OR}{L:Nat}{vs:List V}{cs:List BT.Cp} (h:gM m H f L vs) (r:RCs K m H vs cs):RW P w K m H (.ref f) (.c (.l L) cs)
 | x {a:OR}{c:Str} (h:H a=some (.ext (excAt K c a))) (n:a∉m) (xt:∃ C,XT K c C):RW P w K m H (.ref a) (.x c)
 | g {f:OR}{x:Str} (h:PB K O4 x=some (some (.ref f))) (r:Po K (.ref f)=true):RW P w K m H (.ref f) (.c (.f x) [])
inductive RFs (K:OM) (m:List OR) (H:Hp):List (Str×V)->List (Str×BT.W)->Prop where
 | nil:RFs K m H [] []
 | cons {f:Str}{v:V}{x:BT.W}{vs:List (Str×V)}{fs:List (Str×BT.W)} (r:RA K m H v x) (t:RFs K m H vs fs):RFs K m H ((f,v) :: vs) ((f,x) :: fs)
inductive RKs (K:OM) (m:List OR) (H:Hp):List (Key×V)->List (BT.Ky×BT.D)->Prop where
 | nil:RKs K m H [] []
 | cons {k:Key}{v:V}{d:BT.D}{vs:List (Key×V)}{kvs:List (BT.Ky×BT.D)} (hk:RD K m H (kV k) (BT.BK k)) (r:RD K m H v d) (t:RKs K m H vs kvs):RKs K m H ((k,v) :: vs) ((k,d) :: kvs)
theorem CN.inj {c:Str}{C C':OR} (h:CN K c C) (h':CN K c C'):C=C':=by
 have e:=h.symm.trans h'
 simpa using e
structure jz (K:OM) (c:Str) (C:OR):Prop where
 cn:CN K c C
 cls:Cls K C
 no:∀ f,attrName f=true->gU K C f
noncomputable def ig (K:OM) (m:List OR) (H:Hp) (a:OR):BT.Cl->Prop
 | .l xs=>∃ vs,H a=some (.lst vs)/\RDs K m H vs xs
 | .o c fs=>∃ C dx vs,H a=some (.ins C dx vs)/\jz K c C/\RFs K m H vs fs
 | .d kvs=>∃ vs,H a=some (.dK vs)/\RKs K m H vs kvs
inductive RWs (P:OU) (w:Pa) (K:OM) (m:List OR) (H:Hp):List V->List BT.W->Prop where
 | nil:RWs P w K m H [] []
 | cons {v:V}{x:BT.W}{vs:List V}{xs:List BT.W} (r:RW P w K m H v x) (t:RWs P w K m H vs xs):RWs P w K m H (v :: vs) (x :: xs)
structure RH (K:OM) (m:List OR) (H:Hp) (h:BT.HH):Prop where
 nd:m.Nodup
 len:m.length=h.length
 cl:∀ (i:Nat) (a:OR) (c:BT.Cl),m[i]?=some a->h[i]?=some c->ig K m H a c
 tb:TB K H
theorem yD  (e:BT.lat h n=some xs):h[n]?=some (.l xs):=by
 unfold BT.lat at e
 cases g:h[n]? with
 | none=>rw[g] at e;cases e
 | some c=>rw[g] at e;cases c<;>simp[BT.oJ] at e;rw[e]
theorem yE {c:Str}{fs:List (Str×BT.W)} (e:BT.oat h n=some (c,fs)):h[n]?=some (.o c fs):=by
 unfold BT.oat at e
 cases g:h[n]? with
 | none=>rw[g] at e;cases e
 | some c=>rw[g] at e;cases c<;>simp[BT.qi] at e;rw[e.1,e.2]
theorem RH.cell  (R:RH K m H h) (i:Nat) (a:OR) (xs:List BT.D) (e:m[i]?=some a) (g:BT.lat h i=some xs):∃ vs,H a=some (.lst vs)/\RDs K m H vs xs:=R.cl i a _ e (yD g)
inductive OC (K:OM) (m:List OR) (H:Hp) (a:OR) (c:Str) (fs:List (Str×BT.W)):Prop where
 | mk (C:OR) (dx:_) (vs:_) (h1:H a=some (.ins C dx vs)) (h2:jz K c C) (h3:RFs K m H vs fs):OC K m H a c fs
theorem RH.lS  (R:RH K m H h) (i:Nat) (a:OR) (c:Str) (fs:List (Str×BT.W)) (e:m[i]?=some a) (g:BT.oat h i=some (c,fs)):OC K m H a c fs:=by
 obtain ⟨C,dx,vs,h1,h2,h3⟩:=R.cl i a _ e (yE g)
 exact ⟨C,dx,vs,h1,h2,h3⟩
structure RS (P:OU) (w:Pa) (K:OM) (m:List OR) (H:Hp) (σ:L2.St) (s:BT.Sl):Prop where
 len:σ.length=s.length
 get:∀ (i:Nat) (x:BT.W),s[i]?=some (some x)->∃ v,σ[i]?=some (some v)/\RW P w K m H v x
noncomputable def yF:HO->Bool
 | .tbl _=>true
 | _=>false
structure Ext (m:List OR) (H:Hp) (m':List OR) (H':Hp):Prop where
 pre:∃ e,m'=m++e/\∀ a∈e,H a=none
 keep:∀ a o,H a=some o->a∉m->yF o=false->H' a=some o
 live:∀ a,H' a=none->H a=none
theorem Ext.refl (m:List OR) (H:Hp):Ext m H m H:=⟨⟨[],by simp,by simp⟩,fun _ _ h _ _=>h,fun _ h=>h⟩
theorem Ext.d9  (x:Ext m H m' H')  (h:H a=some o) (n:a∉m):a∉m':=by
 obtain ⟨e,rfl,he⟩:=x.pre
 intro q
 rcases List.mem_append.mp q with q|q
 ·exact n q
 ·rw[he a q] at h;cases h
theorem Ext.trans {m1 m2:List OR}{H1 H2:Hp} (x:Ext m H m1 H1) (y:Ext m1 H1 m2 H2):Ext m H m2 H2:=by
 obtain ⟨e,rfl,he⟩:=x.pre
 obtain ⟨e',rfl,he'⟩:=y.pre
 refine ⟨⟨e++e',by rw[Qx],fun a ha=>?_⟩,fun a o h n t=>y.keep a o (x.keep a o h n t) (x.d9 h n) t,fun a h=>x.live a (y.live a h)⟩
 rcases List.mem_append.mp ha with q|q
 ·exact he a q
 ·exact x.live a (he' a q)
theorem Rd.ext  (x:Ext m H m' H') {u:HO} (h:Rd H a u) (n:a∉m) (t:yF u=false:=by rfl):Rd H' a u/\a∉m':=by
 rcases h with h|⟨o,h⟩
 ·exact ⟨.inl (x.keep _ _ h n t),x.d9 h n⟩
 ·exact ⟨.inr ⟨o,x.keep _ _ h n rfl⟩,x.d9 h n⟩
theorem Tr.ext  (x:Ext m H m' H') {o:Obj} (h:Tr m H a o):Tr m' H' a o:=⟨x.keep _ _ h.1 h.2 rfl,x.d9 h.1 h.2⟩
theorem gQ.ext {m m':List OR}{H H':Hp} (x:Ext m H m' H') {cl:List (Str×OR)}{xs:List Str}{vs:List V} (r:gQ m H cl xs vs):gQ m' H' cl xs vs:=by
 induction r with
 | nil=>exact .nil
 | cons h1 h2 h3 r t ih=>exact .cons h1 (h2.ext x) h3 r ih
theorem gM.ext {m m':List OR}{H H':Hp} (x:Ext m H m' H') {f:OR}{L:Nat}{vs:List V} (h:gM m H f L vs):gM m' H' f L vs:=by
 obtain ⟨bt,ps,fs,pa,be,sc,cl,pm,ctv,c',oc,os,t,q,h0,h1,h2,h3,h4,h5,h6,h7,h8,h9,h10⟩:=h
 exact ⟨bt,ps,fs,pa,be,sc,cl,pm,ctv,c',oc,os,t,q,h0,h1,h2,h3,h4,h5,h6.ext x,h7.ext x,h8,h9,h10.ext x⟩
section
variable {P:OU}{w:Pa}{K:OM}{m m':List OR}{H H':Hp}
mutual
theorem RD.ext (x:Ext m H m' H'):∀ {v:V}{d:BT.D},RD K m H v d->RD K m' H' v d
 | _,_,.non=>.non
 | _,_,.bl b=>.bl b
 | _,_,.int i=>.int i
 | _,_,.str y h=>.str y h
 | _,_,.tup h r=>.tup (h.elim (fun q=>.inl (Rd.ext x q.1 q.2)) .inr) (RDs.ext x r)
 | _,_,.lst h r=>.lst (h.elim (fun q=>.inl (Rd.ext x q.1 q.2)) .inr) (RDs.ext x r)
theorem RDs.ext (x:Ext m H m' H'):∀ {vs:List V}{ds:List BT.D},RDs K m H vs ds->RDs K m' H' vs ds
 | _,_,.nil=>.nil
 | _,_,.cons r t=>.cons (RD.ext x r) (RDs.ext x t)
end
theorem RA.rw {d:BT.W} (r:RA K m H v d):RW P w K m H v d:=by
 cases r with
 | p r=>exact .p r
 | r h=>exact .r h
 | o h=>exact .o h
theorem RW.ra {d:BT.W} (r:RW P w K m H v d) (h0:BT.attrOk d=true):RA K m H v d:=by
 cases r with
 | p r=>exact .p r
 | r h=>exact .r h
 | o h=>exact .o h
 | _=>cases h0
theorem Ext.ix (x:Ext m H m' H')  (h:m[n]?=some a):m'[n]?=some a:=by
 obtain ⟨e,rfl,_⟩:=x.pre
 rw[OW (by rcases Pi _ m.length with q|q;exact q;rw[O0 q] at h;cases h)]
 exact h
theorem RA.ext (x:Ext m H m' H') {v:V}{d:BT.W} (r:RA K m H v d):RA K m' H' v d:=by
 cases r with
 | p r=>exact .p (r.ext x)
 | r h=>exact .r (x.ix h)
 | o h=>exact .o (x.ix h)
theorem RCs.ext (x:Ext m H m' H') {vs:List V}{cs:List BT.Cp} (r:RCs K m H vs cs):RCs K m' H' vs cs:=by
 induction r with
 | nil=>exact .nil
 | cons r t ih=>exact .cons (r.ext x) ih
theorem RW.ext (x:Ext m H m' H') {v:V}{d:BT.W} (r:RW P w K m H v d):RW P w K m' H' v d:=by
 cases r with
 | p r=>exact .p (r.ext x)
 | r h =>
  obtain ⟨e,rfl,_⟩:=x.pre
  refine .r ?_
  rw[OW (by rcases Pi _ m.length with q|q;exact q;rw[O0 q] at h;cases h)]
  exact h
 | k h r=>exact .k h r
 | c h r=>exact .c (h.ext x) (r.ext x)
 | g h r=>exact .g h r
 | x h n xt=>exact .x (x.keep _ _ h n rfl) (x.d9 h n) xt
 | o h =>
  obtain ⟨e,rfl,_⟩:=x.pre
  refine .o ?_
  rw[OW (by rcases Pi _ m.length with q|q;exact q;rw[O0 q] at h;cases h)]
  exact h
theorem RFs.ext (x:Ext m H m' H') {vs:List (Str×V)}{fs:List (Str×BT.W)} (r:RFs K m H vs fs):RFs K m' H' vs fs:=by
 induction r with
 | nil=>exact .nil
 | cons r t ih=>exact .cons (r.ext x) ih
theorem RKs.ext (x:Ext m H m' H') {vs:List (Key×V)}{kvs:List (BT.Ky×BT.D)} (r:RKs K m H vs kvs):RKs K m' H' vs kvs:=by
 induction r with
 | nil=>exact .nil
 | cons hk r t ih=>exact .cons (hk.ext x) (r.ext x) ih
theorem ig.ext (x:Ext m H m' H') {a:OR} (e:H' a=H a) {c:BT.Cl} (r:ig K m H a c):ig K m' H' a c:=by
 cases c with
 | o c fs=>obtain ⟨C,dx,vs,h1,h2,h3⟩:=r;exact ⟨C,dx,vs,e.trans h1,h2,h3.ext x⟩
 | _=>obtain ⟨vs,h1,h2⟩:=r;exact ⟨vs,e.trans h1,h2.ext x⟩
theorem ig.some  (r:ig K m H a c):∃ o,H a=some o:=by
 cases c with
 | o c fs=>obtain ⟨C,dx,vs,h1,h2,h3⟩:=r;exact ⟨_,h1⟩
 | _=>obtain ⟨vs,h1,h2⟩:=r;exact ⟨_,h1⟩
theorem RWs.ext (x:Ext m H m' H') {vs:List V}{ds:List BT.W} (r:RWs P w K m H vs ds):RWs P w K m' H' vs ds:=by
 induction r with
 | nil=>exact .nil
 | cons r t ih=>exact .cons (r.ext x) ih
theorem RS.ext (x:Ext m H m' H') {σ:L2.St}{s:BT.Sl} (r:RS P w K m H σ s):RS P w K m' H' σ s :=
 ⟨r.len,fun i y e=>by obtain ⟨v,h,q⟩:=r.get i y e;exact ⟨v,h,q.ext x⟩⟩
theorem RDs.length:∀ {vs:List V}{ds:List BT.D},RDs K m H vs ds->vs.length=ds.length
 | _,_,.nil=>rfl
 | _,_,.cons _ t=>by rw[Ph,Ph,RDs.length t]
theorem RWs.length:∀ {vs:List V}{ds:List BT.W},RWs P w K m H vs ds->vs.length=ds.length
 | _,_,.nil=>rfl
 | _,_,.cons _ t=>by rw[Ph,Ph,RWs.length t]
theorem RDs.get:∀ {vs:List V}{ds:List BT.D}{i:Nat}{d:BT.D},RDs K m H vs ds->ds[i]?=some d->∃ v,vs[i]?=some v/\RD K m H v d
 | _,_,_,_,.nil,e=>by simp at e
 | _,_,0,_,.cons r _,e=>by simp at e;subst e;exact ⟨_,rfl,r⟩
 | _,_,i+1,d,.cons _ t,e=>by
  obtain ⟨u,h1,h2⟩:=RDs.get (i:=i) (d:=d) t (by simpa using e)
  exact ⟨u,by simpa using h1,h2⟩
theorem RDs.append:∀ {vs ws:List V}{ds es:List BT.D},RDs K m H vs ds->RDs K m H ws es->RDs K m H (vs++ws) (ds++es)
 | _,_,_,_,.nil,s=>s
 | _,_,_,_,.cons r t,s=>.cons r (RDs.append t s)
theorem RDs.take:∀ {vs:List V}{ds:List BT.D} (n:Nat),RDs K m H vs ds->RDs K m H (vs.take n) (ds.take n)
 | _,_,0,_=>.nil
 | _,_,_+1,.nil=>.nil
 | _,_,n+1,.cons r t=>.cons r (RDs.take n t)
theorem RDs.drop:∀ {vs:List V}{ds:List BT.D} (n:Nat),RDs K m H vs ds->RDs K m H (vs.drop n) (ds.drop n)
 | _,_,0,r=>r
 | _,_,_+1,.nil=>.nil
 | _,_,n+1,.cons _ t=>RDs.drop n t
theorem RDs.set {v:V}{d:BT.D} (r:RD K m H v d):∀ {vs:List V}{ds:List BT.D} (i:Nat),RDs K m H vs ds->RDs K m H (vs.set i v) (ds.set i d)
 | _,_,_,.nil=>.nil
 | _,_,0,.cons _ t=>.cons r t
 | _,_,i+1,.cons q t=>.cons q (RDs.set r i t)
theorem RDs.pick {vs:List V}{ds:List BT.D} (r:RDs K m H vs ds):∀ l:List Nat,RDs K m H (l.filterMap fun i=>vs[i]?) (l.filterMap fun i=>ds[i]?)
 | []=>.nil
 | i :: l=>by
  rw[PV,PV]
  cases g:ds[i]? with
  | none =>
   have:vs[i]?=none:=by
    have h:=r.length
    rw[TV] at g ⊢
    lia
   rw[this]
   exact RDs.pick r l
  | some d =>
   obtain ⟨v,e,q⟩:=r.get g
   rw[e]
   exact .cons q (RDs.pick r l)
theorem RDs.dropLast:∀ {vs:List V}{ds:List BT.D},RDs K m H vs ds->RDs K m H vs.dropLast ds.dropLast
 | _,_,.nil=>.nil
 | _,_,.cons _ .nil=>.nil
 | _,_,.cons r (.cons q t)=>.cons r (RDs.dropLast (.cons q t))
theorem RDs.rep {vs:List V}{ds:List BT.D} (r:RDs K m H vs ds):∀ k:Nat,RDs K m H (O7 k vs).flatten (O7 k ds).flatten
 | 0=>.nil
 | k+1=>by
  rw[P1,P1,Qw,Qw]
  exact RDs.append r (RDs.rep r k)
theorem nR {N:List OR} (hN:N.Nodup) {i j:Nat}{x:OR} (a:N[i]?=some x) (b:N[j]?=some x):i=j:=by
 have hi:i < N.length:=by
  rcases Pi i N.length with z|z
  ·exact z
  ·rw[O0 z] at a;cases a
 have hj:j < N.length:=by
  rcases Pi j N.length with z|z
  ·exact z
  ·rw[O0 z] at b;cases b
 rw[OZ hi] at a
 rw[OZ hj] at b
 exact (List.getElem_inj hN).mp ((OV a).trans (OV b).symm)
inductive RR (K:OM) (m:List OR) (H:Hp):V->BT.D->Prop where
 | d {v:V}{d:BT.D} (r:RD K m H v d):RR K m H v d
 | l {a:OR}{vs:List V}{ds:List BT.D} (h:H a=some (.lst vs)) (r:RDs K m H vs ds):RR K m H (.ref a) (.lst ds)
theorem aK  (RHh:RH K m H h) {x:BT.W}{d:BT.D} (r:RW P w K m H v x) (e:BT.rd x h=some d):RR K m H v d:=by
 cases r with
 | p r=>cases e;exact .d r
 | @r a n q =>
  simp only[BT.rd] at e
  cases g:BT.lat h n with
  | none=>rw[g] at e;cases e
  | some xs =>
   rw[g] at e
   cases e
   obtain ⟨vs,h1,h2⟩:=RHh.cell n a xs q g
   exact .l h1 h2
 | _=>cases e
inductive RLs (K:OM) (m:List OR) (H:Hp) (v:V) (ds:List BT.D):Prop where
 | mk (a:OR) (vs:List V) (e:v=.ref a) (l:LL K H a vs) (r:RDs K m H vs ds):RLs K m H v ds
inductive RTs (K:OM) (m:List OR) (H:Hp) (v:V) (ds:List BT.D):Prop where
 | mk (a:OR) (vs:List V) (e:v=.ref a) (l:SqT K H a vs) (r:RDs K m H vs ds):RTs K m H v ds
theorem RR.lst {v:V}{ds:List BT.D} (r:RR K m H v (.lst ds)):RLs K m H v ds:=by
 cases r with
 | d r=>cases r with|lst h r=>exact ⟨_,_,rfl,h.elim (fun q=>.inl q.1) .inr,r⟩
 | l h r=>exact ⟨_,_,rfl,.inl (.inl h),r⟩
theorem RR.tup {v:V}{ds:List BT.D} (r:RR K m H v (.tup ds)):RTs K m H v ds:=by
 cases r with
 | d r=>cases r with|tup h r=>exact ⟨_,_,rfl,h.elim (fun q=>.inl q.1) (fun ⟨o,its,n,q,_⟩=>.inr ⟨o,its,n,q⟩),r⟩
theorem RR.int {v:V}{i:Int} (r:RR K m H v (.int i)):v=.int i:=by
 cases r with|d r=>cases r;rfl
theorem RR.str {v:V}{x:Str} (r:RR K m H v (.str x)):v=.str x/\PyData.strOk x=true:=by
 cases r with|d r=>cases r with|str _ h=>exact ⟨rfl,h⟩
theorem RR.bl {v:V}{b:Bool} (r:RR K m H v (.bl b)):v=.bl b:=by
 cases r with|d r=>cases r;rfl
theorem RR.non  (r:RR K m H v .non):v=.non:=by
 cases r with|d r=>cases r;rfl
theorem TB.new {p:OR} (hp:H p=none)  (h:TB K H):TB K (upd H p o) :=
 h.mono (fun P ps e=>by rw[ao (aF e hp)];exact e) fun a o _ _ e=>by rw[ao (aF e hp)];exact e
theorem eg {p:OR} (hp:H p=none):Ext m H m (upd H p o) :=
 ⟨⟨[],by simp,by simp⟩,fun a q h _ _=>by rw[ao (aF h hp)];exact h,fun a h=>by
  by_cases e:a=p
  ·rw[e];exact hp
  ·rw[ao e] at h;exact h⟩
theorem RH.d9  (R:RH K m H h) {p:OR} (hp:H p=none):p∉m:=by
 intro q
 obtain ⟨i,hi⟩:=Qu q
 have hl:i < h.length:=by
  rw[← R.len]
  rcases Pi i m.length with z|z
  ·exact z
  ·rw[O0 z] at hi;cases hi
 obtain ⟨o,e⟩:=(R.cl i p h[i] hi (OZ hl)).some
 rw[e] at hp;cases hp
def Le (H H':Hp):Prop:=∀ a u,H a=some u->H' a=some u
theorem Le.tb (q:Le H H')  (t:TB K H):TB K H':=t.mono (fun _ _ e=>q _ _ e) fun _ _ _ _ e=>q _ _ e
theorem sy {p:OR} (hp:H p=none):Le H (upd H p o):=fun a u e=>by rw[ao (aF e hp)];exact e
theorem RH.ext {h:BT.HH} (R:RH K m H h) (x:Ext m H m H') (k:Le H H'):RH K m H' h :=
 ⟨R.nd,R.len,fun i a c e1 e2=>by
  obtain ⟨o,e⟩:=(R.cl i a c e1 e2).some
  exact (R.cl i a c e1 e2).ext x (by rw[e];exact k _ _ e),k.tb R.tb⟩
noncomputable def F4:HO->Bool
 | .lst _=>true
 | .ins _ _ _=>true
 | .dK _=>true
 | _=>false
theorem RH.mu  (R:RH K m H h)  (ha:a∈m):∃ o,H a=some o/\F4 o=true:=by
 obtain ⟨i,hi⟩:=Qu ha
 have hl:i < h.length:=by
  rw[← R.len]
  rcases Pi i m.length with z|z
  ·exact z
  ·rw[O0 z] at hi;cases hi
 have z:=R.cl i a h[i] hi (OZ hl)
 cases g:h[i] with
 | o c fs=>rw[g] at z;obtain ⟨C,dx,vs,h1,h2,h3⟩:=z;exact ⟨_,h1,rfl⟩
 | _=>rw[g] at z;obtain ⟨vs,h1,h2⟩:=z;exact ⟨_,h1,rfl⟩
theorem RH.nin  (R:RH K m H h)  (e:H a=some o) (n:F4 o=false):a∉m:=fun z=>by
 obtain ⟨u,h1,h2⟩:=R.mu z
 rw[e] at h1;cases h1
 rw[n] at h2;cases h2
theorem RH.new  (R:RH K m H h) {p:OR} (hp:H p=none):RH K m (upd H p o) h :=
 R.ext (eg hp) (sy hp)
theorem jA {p:OR} (hp:H p=none):Ext m H (m++[p]) (upd H p o) :=
 ⟨⟨[p],rfl,by simpa using hp⟩,fun a q h _ _=>by rw[ao (aF h hp)];exact h,fun a h=>by
  by_cases e:a=p
  ·rw[e];exact hp
  ·rw[ao e] at h;exact h⟩
theorem RH.JL  (R:RH K m H h) {p:OR} (hp:H p=none) (r:ig K (m++[p]) (upd H p o) p c):RH K (m++[p]) (upd H p o) (h++[c]):=by
 have np:=R.d9 hp
 have x:Ext m H (m++[p]) (upd H p o):=jA hp
 refine ⟨List.nodup_append.mpr ⟨R.nd,by simp,fun a ha b hb=>by simp at hb;subst hb;exact fun e=>np (e ▸ ha)⟩,by simp[R.len],fun i a ys e1 e2=>?_,R.tb.new hp⟩
 by_cases c:i < m.length
 ·rw[OW c] at e1
  rw[OW (by rw[← R.len];exact c)] at e2
  have ne:a≠p:=by
   intro e
   subst e
   exact np (O5 e1)
  exact (R.cl i a ys e1 e2).ext x (ao ne)
 ·have e:i=m.length:=by
   rcases Pi i (m++[p]).length with z|z
   ·simp at z;lia
   ·rw[O0 z] at e1;cases e1
  subst e
  simp at e1
  rw[R.len] at e2
  simp at e2
  subst e1 e2
  exact r
theorem RH.Ng  (R:RH K m H h) {p:OR} (hp:H p=none) (r:RDs K m H vs xs):RH K (m++[p]) (upd H p (.lst vs)) (h++[.l xs]) :=
 R.JL hp ⟨vs,aG,r.ext (jA hp)⟩
theorem TB.set  (hm:∃ u,H a=some u/\F4 u=true)  (h:TB K H):TB K (upd H a o):=by
 obtain ⟨w,hw,hu⟩:=hm
 refine h.mono (fun P ps e=>?_) fun b ob _ _ e=>?_
 ·rw[ao (fun z=>by subst z;rw[hw] at e;cases e;cases hu)];exact e
 ·rw[ao (fun z=>by subst z;rw[hw] at e;cases e;cases hu)];exact e
theorem lT  (ha:a∈m):Ext m H m (upd H a o) :=
 ⟨⟨[],by simp,by simp⟩,fun b u q n _=>by
  have ne:b≠a:=by
   intro e
   subst e
   exact n ha
  rw[ao ne];exact q,fun b q=>by
  by_cases e:b=a
  ·subst e;rw[aG] at q;cases q
  ·rw[ao e] at q;exact q⟩
theorem gk {us:List V} (ha:a∈m) (h:H a=some (.lst us)):Ext m H m (upd H a (.lst vs)):=lT ha
theorem RH.setC  (R:RH K m H h)  (hn:m[n]?=some a) (r:ig K m (upd H a o) a c):RH K m (upd H a o) (h.set n c):=by
 have x:Ext m H m (upd H a o):=lT (O5 hn)
 refine ⟨R.nd,by simp[R.len],fun i b ys e1 e2=>?_,R.tb.set (R.mu (O5 hn))⟩
 by_cases c:i=n
 ·subst c
  rw[hn] at e1;cases e1
  have hl:i < h.length:=by
   rw[← R.len]
   rcases Pi i m.length with z|z
   ·exact z
   ·rw[O0 z] at hn;cases hn
  rw[P0 hl] at e2
  cases e2
  exact r
 ·rw[PM (Qj c)] at e2
  have ne:b≠a:=by
   intro e
   subst e
   exact c (nR R.nd e1 hn)
  exact (R.cl i b ys e1 e2).ext x (ao ne)
theorem RH.set  (R:RH K m H h) {us:List V} (hn:m[n]?=some a) (hH:H a=some (.lst us)) (r:RDs K m H vs xs):RH K m (upd H a (.lst vs)) (h.set n (.l xs)) :=
 R.setC hn ⟨vs,aG,r.ext (gk (O5 hn) hH)⟩
end
end BS
end
section
namespace BS
open PySem PySem.Spec PyProof.Rows L2 PySem.SeqAt
theorem kJ {M:Model}{A:PF}{E:Value->OP->Prop}{s:OP}{β:Type} (f:Nat->β->Sem (ForInStep β)) (n:Nat) (I:Nat->β->OP->Prop) (Q:β->OP->Prop)
 (turn:∀ i b s,i < n->I i b s->wpAny M A (f i b) (fun r s'=>match r with | .yield b'=>I (i+1) b' s' | .done b'=>Q b' s') E s)
 (fin:∀ b s,I n b s->Q b s) (b:β) (h:I 0 b s):wpAny M A (forIn [:n] b f) Q E s:=by
 rw[Std.Legacy.Range.forIn_eq_forIn_range']
 have e:UI [:n].start [:n].size [:n].step=UI 0 (n - 0):=by simp[Std.Legacy.Range.size]
 rw[e]
 refine wpAny_forIn_list f (fun rest b s=>∃ i,i<=n/\rest=UI i (n - i)/\I i b s) Q (fun x rest b s ⟨i,hi,hr,q⟩=>?_) (fun b s ⟨i,hi,hr,q⟩=>?_) _ b ⟨0,Qs _,rfl,h⟩
 ·have hlt:i < n:=by
   rcases Pi i n with z|z
   ·exact z
   ·rw[show n - i=0 by lia] at hr;simp at hr
  rw[show n - i=(n - (i+1))+1 by lia,List.range'_succ] at hr
  injection hr with e1 e2
  subst e1
  refine wpAny_mono (turn x b s hlt q) (fun r s' z=>?_) fun _ _ z=>z
  cases r with
  | yield b'=>exact ⟨x+1,hlt,e2,z⟩
  | done b'=>exact z
 ·have:i=n:=by
   rcases Pi i n with z|z
   ·rw[show n - i=(n - (i+1))+1 by lia,List.range'_succ] at hr;simp at hr
   ·lia
  subst this
  exact fin b s q
theorem ni (l:OR) (yn:Array Value) (n:Nat) (dd:Option OR) (sl:Array (Option Value)) (x:Value) (e:Value->Bool) (j:Nat) (hj:j < yn.size)
 (hit:e yn[j]=true) (hno:∀ m (hm:m < yn.size),m < j->e yn[m]=false) :
 Meets (Builtin.«tuple.index» ⟨[.ref l,x],[]⟩)
  (fun A R s=>s.heap.get? l=some { cls:=.type "tuple",dict:=dd,data:=.seq yn n,slots:=sl }/\(∀ y,y∈yn->EqAt A.in1 s y x (e y))/\R (.ok (.ret (.int j s.toks))) { s with toks:=s.toks+1 }) :=
 .of_wp fun prog w A R s h=>by
 obtain ⟨hp,g,d,tk,os⟩:=s;obtain ⟨hl,he,h⟩:=h
 wp_walk using Q8 hl,kJ _ _ (fun i b s'=>i<=j/\b.1=none/\s'=⟨hp,g,d,tk,os⟩) _
 case turn =>
  rintro i b s' hi ⟨hij,hb,rfl⟩
  have hi':i < yn.size:=by lia
  rw[Array.getElem?_eq_getElem hi']
  refine OY (he _ (Array.getElem_mem hi') prog w _ _ ?_)
  by_cases c:i=j
  ·subst c
   rw[hit]
   wp_walk
   exact ⟨_,rfl,h⟩
  ·rw[hno i hi' (by lia)]
   wp_walk
   exact ⟨by lia,rfl,rfl⟩
 case fin =>
  rintro b s' ⟨hij,_,_⟩
  lia
 case h=>exact ⟨Qs _,rfl,rfl⟩
theorem sA (l:OR) (yn:Array Value) (n:Nat) (dd:Option OR) (sl:Array (Option Value)) (k:Int) (t:Tok) (h1:-1000<=k) (h2:k<=1000) (c1:¬ yn.isEmpty=true) (c2:k≠1) (c3:0 < k) (hz:yn.size*k.toNat<=sizeLine) :
 Meets (Builtin.«tuple.__mul__» ⟨[.ref l,.int k t],[]⟩)
  (fun A R s=>s.heap.get? l=some { cls:=.type "tuple",dict:=dd,data:=.seq yn n,slots:=sl }/\R (.ok (.ret (.ref s.heap.objs.size))) { s with heap:=s.heap.push { cls:=.type "tuple",data:=.seq ((O7 k.toNat yn).foldl (fun x1 x2=>x1++x2) #[]) } }) :=
 .of_wp fun prog w A R s h=>by
 obtain ⟨hp,g,d,tk,os⟩:=s;obtain ⟨hl,h⟩:=h
 have f1:=UD
 have a1:¬ (decide (k < -2 ^ 63)||decide (k ≥ 2 ^ 63))=true:=by simp;lia
 have a2:¬ (yn.isEmpty||k==1)=true:=by simp at c1 ⊢;exact ⟨c1,c2⟩
 have a3:¬ (decide (k<=0)||yn.isEmpty)=true:=by simp at c1 ⊢;exact ⟨by lia,c1⟩
 have kk:(k.toNat:Int)=k:=by lia
 have a4:¬ ((yn.size:Int)*k > (2 ^ 63 - 1) / 8):=by
  have z:((yn.size*k.toNat:Nat):Int)<=(sizeLine:Nat):=Int.ofNat_le.mpr hz
  rw[Int.natCast_mul,kk] at z
  have z2:((sizeLine:Nat):Int)<=(2 ^ 63 - 1) / 8:=by decide
  lia
 have a5:¬ Sy ((yn.size:Int)*k)=true:=by
  have z:((yn.size*k.toNat:Nat):Int)<=(sizeLine:Nat):=Int.ofNat_le.mpr hz
  rw[Int.natCast_mul,kk] at z
  simp only[Sy,decide_eq_true_eq]
  lia
 have hsz:sizeOk (.seq ((O7 k.toNat yn).foldl (fun x1 x2=>x1++x2) #[])):=by
  show ((O7 k.toNat yn).foldl (fun x1 x2=>x1++x2) #[]).size<=sizeLine
  rw[AutoListH.size_joined,Array.size_empty,Q3];lia
 wp_walk using Q8 hl
 rw[if_neg a1]
 wp_walk using Q8 hl
 refine wpAny_ite_split (fun c=>absurd c ?_) (fun _=>?_)
 ·intro c;have a6:=a4;simp at a6 c;lia
 wp_walk using Q8 hl
 refine wpAny_ite_false (decide_eq_false (Nat.not_lt.mpr hsz)) ?_
 wp_walk
 exact ⟨_,rfl,h⟩
theorem jU:fillsNumberSlot (.type "tuple") "mul"=pure false :=
 PySem.fillsNumberSlot_seq (id:="tuple.__mul__") (r:=some (.builtin "tuple.__rmul__")) F.slot_tuple_mul.lookup (by decide +kernel) F.slot_tuple_rmul.lookup (by decide +kernel)
theorem oW:seqRepeat? (.type "tuple")=pure (some (.builtin "tuple.__mul__")):=by
 unfold seqRepeat?
 rw[PySem.seqSlot_of (T:="tuple") (name:="__mul__") (id:="tuple.__mul__") F.slot_tuple_mul.lookup (by decide +kernel),PySem.seqSlot_of (T:="tuple") (name:="__rmul__") (id:="tuple.__rmul__") F.slot_tuple_rmul.lookup (by decide +kernel)]
 rfl
theorem lU (a:Int) (t:Tok) (l:OR) (yn:Array Value) (n:Nat) (dd:Option OR) (sl:Array (Option Value)) :
 Meets (Builtin.«int.__rmul__» ⟨[.int a t,.ref l],[]⟩) (fun _ R s=>s.heap.get? l=some { cls:=.type "tuple",dict:=dd,data:=.seq yn n,slots:=sl }/\R (.ok (.ret Value.notImplemented)) s) :=
 .of_wp fun prog w A R s h=>by obtain ⟨hp,g,d,tk,os⟩:=s;obtain ⟨hl,h⟩:=h;wp_walk;exact ⟨_,rfl,h⟩
theorem kK (l:OR) (yn:Array Value) (n:Nat) (b:OR) (items2:Array Value) (n2:Nat) (dd:Option OR) (sl:Array (Option Value)) (hs0:¬(!yn.isEmpty&&P9 (yn.size+items2.size))=true) (hs1:yn.size<=sizeLine) (hs2:yn.size+items2.size<=sizeLine+1) :
 Meets (Builtin.«list.extend» ⟨[.ref l,.ref b],[]⟩) (fun _ R s=>s.heap.get? l=some { cls:=.type "list",dict:=none,data:=.seq yn n,slots:=#[] }/\s.heap.get? b=some { cls:=.type "tuple",dict:=dd,data:=.seq items2 n2,slots:=sl }/\R (.ok (.ret SQ)) { s with heap:=s.heap.update l (Sn fun x=>x++items2),toks:=s.toks }) :=
 .of_wp fun prog w A R s h=>by
  obtain ⟨hp,g,d,tk,os⟩:=s;obtain ⟨hl,hb,h⟩:=h;have f1:=UD;have f2:=AutoSeq1.sub_tuple_tuple;have f3:=AutoSeq1.sub_list_list;have f4:=AutoSeq1.sub_tuple_list;have f5:=AutoSeq1.sub_list_tuple
  have hz':(yn++items2).size<=sizeLine+1:=by rw[Array.size_append];exact hs2
  wp_walk using (wpAny_updateSeq hl rfl (hz:=hs1) (_hz':=hz')),Q8 hl,Q8 hb;exact ⟨_,rfl,h⟩
end BS
end
section
namespace BS
open PySem PySem.Spec PyProof.Rows L2
variable {A:PF}{C:BT.HH->Prop}{H H0:Hp}{K:OM}{N ps:List Str}{P:OU}{Q:VK}{X:Cx}{a:BT.E}{apos np p2 pos:Pos}{as sa:BT.Es}{b:BT.Bi}{c:String}{cl:List (Str×OR)}{d:BT.D}{ds:List BT.D}{e tg:ON}{eb:BT.EH}{env:Env}{es:List ON}{f:BT.D->Bool}{h h':BT.HH}{i:Nat}{k:Int}{l:OR}{m m0:List OR}{name:Str}{o:BT.Bin}{pa:Qo}{zt:List (OR×Obj)}{r:BT.W×BT.HH}{s:OP}{sc:O6}{us:List Value}{v:V}{vs xs:List V}{x y z:BT.W}{σ:L2.St}
inductive Bnd {α β:Type} (x:Option (α×BT.HH)) (k:α->BT.HH->Option β) (r:β):Prop where
 | mk (a:α) (g:BT.HH) (h1:x=some (a,g)) (h2:k a g=some r):Bnd x k r
inductive JM {α β:Type} (x:Option α) (f:α->β) (r:β):Prop where
 | mk (a:α) (h1:x=some a) (h2:f a=r):JM x f r
inductive Bind (o:BT.Bin) (x y:BT.W) (h:BT.HH) (z:BT.W) (h':BT.HH):Prop where
 | mk (d d' q:BT.D) (h1:BT.rd x h=some d) (h2:BT.rd y h=some d') (h3:BT.iW o d d'=some q) (h4:z=.p q) (h5:h'=h):Bind o x y h z h'
theorem ak {α β:Type}{x:Option (α×BT.HH)}{k:α->BT.HH->Option β}{r:β} (h:BT.bnd x k=some r):Bnd x k r:=by
 cases x with
 | none=>cases h
 | some q=>exact ⟨q.1,q.2,rfl,h⟩
theorem aC {α β:Type}{x:Option α}{f:α->β}{r:β} (h:x.map f=some r):JM x f r:=by
 cases x with
 | none=>cases h
 | some a=>exact ⟨a,rfl,OV h⟩
def Post (P:OU) (w:Pa) (K:OM) (m:List OR) (H:Hp) (z:BT.W) (h':BT.HH) (Q:VK):Prop :=
 ∀ v H' m',Ext m H m' H'->RH K m' H' h'->RW P w K m' H' v z->Q v H'
inductive rOp (P:OU) (w:Pa) (K:OM) (f:BT.W->BT.W->BT.HH->Option (BT.W×BT.HH)) (v u:V) (H:Hp) (Q:VK):Prop where
 | mk (m:List OR) (h:BT.HH) (x y z:BT.W) (h':BT.HH) (R:RH K m H h) (rx:RW P w K m H v x) (ry:RW P w K m H u y) (e:f x y h=some (z,h')) (p:Post P w K m H z h' Q):rOp P w K f v u H Q
theorem iM  (e:BT.m8 o x y h=some (z,h')):Bind o x y h z h':=by
 unfold BT.m8 at e
 cases e1:BT.rd x h with
 | none=>rw[e1] at e;cases e
 | some d =>
  cases e2:BT.rd y h with
  | none=>rw[e1,e2] at e;cases e
  | some d' =>
   rw[e1,e2] at e
   obtain ⟨q,eq,er⟩:=aC e
   cases er
   exact ⟨d,d',q,e1,e2,eq,rfl,rfl⟩
section
variable {X:Cx}
theorem cU:BT.lim<=sizeLine:=by decide
inductive JN (s:OP) (a:OR) (xs:List V):Prop where
 | mk (z:xs.length<=sizeLine) (its:List Value) (n:Nat) (r:az xs its) (l:xs.length=its.length) (e:s.heap.get? a=some { cls:=.type "list",data:=.seq its.toArray n }):JN s a xs
theorem rdL {a:OR} (I:Inv X zt σ H s) (r:LL X.K H a xs):JN s a xs:=by
 rcases r with r|⟨its,n,h1,h2,h3⟩
 ·obtain ⟨z,its,n,r,e⟩:=r.ok I.hok
  exact ⟨z,its,n,r,r.length,e⟩
 ·exact ⟨by rw[h3.length];exact h2,its,n,h3,h3.length,I.kIn a _ h1⟩
theorem qu {a b:OR}{ys:List V} (I:Inv X zt σ H s) (ha:LL X.K H a xs) (hb:LL X.K H b ys) (hz:xs.length+ys.length<=sizeLine)
 (q:∀ p,H p=none->Q (.ref p) (upd H p (.lst (xs++ys)))):wpAny (Pc X.prog X.w) X.A (Qf .Add (.ref a) (.ref b)) (EP X zt σ Q) X.xe s:=by
 obtain ⟨z,its,n,r,hl,e⟩:=rdL I ha
 obtain ⟨z2,its2,n2,r2,hl2,e2⟩:=rdL I hb
 refine PySem.P.add_list e e2 ?_ (by rw[OT,OT];lia)
 have ea:its.toArray++its2.toArray=(its++its2).toArray:=by simp
 rw[ea]
 exact ⟨.ref _,_,I.IV (t':=s.toks) (r.append r2) (by rw[PK];lia),rfl,q _ I.fresh⟩
theorem vW {a b:OR}{ys:List V} (I:Inv X zt σ H s) (ha:SqT X.K H a xs) (hb:SqT X.K H b ys) (hz:xs.length+ys.length<=sizeLine)
 (q0:xs=[]->Q (.ref b) H) (q1:ys=[]->Q (.ref a) H) (q:∀ p,H p=none->Q (.ref p) (upd H p (.tup (xs++ys)))):wpAny (Pc X.prog X.w) X.A (Qf .Add (.ref a) (.ref b)) (EP X zt σ Q) X.xe s:=by
 by_cases c:xs=[]
 ·obtain ⟨its,r1,p1,_⟩:=I.tuple ha
  obtain ⟨its2,r2,p2,_⟩:=I.tuple hb
  obtain ⟨⟨cls,dd,data,sl⟩,ho,hc,n,hd⟩:=id p1
  obtain ⟨⟨cls2,dd2,data2,sl2⟩,ho2,hc2,n2,hd2⟩:=id p2
  simp only at hc hd hc2 hd2
  subst hc hd hc2 hd2
  have z:its=[]:=r1.jt.mpr c
  exact concat_meets ⟨_,ho,rfl⟩ ⟨_,ho2,rfl⟩ T3 UP RL RI (Rx _ _)
   (tuple_addW0 a b its.toArray its2.toArray n n2 dd dd2 sl sl2 (by simp[z])) ⟨ho,ho2,⟨.ref b,H,I,rfl,q0 c⟩⟩
 ·exact BA zt s σ H (.ref a) (.ref b) _ _ Q I rfl rfl ⟨a,b,xs,ys,rfl,rfl,ha,hb,c,hz,q1,fun _=>q⟩
theorem jB {p:OR} (R:RH X.K m H h) (hp:H p=none) (r:RDs X.K m H vs ds) (zr:Post X.prog X.w X.K m H (.p (.tup ds)) h Q):Q (.ref p) (upd H p (.tup vs)) :=
 zr _ _ m (eg hp) (R.new hp) (.p (.tup (.inl ⟨.inl aG,R.d9 hp⟩) (r.ext (eg hp))))
theorem jC {p:OR} (R:RH X.K m H h) (hp:H p=none) (r:RDs X.K m H vs ds) (zr:Post X.prog X.w X.K m H (.p (.lst ds)) h Q):Q (.ref p) (upd H p (.lst vs)) :=
 zr _ _ m (eg hp) (R.new hp) (.p (.lst (.inl ⟨.inl aG,R.d9 hp⟩) (r.ext (eg hp))))
theorem uf {p:OR} (R:RH X.K m H h) (hp:H p=none) (r:RDs X.K m H vs ds) (zr:Post X.prog X.w X.K m H (.r h.length) (h++[.l ds]) Q):Q (.ref p) (upd H p (.lst vs)) :=
 zr _ _ (m++[p]) (jA hp) (R.Ng hp r) (.r (by rw[← R.len];simp))
theorem iN {p:OR}{mu:Bool} (R:RH X.K m H h) (hp:H p=none) (r:RDs X.K m H vs ds) (zr:Post X.prog X.w X.K m H (BT.new mu ds h).1 (BT.new mu ds h).2 Q):Q (.ref p) (upd H p (.lst vs)):=by
 cases mu with
 | false=>exact jC R hp r zr
 | true=>exact uf R hp r zr
theorem Post.here  (R:RH X.K m H h) (zr:Post X.prog X.w X.K m H (.p d) h Q) (r:RD X.K m H v d):Q v H:=zr v H m (.refl _ _) R (.p r)
theorem oX {x y:Str} (hx:PyData.strOk x=true) (hy:PyData.strOk y=true):PyData.strOk (x++y)=true:=by
 show (x.cps++y.cps).all _=true
 rw[Array.all_append]
 simp only[PyData.strOk] at hx hy
 rw[hx,hy];rfl
theorem F5:OpR X (Qf .Add) (rOp X.prog X.w X.K BT.B7):=by
 intro zt s σ H v u v' u' Q I rv ru h
 obtain ⟨m,h,x,y,z,h',R,rx,ry,e,zr⟩:=h
 unfold BT.B7 at e
 cases e1:BT.rd x h with
 | none=>rw[e1] at e;cases e
 | some d =>
  cases e2:BT.rd y h with
  | none=>rw[e1,e2] at e;cases d<;>cases e
  | some d' =>
   rw[e1,e2] at e
   have r1:=aK R rx e1
   have r2:=aK R ry e2
   cases d<;>cases d'<;>first|(cases e;done)|skip
   simp only at e
   split at e
   ·rename_i c
    obtain ⟨a,vs,rfl,ha,ra⟩:=r1.lst
    obtain ⟨b,us,rfl,hb,rb⟩:=r2.lst
    cases rv;cases ru
    have l1:=ra.length
    have l2:=rb.length
    have:=cU
    have ez:=OV e
    exact qu I ha hb (by lia) fun p hp=>iN (mu:=true) R hp (ra.append rb) (by rw[ez];exact zr)
   ·cases e
theorem F6:OpR X (Qf .Add) (rOp X.prog X.w X.K (BT.m8 .add)):=by
 intro zt s σ H v u v' u' Q I rv ru h
 obtain ⟨m,h,x,y,z,h',R,rx,ry,e,zr⟩:=h
 obtain ⟨d,d',q,e1,e2,e3,rfl,rfl⟩:=iM e
 have r1:=aK R rx e1
 have r2:=aK R ry e2
 cases d<;>cases d'<;>first|(cases e3;done)|simp only[BT.f6,BT.dg,BT.cL,BT.bS,BT.f7,BT.f9,BT.dh,BT.dj,BT.gc,BT.eW,BT.gf] at e3
 ·cases e3
  cases r1.int;cases r2.int
  exact Fb zt s σ H _ _ _ _ Q I rv ru ⟨_,_,rfl,rfl,zr.here R (.int _)⟩
 ·split at e3
  ·rename_i c
   cases e3
   obtain ⟨ev,ov⟩:=r1.str
   obtain ⟨eu,ou⟩:=r2.str
   subst ev;subst eu
   have:=cU
   exact rM zt s σ H _ _ _ _ Q I rv ru ⟨_,_,rfl,rfl,by lia,zr.here R (.str _ (oX ov ou))⟩
  ·cases e3
 ·split at e3
  ·rename_i c
   cases e3
   obtain ⟨a,vs,rfl,ha,ra⟩:=r1.tup
   obtain ⟨b,us,rfl,hb,rb⟩:=r2.tup
   cases rv;cases ru
   have l1:=ra.length
   have l2:=rb.length
   have:=cU
   refine vW I ha hb (by lia) (fun z=>?_) (fun z=>?_) fun p hp=>jB R hp (ra.append rb) zr
   ·subst z;cases ra
    cases r2 with|d r=>exact zr.here R r
   ·subst z;cases rb
    rw[Pr] at zr
    cases r1 with|d r=>exact zr.here R r
  ·cases e3
 ·split at e3
  ·rename_i c
   cases e3
   obtain ⟨a,vs,rfl,ha,ra⟩:=r1.lst
   obtain ⟨b,us,rfl,hb,rb⟩:=r2.lst
   cases rv;cases ru
   have l1:=ra.length
   have l2:=rb.length
   have:=cU
   exact qu I ha hb (by lia) fun p hp=>jC R hp (ra.append rb) zr
  ·cases e3
theorem F7:OpR X (Qf .Sub) (rOp X.prog X.w X.K (BT.m8 .sub)):=by
 intro zt s σ H v u v' u' Q I rv ru h
 obtain ⟨m,h,x,y,z,h',R,rx,ry,e,zr⟩:=h
 obtain ⟨d,d',q,e1,e2,e3,rfl,rfl⟩:=iM e
 have r1:=aK R rx e1
 have r2:=aK R ry e2
 cases d<;>cases d'<;>first|(cases e3;done)|simp only[BT.f6,BT.dg,BT.cL,BT.bS,BT.f7,BT.f9,BT.dh,BT.dj,BT.gc,BT.eW,BT.gf] at e3
 cases e3
 cases r1.int;cases r2.int
 exact Fc zt s σ H _ _ _ _ Q I rv ru ⟨_,_,rfl,rfl,zr.here R (.int _)⟩
theorem F8:OpR X (Qf .Mod) (rOp X.prog X.w X.K (BT.m8 .mod)):=by
 intro zt s σ H v u v' u' Q I rv ru h
 obtain ⟨m,h,x,y,z,h',R,rx,ry,e,zr⟩:=h
 obtain ⟨d,d',q,e1,e2,e3,rfl,rfl⟩:=iM e
 have r1:=aK R rx e1
 have r2:=aK R ry e2
 cases d<;>cases d'<;>first|(cases e3;done)|simp only[BT.f6,BT.dg,BT.cL,BT.bS,BT.f7,BT.f9,BT.dh,BT.dj,BT.gc,BT.eW,BT.gf] at e3
 split at e3
 ·rename_i c
  cases e3
  cases r1.int;cases r2.int
  exact Fe zt s σ H _ _ _ _ Q I rv ru ⟨_,_,rfl,rfl,c,zr.here R (.int _)⟩
 ·cases e3
theorem Cd:OpR X (Qf .FloorDiv) (rOp X.prog X.w X.K (BT.m8 .fdiv)):=by
 intro zt s σ H v u v' u' Q I rv ru h
 obtain ⟨m,h,x,y,z,h',R,rx,ry,e,zr⟩:=h
 obtain ⟨d,d',q,e1,e2,e3,rfl,rfl⟩:=iM e
 have r1:=aK R rx e1
 have r2:=aK R ry e2
 cases d<;>cases d'<;>first|(cases e3;done)|simp only[BT.f6,BT.dg,BT.cL,BT.bS,BT.f7,BT.f9,BT.dh,BT.dj,BT.gc,BT.eW,BT.gf] at e3
 split at e3
 ·rename_i c
  simp only[OQ,decide_eq_true_eq] at c
  cases e3
  cases r1.int;cases r2.int
  exact Bm zt s σ H _ _ _ _ Q I rv ru ⟨_,_,rfl,rfl,⟨c.1,c.2⟩,zr.here R (.int _)⟩
 ·cases e3
theorem oY {i:Int} (h:BT.big i=true):-(2 ^ 64) < i/\i < 2 ^ 64:=by
 unfold BT.big at h
 have:=of_decide_eq_true h
 lia
theorem F9:OpR X (Qf .Pow) (rOp X.prog X.w X.K (BT.m8 .pow)):=by
 intro zt s σ H v u v' u' Q I rv ru h
 obtain ⟨m,h,x,y,z,h',R,rx,ry,e,zr⟩:=h
 obtain ⟨d,d',q,e1,e2,e3,rfl,rfl⟩:=iM e
 have r1:=aK R rx e1
 have r2:=aK R ry e2
 cases d<;>cases d'<;>first|(cases e3;done)|simp only[BT.f6,BT.dg,BT.cL,BT.bS,BT.f7,BT.f9,BT.dh,BT.dj,BT.gc,BT.eW,BT.gf] at e3
 split at e3
 ·rename_i c
  simp only[OQ,decide_eq_true_eq] at c
  cases e3
  cases r1.int;cases r2.int
  refine Ff zt s σ H _ _ _ _ Q I rv ru ⟨_,_,rfl,rfl,⟨c.1.1,by lia,?_⟩,zr.here R (.int _)⟩
  exact of_decide_eq_true c.2
 ·cases e3
theorem vX {a:OR}{t:Tok} (I:Inv X zt σ H s) (ha:SqT X.K H a xs) (h1:2<=k) (h2:k<=1000) (hne:xs≠[]) (hz:xs.length*k.toNat<=sizeLine)
 (q:∀ p,H p=none->Q (.ref p) (upd H p (.tup (O7 k.toNat xs).flatten))):wpAny (Pc X.prog X.w) X.A (Qf .Mult (.ref a) (.int k t)) (EP X zt σ Q) X.xe s:=by
 obtain ⟨its,r,p,_⟩:=I.tuple ha
 obtain ⟨⟨cls,dd,data,sl⟩,e,hc,n,hd⟩:=id p
 simp only at hc hd
 subst hc hd
 have hl:=r.length
 have hlen:its.toArray.size*k.toNat<=sizeLine:=by rw[OT,← hl];exact hz
 have f0:T5 (fun x1 x2=>x1++x2) #[] (O7 k.toNat its.toArray)=(O7 k.toNat its).flatten.toArray:=by
  have:=foldl_rep its k.toNat []
  rw[Q5] at this
  exact this
 have hi:¬ its.toArray.isEmpty=true:=by
  intro z
  have z2:its=[]:=by simpa using z
  exact hne (r.jt.mp z2)
 refine Uy (T:="tuple") (U:="int") (by decide) ⟨_,e,rfl⟩ (fun s'=>typeIs_int s' k t) jU F.fills_int_mul F.slot_int_rmul oW F.slot_int_index.lookup
  (QU F.slot_int_rmul (typeIs_int s k t) F.entry_int_rmul (F.args_int_rmul_2 _ _) (lU k t a its.toArray n dd sl)
   ⟨e,rfl,⟨_,e,rfl⟩,QU F.slot_tuple_mul ⟨_,e,rfl⟩ F.entry_tuple_mul (F.args_tuple_mul_2 _ _) (sA a its.toArray n dd sl k t (by lia) h2 hi (by lia) (by lia) hlen) ⟨e,?_⟩⟩)
 rw[f0]
 have hf:H s.heap.objs.size=none:=I.hok.fresh (OX _)
 refine ⟨.ref s.heap.objs.size,_,I.laid (t':=s.toks) (o:=.tup (O7 k.toNat xs).flatten) (fun b ob q=>OS _ q) (OX _) ?_,rfl,q _ hf⟩
 exact ⟨by rw[len_rep,Q3];exact hz,_,r.rep k.toNat,IsTup.new _ _⟩
theorem yG {t:Tok} (I:Inv X zt σ H s) (hH:LL X.K H l xs) (h1:-(2 ^ 63)<=k) (h2:k<=1000) (hz:xs.length*k.toNat<=sizeLine)
 (q:∀ p,H p=none->Q (.ref p) (upd H p (.lst (O7 k.toNat xs).flatten))):wpAny (Pc X.prog X.w) X.A (Qf .Mult (.ref l) (.int k t)) (EP X zt σ Q) X.xe s:=by
 have h2':k < 2 ^ 63:=by lia
 obtain ⟨z,its,n,r,hl,e⟩:=rdL I hH
 have hlen:its.toArray.size*k.toNat<=sizeLine:=by rw[OT,← hl];exact hz
 have hcap:¬ its.toArray.size*k.toNat > (2 ^ 63 - 1) / 8:=by
  have:(sizeLine:Nat)<=(2 ^ 63 - 1) / 8:=by decide
  lia
 have hfit:¬ (!Builtin.List.listFitsIndex k)=true:=by
  rw[fitsIndex_both h1 h2']
  exact Qc
 have hlong:¬ P9 (its.toArray.size*k.toNat)=true:=by
  rw[lF hlen]
  exact Qc
 have hnew:T5 (fun x1 x2=>x1++x2) #[] (O7 (if its.toArray.isEmpty=true then 0 else k.toNat) its.toArray)=(O7 k.toNat its).flatten.toArray:=by
  have f0:∀ m:Nat,T5 (fun x1 x2=>x1++x2) #[] (O7 m its.toArray)=(O7 m its).flatten.toArray:=fun m=>by
   have:=foldl_rep its m []
   rw[Q5] at this
   exact this
  rw[f0]
  cases its with
  | nil=>simp
  | cons a r'=>rw[if_neg (by simp)]
 refine Uy (T:="list") (U:="int") (by decide) ⟨_,e,rfl⟩ (fun s'=>typeIs_int s' k t) noFill_list_mul F.fills_int_mul F.slot_int_rmul repeat_list F.slot_int_index.lookup
  (QU F.slot_int_rmul (typeIs_int s k t) F.entry_int_rmul (F.args_int_rmul_2 _ _) (int___rmul___int_list k t l its.toArray n)
   ⟨e,rfl,⟨_,e,rfl⟩,QU F.slot_list_mul ⟨_,e,rfl⟩ F.entry_list_mul (F.args_list_mul_2 _ _) (AutoListH.list___mul___list_int_3 l its.toArray n k t hfit hcap hlong) ⟨e,?_⟩⟩)
 rw[hnew]
 exact ⟨.ref _,_,I.IV (t':=s.toks) (r.rep k.toNat) (by rw[len_rep,Q3];exact hz),rfl,q _ I.fresh⟩
theorem Ga:OpR X (Qf .Mult) (rOp X.prog X.w X.K (BT.m8 .mul)):=by
 intro zt s σ H v u v' u' Q I rv ru h
 obtain ⟨m,h,x,y,z,h',R,rx,ry,e,zr⟩:=h
 obtain ⟨d,d',q,e1,e2,e3,rfl,rfl⟩:=iM e
 have r1:=aK R rx e1
 have r2:=aK R ry e2
 cases d<;>cases d'<;>first|(cases e3;done)|simp only[BT.f6,BT.dg,BT.cL,BT.bS,BT.f7,BT.f9,BT.dh,BT.dj,BT.gc,BT.eW,BT.gf] at e3
 ·split at e3
  ·rename_i c
   cases e3
   cases r1.int;cases r2.int
   refine Fd zt s σ H _ _ _ _ Q I rv ru ⟨_,_,rfl,rfl,?_,zr.here R (.int _)⟩
   rcases QJ _ _ ▸ c with c|c
   ·exact .inl (oY c)
   ·exact .inr (oY c)
  ·cases e3
 ·split at e3
  ·rename_i c
   simp only[OQ,decide_eq_true_eq] at c
   cases e3
   obtain ⟨a,vs,rfl,ha,ra⟩:=r1.tup
   cases r2.int
   obtain ⟨t,rfl⟩:=ru
   cases rv
   have l1:=ra.length
   have:=cU
   simp only[QM,List.isEmpty_eq_false_iff] at c
   refine vX I ha (by lia) (by lia) (fun z=>?_) (by rw[l1];lia) fun p hp=>jB R hp (ra.rep _) zr
   subst z
   cases ra
   exact c.1.2 rfl
  ·cases e3
 ·split at e3
  ·rename_i c
   simp only[OQ,decide_eq_true_eq] at c
   cases e3
   obtain ⟨a,vs,rfl,ha,ra⟩:=r1.lst
   cases r2.int
   obtain ⟨t,rfl⟩:=ru
   cases rv
   have l1:=ra.length
   have:=cU
   refine yG I ha (by lia) (by lia) (by rw[l1];lia) fun p hp=>jC R hp (ra.rep _) zr
  ·cases e3
end
mutual
noncomputable def pd:BT.D->PyData
 | .non=>.none
 | .bl b=>.bool b
 | .int i=>.int i
 | .str x=>.str x
 | .tup xs=>.tuple (pds xs)
 | .lst xs=>.list (pds xs)
noncomputable def pds:List BT.D->List PyData
 | []=>[]
 | x :: r=>pd x :: pds r
end
mutual
theorem lV:∀ x y:BT.D,PyData.eqv (pd x) (pd y)=BT.eqv x y
 | .non,.non=>rfl
 | .non,.bl _=>rfl
 | .non,.int _=>rfl
 | .non,.str _=>rfl
 | .non,.tup _=>by simp[pd,PyData.eqv,BT.eqv]
 | .non,.lst _=>by simp[pd,PyData.eqv,BT.eqv]
 | .bl _,.non=>rfl
 | .bl _,.bl _=>rfl
 | .bl _,.int _=>rfl
 | .bl _,.str _=>rfl
 | .bl _,.tup _=>by simp[pd,PyData.eqv,BT.eqv]
 | .bl _,.lst _=>by simp[pd,PyData.eqv,BT.eqv]
 | .int _,.non=>rfl
 | .int _,.bl _=>rfl
 | .int _,.int _=>rfl
 | .int _,.str _=>rfl
 | .int _,.tup _=>by simp[pd,PyData.eqv,BT.eqv]
 | .int _,.lst _=>by simp[pd,PyData.eqv,BT.eqv]
 | .str _,.non=>rfl
 | .str _,.bl _=>rfl
 | .str _,.int _=>rfl
 | .str _,.str _=>rfl
 | .str _,.tup _=>by simp[pd,PyData.eqv,BT.eqv]
 | .str _,.lst _=>by simp[pd,PyData.eqv,BT.eqv]
 | .tup _,.non=>by simp[pd,PyData.eqv,BT.eqv]
 | .tup _,.bl _=>by simp[pd,PyData.eqv,BT.eqv]
 | .tup _,.int _=>by simp[pd,PyData.eqv,BT.eqv]
 | .tup _,.str _=>by simp[pd,PyData.eqv,BT.eqv]
 | .tup xs,.tup ys=>by simp only[pd,PyData.eqv,BT.eqv];exact oZ xs ys
 | .tup _,.lst _=>by simp[pd,PyData.eqv,BT.eqv]
 | .lst _,.non=>by simp[pd,PyData.eqv,BT.eqv]
 | .lst _,.bl _=>by simp[pd,PyData.eqv,BT.eqv]
 | .lst _,.int _=>by simp[pd,PyData.eqv,BT.eqv]
 | .lst _,.str _=>by simp[pd,PyData.eqv,BT.eqv]
 | .lst _,.tup _=>by simp[pd,PyData.eqv,BT.eqv]
 | .lst xs,.lst ys=>by simp only[pd,PyData.eqv,BT.eqv];exact oZ xs ys
theorem oZ:∀ xs ys:List BT.D,PyData.eqvAll (pds xs) (pds ys)=BT.m7 xs ys
 | [],[]=>by simp[pds,PyData.eqvAll,BT.m7]
 | [],_ :: _=>by simp[pds,PyData.eqvAll,BT.m7]
 | _ :: _,[]=>by simp[pds,PyData.eqvAll,BT.m7]
 | x :: xs,y :: ys=>by simp only[pds,PyData.eqvAll,BT.m7];rw[lV x y,oZ xs ys]
end
theorem iw {n:Nat}:∀ {xs:List BT.D},(∀ x∈xs,(pd x).depth<=n)->PyData.depthAll (pds xs)<=n
 | [],_=>by simp[pds,PyData.depthAll]
 | x :: xs,h=>by
  simp only[pds,PyData.depthAll]
  exact Nat.max_le.mpr ⟨h x Pj,iw fun y hy=>h y (O8 _ hy)⟩
theorem iO:∀ (n:Nat) (d:BT.D),BT.dok n d=true->(pd d).depth<=n
 | n,.non,_=>by simp[pd,PyData.depth]
 | n,.bl _,_=>by simp[pd,PyData.depth]
 | n,.int _,_=>by simp[pd,PyData.depth]
 | n,.str _,_=>by simp[pd,PyData.depth]
 | 0,.tup _,h=>by simp[BT.dok] at h
 | 0,.lst _,h=>by simp[BT.dok] at h
 | n+1,.tup xs,h=>by
  simp only[pd,PyData.depth]
  rw[BT.tW,Qn] at h
  exact Nat.succ_le_succ (iw fun x hx=>iO n x (h x hx))
 | n+1,.lst xs,h=>by
  simp only[pd,PyData.depth]
  rw[BT.tX,Qn] at h
  exact Nat.succ_le_succ (iw fun x hx=>iO n x (h x hx))
section
variable {X:Cx}{zt:List (OR×Obj)}{σ:L2.St}{s:OP}{K:OM}{m:List OR}{H:Hp}
mutual
theorem eZ:∀ {v:V}{d:BT.D},RD K m H v d->(pd d).canLay0=true
 | _,_,.non=>rfl
 | _,_,.bl _=>rfl
 | _,_,.int _=>rfl
 | _,_,.str _ h=>by simpa [pd,PyData.canLay0] using h
 | _,_,.tup _ r=>by simp only[pd,PyData.canLay0];exact gA r
 | _,_,.lst _ r=>by simp only[pd,PyData.canLay0];exact gA r
theorem gA:∀ {vs:List V}{ds:List BT.D},RDs K m H vs ds->PyData.canLayAll0 (pds ds)=true
 | _,_,.nil=>by simp[pds,PyData.canLayAll0]
 | _,_,.cons r t=>by simp only[pds,PyData.canLayAll0];rw[eZ r,gA t];rfl
end
mutual
theorem iy (I:Inv X zt σ H s):∀ {v:V}{d:BT.D}{u:Value},RD X.K m H v d->RelV v u->∃ as,Reads s.heap u (pd d) as
 | _,_,_,.non,r=>by cases r;exact ⟨_,.none⟩
 | _,_,_,.bl b,r=>by cases r;exact ⟨_,.bool b⟩
 | _,_,_,.int i,r=>by obtain ⟨t,rfl⟩:=r;exact ⟨_,.int i t⟩
 | _,_,_,.str x _,r=>by obtain ⟨t,rfl⟩:=r;exact ⟨_,.str x t⟩
 | _,_,_,.tup h r,q=>by
  cases q
  obtain ⟨its,r1,⟨o,e1,e2,n,e3⟩,_⟩:=I.tuple (h.elim (fun q=>.inl q.1) (fun ⟨o,its,n,q,_⟩=>.inr ⟨o,its,n,q⟩))
  obtain ⟨as,ra⟩:=iP I r r1
  exact ⟨_,.tuple e1 e2 e3 (by simpa using ra)⟩
 | _,_,_,.lst h r,q=>by
  cases q
  obtain ⟨z,its,n,r1,_,e⟩:=rdL I (h.elim (fun q=>.inl q.1) .inr)
  obtain ⟨as,ra⟩:=iP I r r1
  exact ⟨_,.list e rfl rfl (by simpa using ra)⟩
theorem iP (I:Inv X zt σ H s):∀ {vs:List V}{ds:List BT.D}{us:List Value},RDs X.K m H vs ds->az vs us->∃ as,ReadsAll s.heap us (pds ds) as
 | _,_,_,.nil,q=>by cases q;exact ⟨_,.nil⟩
 | _,_,_,.cons r t,q=>by
  cases q with
  | cons q1 q2 =>
   obtain ⟨as,ra⟩:=iy I r q1
   obtain ⟨bs,rb⟩:=iP I t q2
   exact ⟨_,.cons ra rb⟩
end
theorem iz (I:Inv X zt σ H s) {u:Value} (r:RR X.K m H v d) (q:RelV v u):∃ as,Reads s.heap u (pd d) as:=by
 cases r with
 | d r=>exact iy I r q
 | l h r =>
  cases q
  obtain ⟨z,its,n,r1,_,e⟩:=rdL I (.inl (.inl h))
  obtain ⟨as,ra⟩:=iP I r r1
  exact ⟨_,.list e rfl rfl (by simpa using ra)⟩
theorem gn  (r:RR K m H v d):(pd d).canLay0=true:=by
 cases r with
 | d r=>exact eZ r
 | l h r=>simp only[pd,PyData.canLay0];exact gA r
theorem o4 {x y:BT.D} (h:BT.aV x y=true):min (pd x).depth (pd y).depth<=100:=by
 unfold BT.aV at h
 rcases QJ _ _ ▸ h with h|h
 ·have:=iO 100 x h;lia
 ·have:=iO 100 y h;lia
theorem dI {o:BT.Cm} (e:BT.gP o x y h=some (z,h')) :
 (∃ kvs b,y=.k kvs/\BT.inK o x kvs=some b/\z=.p (.bl b)/\h'=h)\/∃ d d' b,BT.rd x h=some d/\BT.rd y h=some d'/\BT.dX o d d'=some b/\z=.p (.bl b)/\h'=h:=by
 unfold BT.gP at e
 split at e
 ·rename_i kvs
  obtain ⟨b,e1,e2⟩:=aC e
  cases e2
  exact .inl ⟨kvs,b,rfl,e1,rfl,rfl⟩
 ·refine .inr ?_
  cases e1:BT.rd x h with
  | none=>rw[e1] at e;cases e
  | some d =>
   cases e2:BT.rd y h with
   | none=>rw[e1,e2] at e;cases e
   | some d' =>
    rw[e1,e2] at e
    obtain ⟨q,eq,er⟩:=aC e
    cases er
    exact ⟨d,d',q,rfl,rfl,eq,rfl,rfl⟩
theorem JO (hu:X.A.units+150 < Uz):OpR X (PU .Eq) (rOp X.prog X.w X.K (BT.gP .eq)):=by
 intro zt s σ H v u v' u' Q I rv ru h
 obtain ⟨m,h,x,y,z,h',R,rx,ry,e,zr⟩:=h
 rcases dI e with ⟨kvs,b,rfl,e1,_,_⟩|⟨d,d',b,e1,e2,e3,rfl,rfl⟩
 ·cases x with
  | p d=>cases d<;>exact ai e1
  | _=>exact ai e1
 ·have r1:=aK R rx e1
  have r2:=aK R ry e2
  rw[BT.tY] at e3
  split at e3
  ·rename_i c
   cases e3
   obtain ⟨as,ra⟩:=iz I r1 rv
   obtain ⟨bs,rb⟩:=iz I r2 ru
   have:=o4 c
   refine SeqAt.compareEq_reads ra rb (gn r1) (gn r2) (by lia) ?_
   rw[lV]
   exact ⟨.bl _,H,I,rfl,zr.here R (.bl _)⟩
  ·cases e3
theorem JP (hu:X.A.units+150 < Uz):OpR X (PU .NotEq) (rOp X.prog X.w X.K (BT.gP .ne)):=by
 intro zt s σ H v u v' u' Q I rv ru h
 obtain ⟨m,h,x,y,z,h',R,rx,ry,e,zr⟩:=h
 rcases dI e with ⟨kvs,b,rfl,e1,_,_⟩|⟨d,d',b,e1,e2,e3,rfl,rfl⟩
 ·cases x with
  | p d=>cases d<;>exact ai e1
  | _=>exact ai e1
 ·have r1:=aK R rx e1
  have r2:=aK R ry e2
  rw[BT.dG] at e3
  split at e3
  ·rename_i c
   cases e3
   obtain ⟨as,ra⟩:=iz I r1 rv
   obtain ⟨bs,rb⟩:=iz I r2 ru
   have:=o4 c
   refine SeqAt.compareNe_reads ra rb (gn r1) (gn r2) (by lia) ?_
   rw[lV]
   exact ⟨.bl _,H,I,rfl,zr.here R (.bl _)⟩
  ·cases e3
theorem JQ:OpR X (PU .Lt) (rOp X.prog X.w X.K (BT.gP .lt)):=by
 intro zt s σ H v u v' u' Q I rv ru h
 obtain ⟨m,h,x,y,z,h',R,rx,ry,e,zr⟩:=h
 rcases dI e with ⟨kvs,b,rfl,e1,_,_⟩|⟨d,d',b,e1,e2,e3,rfl,rfl⟩
 ·cases x with
  | p d=>cases d<;>exact ai e1
  | _=>exact ai e1
 ·have r1:=aK R rx e1
  have r2:=aK R ry e2
  cases d<;>cases d'<;>first|(cases e3;done)|simp only[BT.fF,BT.fG,BT.fH,BT.fJ,BT.dP,BT.cQ,BT.bI,BT.bT,BT.bG,BT.bH] at e3
  cases e3
  cases r1.int;cases r2.int
  exact II zt s σ H _ _ _ _ Q I rv ru ⟨_,_,rfl,rfl,zr.here R (.bl _)⟩
theorem JR:OpR X (PU .LtE) (rOp X.prog X.w X.K (BT.gP .le)):=by
 intro zt s σ H v u v' u' Q I rv ru h
 obtain ⟨m,h,x,y,z,h',R,rx,ry,e,zr⟩:=h
 rcases dI e with ⟨kvs,b,rfl,e1,_,_⟩|⟨d,d',b,e1,e2,e3,rfl,rfl⟩
 ·cases x with
  | p d=>cases d<;>exact ai e1
  | _=>exact ai e1
 ·have r1:=aK R rx e1
  have r2:=aK R ry e2
  cases d<;>cases d'<;>first|(cases e3;done)|simp only[BT.fF,BT.fG,BT.fH,BT.fJ,BT.dP,BT.cQ,BT.bI,BT.bT,BT.bG,BT.bH] at e3
  cases e3
  cases r1.int;cases r2.int
  exact IJ zt s σ H _ _ _ _ Q I rv ru ⟨_,_,rfl,rfl,zr.here R (.bl _)⟩
theorem JS:OpR X (PU .Gt) (rOp X.prog X.w X.K (BT.gP .gt)):=by
 intro zt s σ H v u v' u' Q I rv ru h
 obtain ⟨m,h,x,y,z,h',R,rx,ry,e,zr⟩:=h
 rcases dI e with ⟨kvs,b,rfl,e1,_,_⟩|⟨d,d',b,e1,e2,e3,rfl,rfl⟩
 ·cases x with
  | p d=>cases d<;>exact ai e1
  | _=>exact ai e1
 ·have r1:=aK R rx e1
  have r2:=aK R ry e2
  cases d<;>cases d'<;>first|(cases e3;done)|simp only[BT.fF,BT.fG,BT.fH,BT.fJ,BT.dP,BT.cQ,BT.bI,BT.bT,BT.bG,BT.bH] at e3
  cases e3
  cases r1.int;cases r2.int
  exact IK zt s σ H _ _ _ _ Q I rv ru ⟨_,_,rfl,rfl,zr.here R (.bl _)⟩
theorem JT:OpR X (PU .GtE) (rOp X.prog X.w X.K (BT.gP .ge)):=by
 intro zt s σ H v u v' u' Q I rv ru h
 obtain ⟨m,h,x,y,z,h',R,rx,ry,e,zr⟩:=h
 rcases dI e with ⟨kvs,b,rfl,e1,_,_⟩|⟨d,d',b,e1,e2,e3,rfl,rfl⟩
 ·cases x with
  | p d=>cases d<;>exact ai e1
  | _=>exact ai e1
 ·have r1:=aK R rx e1
  have r2:=aK R ry e2
  cases d<;>cases d'<;>first|(cases e3;done)|simp only[BT.fF,BT.fG,BT.fH,BT.fJ,BT.dP,BT.cQ,BT.bI,BT.bT,BT.bG,BT.bH] at e3
  cases e3
  cases r1.int;cases r2.int
  exact IL zt s σ H _ _ _ _ Q I rv ru ⟨_,_,rfl,rfl,zr.here R (.bl _)⟩
theorem ug  (r:RR K m H v d):decide (v=.non)=BT.gY d:=by
 cases r with
 | d r=>cases r<;>rfl
 | l h r=>rfl
theorem Gb:OpR X (PU .Is) (rOp X.prog X.w X.K (BT.gP .isN)):=by
 intro zt s σ H v u v' u' Q I rv ru h
 obtain ⟨m,h,x,y,z,h',R,rx,ry,e,zr⟩:=h
 rcases dI e with ⟨kvs,b,rfl,e1,_,_⟩|⟨d,d',b,e1,e2,e3,rfl,rfl⟩
 ·cases x with
  | p d=>cases d<;>exact ai e1
  | _=>exact ai e1
 ·have r1:=aK R rx e1
  have r2:=aK R ry e2
  cases d'<;>first|(cases e3;done)|simp only[BT.fF,BT.fG,BT.fH,BT.fJ,BT.dP,BT.cQ,BT.bI,BT.bT,BT.bG,BT.bH] at e3
  cases e3
  cases r2.non
  refine Fg zt s σ H _ _ _ _ Q I rv ru ⟨rfl,?_⟩
  rw[ug r1]
  exact zr.here R (.bl _)
theorem Ce:OpR X (PU .IsNot) (rOp X.prog X.w X.K (BT.gP .notN)):=by
 intro zt s σ H v u v' u' Q I rv ru h
 obtain ⟨m,h,x,y,z,h',R,rx,ry,e,zr⟩:=h
 rcases dI e with ⟨kvs,b,rfl,e1,_,_⟩|⟨d,d',b,e1,e2,e3,rfl,rfl⟩
 ·cases x with
  | p d=>cases d<;>exact ai e1
  | _=>exact ai e1
 ·have r1:=aK R rx e1
  have r2:=aK R ry e2
  cases d'<;>first|(cases e3;done)|simp only[BT.fF,BT.fG,BT.fH,BT.fJ,BT.dP,BT.cQ,BT.bI,BT.bT,BT.bG,BT.bH] at e3
  cases e3
  cases r2.non
  refine Bo zt s σ H _ _ _ _ Q I rv ru ⟨rfl,?_⟩
  rw[ug r1]
  exact zr.here R (.bl _)
open Classical in
noncomputable def cg (h:Heap) (dx:PyData) (y:Value):Bool:=if q:∃ db as,Reads h y db as/\db.canLay0=true then PyData.eqv (Classical.choose q) dx else false
theorem sC {h:Heap}{dx db:PyData}{y:Value}{as:List OR} (r:Reads h y db as) (c:db.canLay0=true):cg h dx y=PyData.eqv db dx:=by
 have q:∃ db as,Reads h y db as/\db.canLay0=true:=⟨db,as,r,c⟩
 unfold cg
 rw[dif_pos q]
 obtain ⟨as',r',c'⟩:=Classical.choose_spec q
 rw[SeqAt.Reads.unique _ _ _ _ _ c r r']
theorem jD (I:Inv X zt σ H s) {d:BT.D}:∀ {vs:List V}{ds:List BT.D}{us:List Value},RDs X.K m H vs ds->az vs us->us.any (cg s.heap (pd d))=ds.any fun y=>BT.eqv y d
 | _,_,_,.nil,q=>by cases q;rfl
 | _,_,_,.cons r t,q=>by
  cases q with
  | cons q1 q2 =>
   obtain ⟨as,ra⟩:=iy I r q1
   rw[List.any_cons,List.any_cons,jD I t q2,sC ra (eZ r),lV]
theorem fL (hu:X.A.units+150 < Uz) (I:Inv X zt σ H s) {v:V}{d:BT.D}{u:Value} (rx:RR X.K m H v d) (rv:RelV v u):∀ {vs:List V}{ds:List BT.D}{us:List Value},RDs X.K m H vs ds->az vs us->(ds.all fun y=>BT.aV y d)=true →
 ∀ y∈us,SeqAt.EqAt X.A.in1 s y u (cg s.heap (pd d) y)
 | _,_,_,.nil,q,_=>by cases q;intro y hy;simp at hy
 | _,_,_,.cons r t,q,c=>by
  cases q with
  | cons q1 q2 =>
   rw[Ub,OQ] at c
   intro y hy
   rcases List.mem_cons.mp hy with rfl|hy
   ·obtain ⟨as,ra⟩:=iy I r q1
    obtain ⟨bs,rb⟩:=iz I rx rv
    rw[sC ra (eZ r)]
    have:=o4 c.1
    refine SeqAt.eqAt_reads _ _ _ _ _ _ _ _ ra rb (eZ r) (gn rx) ?_
    show X.A.units+1+_ < _
    lia
   ·exact fL hu I rx rv t q2 c.2 y hy
theorem Gc (hu:X.A.units+150 < Uz) (hk:∀ {kvs:List (Str×BT.D)}{x:BT.W}{b:Bool}{m:List OR}{H:Hp}{v u:V}{v' u':Value}{zt σ s Q},Inv X zt σ H s->RelV v v'->RelV u u'->RW X.prog X.w X.K m H v x->RW X.prog X.w X.K m H u (.k kvs)->BT.inK .mem x kvs=some b->Q (V.bl b) H →
 wpAny (Pc X.prog X.w) X.A (PU .In v' u') (EP X zt σ Q) X.xe s):OpR X (PU .In) (rOp X.prog X.w X.K (BT.gP .mem)):=by
 intro zt s σ H v u v' u' Q I rv ru h
 obtain ⟨m,h,x,y,z,h',R,rx,ry,e,zr⟩:=h
 rcases dI e with ⟨kvs,b,rfl,e1,rfl,rfl⟩|⟨d,d',b,e1,e2,e3,rfl,rfl⟩
 ·exact hk I rv ru rx ry e1 (zr.here R (.bl _))
 ·have r1:=aK R rx e1
  have r2:=aK R ry e2
  cases d'<;>first|(cases e3;done)|simp only[BT.fF,BT.fG,BT.fH,BT.fJ,BT.dP,BT.cQ,BT.bI,BT.bT,BT.bG,BT.bH] at e3
  ·split at e3
   ·rename_i c
    cases e3
    obtain ⟨a,vs,rfl,ha,ra⟩:=r2.tup
    cases ru
    obtain ⟨its,q1,q2,_⟩:=I.tuple ha
    refine SeqAt.in_tupleAt (cg s.heap (pd d)) q2 (fun y hy=>fL hu I r1 rv ra q1 c y (by simpa using hy)) ⟨.bl _,H,I,rfl,?_⟩
    rw[show its.toArray.any (cg s.heap (pd d))=its.any (cg s.heap (pd d)) by simp,jD I ra q1]
    exact zr.here R (.bl _)
   ·cases e3
  ·split at e3
   ·rename_i c
    cases e3
    obtain ⟨a,vs,rfl,ha,ra⟩:=r2.lst
    cases ru
    obtain ⟨z,its,n,q1,_,q2⟩:=rdL I ha
    refine SeqAt.in_listAt (cg s.heap (pd d)) ⟨_,q2,rfl,_,rfl⟩ (fun y hy=>fL hu I r1 rv ra q1 c y (by simpa using hy)) ⟨.bl _,H,I,rfl,?_⟩
    rw[show its.toArray.any (cg s.heap (pd d))=its.any (cg s.heap (pd d)) by simp,jD I ra q1]
    exact zr.here R (.bl _)
   ·cases e3
theorem Cf (hu:X.A.units+150 < Uz) (hk:∀ {kvs:List (Str×BT.D)}{x:BT.W}{b:Bool}{m:List OR}{H:Hp}{v u:V}{v' u':Value}{zt σ s Q},Inv X zt σ H s->RelV v v'->RelV u u'->RW X.prog X.w X.K m H v x->RW X.prog X.w X.K m H u (.k kvs)->BT.inK .nmem x kvs=some b->Q (V.bl b) H →
 wpAny (Pc X.prog X.w) X.A (PU .NotIn v' u') (EP X zt σ Q) X.xe s):OpR X (PU .NotIn) (rOp X.prog X.w X.K (BT.gP .nmem)):=by
 intro zt s σ H v u v' u' Q I rv ru h
 obtain ⟨m,h,x,y,z,h',R,rx,ry,e,zr⟩:=h
 rcases dI e with ⟨kvs,b,rfl,e1,rfl,rfl⟩|⟨d,d',b,e1,e2,e3,rfl,rfl⟩
 ·exact hk I rv ru rx ry e1 (zr.here R (.bl _))
 ·have r1:=aK R rx e1
  have r2:=aK R ry e2
  cases d'<;>first|(cases e3;done)|simp only[BT.fF,BT.fG,BT.fH,BT.fJ,BT.dP,BT.cQ,BT.bI,BT.bT,BT.bG,BT.bH] at e3
  ·split at e3
   ·rename_i c
    cases e3
    obtain ⟨a,vs,rfl,ha,ra⟩:=r2.tup
    cases ru
    obtain ⟨its,q1,q2,_⟩:=I.tuple ha
    refine SeqAt.notIn_tupleAt (cg s.heap (pd d)) q2 (fun y hy=>fL hu I r1 rv ra q1 c y (by simpa using hy)) ⟨.bl _,H,I,rfl,?_⟩
    rw[show its.toArray.any (cg s.heap (pd d))=its.any (cg s.heap (pd d)) by simp,jD I ra q1]
    exact zr.here R (.bl _)
   ·cases e3
  ·split at e3
   ·rename_i c
    cases e3
    obtain ⟨a,vs,rfl,ha,ra⟩:=r2.lst
    cases ru
    obtain ⟨z,its,n,q1,_,q2⟩:=rdL I ha
    refine SeqAt.notIn_listAt (cg s.heap (pd d)) ⟨_,q2,rfl,_,rfl⟩ (fun y hy=>fL hu I r1 rv ra q1 c y (by simpa using hy)) ⟨.bl _,H,I,rfl,?_⟩
    rw[show its.toArray.any (cg s.heap (pd d))=its.any (cg s.heap (pd d)) by simp,jD I ra q1]
    exact zr.here R (.bl _)
   ·cases e3
end
section
variable {X:Cx}
theorem RDs.atI {K:OM}{m:List OR}{H:Hp}{vs:List V}{ds:List BT.D}{i:Int}{d:BT.D} (r:RDs K m H vs ds) (e:BT.atP ds i=some d):∃ v,L2.atI vs i=some v/\RD K m H v d:=by
 unfold BT.atP at e
 unfold L2.atI
 obtain ⟨j,h1,h2⟩:=Option.bind_eq_some_iff.mp e
 obtain ⟨v,q1,q2⟩:=r.get h2
 refine ⟨v,?_,q2⟩
 rw[r.length]
 show ((BT.place ds.length i).bind fun j=>vs[j]?)=some v
 rw[h1]
 exact q1
theorem Cg  (e:BT.BY x y h=some (z,h')) :
 (∃ kvs k d,x=.k kvs/\y=.p (.str k)/\BT.c9 k kvs=some d/\z=.p d/\h'=h)\/∃ d d' b,BT.rd x h=some d/\BT.rd y h=some d'/\BT.aA d d'=some b/\z=.p b/\h'=h:=by
 unfold BT.BY at e
 split at e
 ·rename_i kvs
  obtain ⟨b,e1,e2⟩:=aC e
  cases e2
  cases y with
  | p d =>
   cases d<;>simp only[BT.atK] at e1<;>try contradiction
   exact .inl ⟨kvs,_,b,rfl,rfl,e1,rfl,rfl⟩
  | _=>simp[BT.atK] at e1
 ·refine .inr ?_
  cases e1:BT.rd x h with
  | none=>rw[e1] at e;cases e
  | some d =>
   cases e2:BT.rd y h with
   | none=>rw[e1,e2] at e;cases e
   | some d' =>
    rw[e1,e2] at e
    obtain ⟨q,eq,er⟩:=aC e
    cases er
    exact ⟨d,d',q,rfl,rfl,eq,rfl,rfl⟩
theorem yH {K:OM}{k:Str}{d:BT.D}:∀ {es:List (Str×V)}{kvs:List (Str×BT.D)}{vs:List (Key×Value)},RDk K es kvs->KV (es.map fun q=>((Sum.inr q.1:Key),q.2)) vs->BT.c9 k kvs=some d →
 ∃ u v,valueAt vs (Sum.inr k)=some u/\RelV v u/\∀ m H,RD K m H v d
 | _,_,_,.nil,_,e=>by simp[BT.c9] at e
 | _,_,_,@RDk.cons _ x v dd es kvs r t,q,e=>by
  cases q with
  | @cons p z l1 l2 q1 q2 =>
   obtain ⟨z1,z2⟩:=z
   obtain ⟨q11,q12⟩:=q1
   simp only at q11 q12
   subst q11
   rw[BT.c9] at e
   by_cases c:k=x
   ·rw[if_pos c] at e
    cases e
    subst c
    exact ⟨z2,v,by simp[valueAt],q12,r⟩
   ·rw[if_neg c] at e
    obtain ⟨u,v',h1,h2,h3⟩:=yH t q2 e
    refine ⟨u,v',?_,h2,h3⟩
    have ne:¬ ((Sum.inr x:Key)=Sum.inr k):=fun z=>c (Sum.inr.inj z).symm
    simp only[valueAt] at h1 ⊢
    rw[Ul (by simpa using ne)]
    exact h1
theorem vY {x:Str}{c:Nat} (h:PyData.strOk x=true) (hc:c∈x.cps.toList):PyData.strOk ⟨#[c]⟩=true:=by
 simp only[PyData.strOk,Array.all_eq_true_iff_forall_mem] at h ⊢
 intro y hy
 simp at hy
 subst hy
 exact h y (by simpa using hc)
theorem Gd:IxR X (rOp X.prog X.w X.K BT.BY):=by
 intro value slice zt s σ H v u v' u' Q I rv ru h hs
 obtain ⟨m,h,x,y,z,h',R,rx,ry,e,zr⟩:=h
 rcases Cg e with ⟨kvs,k,d,rfl,rfl,e1,rfl,rfl⟩|⟨d,d',b,e1,e2,e3,rfl,rfl⟩
 ·cases rx with
  | @k a es _ kd rk =>
   cases rv
   cases ry with
   | p ry =>
    cases ry with
    | str _ ok =>
     obtain ⟨t,rfl⟩:=ru
     obtain ⟨hm,vs,kv,dd⟩:=kd
     obtain ⟨w',z,h1,h2,h3⟩:=yH rk kv e1
     have D:=dd s.heap I.kIn
     refine tail_any (ops:=[.ref a,.str k t]) D.typeIs slot_dict_getitem.lookup ?_ hs
     exact wpAny_getItem_of (knd:=cT X.prog X.w) (gR _ _ k t) D.mapOf h1 ⟨z,H,I.tok _,h2,zr.here R (h3 _ _)⟩
 ·have r1:=aK R rx e1
  have r2:=aK R ry e2
  cases d<;>cases d'<;>first|(cases e3;done)|simp only[BT.aB,BT.bq,BT.gZ] at e3
  ·split at e3
   ·rename_i c
    obtain ⟨cc,e4,e5⟩:=aC e3
    subst e5
    obtain ⟨rfl,ok⟩:=r1.str
    cases r2.int
    have:=cU
    refine Fv value slice zt s σ H _ _ _ _ Q I rv ru ⟨_,_,cc,rfl,rfl,by lia,e4,zr.here R (.str _ (vY ok ?_))⟩ hs
    obtain ⟨j,h1,h2⟩:=Option.bind_eq_some_iff.mp e4
    exact O5 h2
   ·cases e3
  ·obtain ⟨a,vs,rfl,ha,ra⟩:=r1.tup
   cases r2.int
   obtain ⟨z,q1,q2⟩:=ra.atI e3
   exact Ft value slice zt s σ H _ _ _ _ Q I rv ru ⟨a,vs,_,z,rfl,rfl,ha,q1,zr.here R q2⟩ hs
  ·obtain ⟨a,vs,rfl,ha,ra⟩:=r1.lst
   cases r2.int
   obtain ⟨z,q1,q2⟩:=ra.atI e3
   exact BB value slice zt s σ H _ _ _ _ Q I rv ru ⟨a,vs,_,z,rfl,rfl,ha.sq,q1,zr.here R q2⟩ hs
theorem jE (n d:Nat) (o:Option Int):BT.clip n d o=HT.sIx n d o:=by
 cases o with
 | none=>rfl
 | some v =>
  simp only[BT.clip,HT.sIx]
  split
  ·rfl
  ·split
   ·lia
   ·lia
theorem nj {prog:OU}{w:Pa}{E:Value->OP->Prop}{t sl:OR}{yn:Array Value}{vl vu:Value}{lo hi:Option Int}{Q:Value->OP->Prop} (ht:IsTup s.heap t yn) (hs:s.heap.IsSliceOf sl vl vu .none) (pl:TZ vl lo) (pu:TZ vu hi)
 (hw:HT.sIx yn.size 0 lo=0/\HT.sIx yn.size yn.size hi=yn.size) (h:Q (.ref t) s):wpAny (Pc prog w) A (TJ (.ref t) (.ref sl)) Q E s:=by
 obtain ⟨os,hos,hcs,hds⟩:=id hs
 have hTs:s.TypeIs (.ref sl) "slice":=⟨os,hos,hcs⟩
 unfold TJ
 try with_reducible refine Q9 ?_
 first|refine OY (wpAny_pure ?_)|skip
 refine OY (wpAny_sequenceKey ht.typeIs (by decide) ?_)
 refine OY (UN (name:=O3 "__getitem__") ht.typeIs Ql
  (wpAny_call_entry Ql ht.typeIs entry_tuple_getitem ?_ (args_tuple_getitem _ _)))
 show wpAny _ _ (Sz (.ref t) >>= _) _ _ s
 refine OY (tupleItemsOf_ ht ?_)
 refine OY (wpAny_typeOf hTs ?_)
 rw[if_pos (by decide)]
 refine OY (HT.fZ hs pl pu ?_)
 have hno:(((HT.sIx yn.size 0 lo:Nat):Int)==0&&(1:Int)==1&&(HT.sIx yn.size yn.size hi - HT.sIx yn.size 0 lo)==yn.size)=true:=by
  rw[hw.1,hw.2];simp
 show wpAny _ _ (if (((HT.sIx yn.size 0 lo:Nat):Int)==0&&(1:Int)==1&&(HT.sIx yn.size yn.size hi - HT.sIx yn.size 0 lo)==yn.size)=true then _ else _) _ _ s
 rw[if_pos hno]
 unfold Builtin.Tuple.tupleIsExact
 refine OY (OY (wpAny_typeOf ht.typeIs (wpAny_pure ?_)))
 rw[if_pos (by decide)]
 refine OY (wpAny_rule ?_)
 first
  | exact wpAny_pure ⟨_,rfl,wpAny_pure h⟩
  | exact wpAny_pure ⟨_,rfl,h⟩
  | exact OY (wpAny_pure (wpAny_pure ⟨_,rfl,wpAny_pure h⟩))
inductive rSl (P:OU) (w:Pa) (K:OM) (v:V) (lo hi:Option Int) (H:Hp) (Q:VK):Prop where
 | mk (m:List OR) (h:BT.HH) (x:BT.W) (d b:BT.D) (R:RH K m H h) (rx:RW P w K m H v x) (e:BT.rd x h=some d) (e2:BT.oM d lo hi=some b) (p:Post P w K m H (.p b) h Q):rSl P w K v lo hi H Q
theorem RDs.cut {K:OM}{m:List OR}{H:Hp}{vs:List V}{ds:List BT.D} (r:RDs K m H vs ds) (lo hi:Option Int):RDs K m H (qe vs lo hi) (BT.cut ds lo hi):=by
 unfold qe BT.cut
 rw[jE,jE,r.length]
 exact (r.drop _).take _
theorem vZ {lo hi:Option Int} (h1:HT.sIx ds.length 0 lo=0) (h2:HT.sIx ds.length ds.length hi=ds.length):BT.cut ds lo hi=ds:=by
 unfold BT.cut
 rw[jE,jE,h1,h2]
 simp
theorem osl:SlR X (rSl X.prog X.w X.K):=by
 intro zt s σ H v v' vl vu lo hi sl Q I rv hs pl pu h
 obtain ⟨m,h,x,d,b,R,rx,e1,e2,zr⟩:=h
 have r1:=aK R rx e1
 cases d<;>simp only[BT.oM] at e2<;>try contradiction
 ·cases e2
  obtain ⟨a,vs,rfl,ha,ra⟩:=r1.tup
  cases rv
  by_cases c:HT.sIx vs.length 0 lo=0/\HT.sIx vs.length vs.length hi=vs.length
  ·obtain ⟨its,q1,q2,_⟩:=I.tuple ha
   have hl:its.toArray.size=vs.length:=by rw[OT];exact q1.length.symm
   refine ⟨"tuple",_,PyProof.Rows.slot_tuple_getitem.lookup,q2.typeIs,nj q2 hs pl pu (by rw[hl];exact c) ⟨.ref a,H,I,rfl,?_⟩⟩
   cases r1 with
   | d r =>
    refine zr.here R ?_
    rw[vZ (by rw[← ra.length];exact c.1) (by rw[← ra.length];exact c.2)]
    exact r
  ·exact Fq zt s σ H (.ref a) (.ref a) vl vu lo hi sl Q I rfl hs pl pu ⟨a,vs,rfl,ha,c,fun p hp=>jB R hp (ra.cut lo hi) zr⟩
 ·cases e2
  obtain ⟨a,vs,rfl,ha,ra⟩:=r1.lst
  exact BD zt s σ H _ _ vl vu lo hi sl Q I rv hs pl pu ⟨a,vs,rfl,ha.sq,fun p hp=>jC R hp (ra.cut lo hi) zr⟩
end
theorem qv (m:BT.Me) (d:BT.D) (as:List BT.W) (h:BT.HH):BT.meW m (.p d) as h=(match BT.aO as with|some ds=>(BT.meD m d ds).map fun x=>(.p x,h)|none=>none):=by cases m<;>rfl
section
variable {X:Cx}
inductive rMe (P:OU) (w:Pa) (K:OM) (me:BT.Me) (v:V) (vs:List V) (H:Hp) (Q:VK):Prop where
 | mk (m:List OR) (h:BT.HH) (x:BT.W) (ws:List BT.W) (z:BT.W) (h':BT.HH) (R:RH K m H h) (rx:RW P w K m H v x) (rs:RWs P w K m H vs ws) (e:BT.meW me x ws h=some (z,h')) (p:Post P w K m H z h' Q):rMe P w K me v vs H Q
theorem getD_some {α:Type}{xs:List α}{n:Nat}{a:α} (h:xs[n]?=some a):n < xs.length:=by
 rcases Pi n xs.length with z|z
 ·exact z
 ·rw[O0 z] at h;cases h
theorem v7:MtR X "list.append" (rMe X.prog X.w X.K .append):=by
 intro zt s σ H v vs v' us Q I rv rus h
 obtain ⟨m,h,x,ws,z,h',R,rx,rws,e,zr⟩:=h
 cases x with
 | p d=>cases ws with
  | nil=>exact ai e
  | cons _ _=>rw[qv] at e;split at e<;>(try cases e)
 | r n =>
  cases rws with
  | nil=>(first|(cases e;done)|simp[BT.meW] at e)
  | @cons y wy _ _ ry t =>
   cases t with
   | cons _ _=>cases ry<;>(first|(cases e;done)|simp[BT.meW] at e)
   | nil =>
    cases ry with
    | p ry =>
     rw[BT.rX] at e
     cases g:BT.lat h n with
     | none=>rw[g] at e;cases e
     | some xs =>
      rw[g] at e
      simp only at e
      split at e
      ·rename_i c
       cases e
       cases rx with
       | @r a _ hn =>
        obtain ⟨us',hH,r⟩:=R.cell n a xs hn g
        have:=cU
        have hl:=r.length
        exact vJ zt s σ H _ _ _ _ Q I rv rus ⟨a,us',y,rfl,rfl,hH,by lia,zr _ _ m (gk (O5 hn) hH) (R.set hn hH (r.append (.cons ry .nil))) (.p .non)⟩
      ·cases e
    | _=>(first|(cases e;done)|simp[BT.meW] at e)
 | _=>(first|(cases e;done)|simp[BT.meW] at e)
theorem yI {α:Type}{xs:List α}{d:α} (h:xs.getLast?=some d):xs[xs.length - 1]?=some d:=by rw[← List.getLast?_eq_getElem?];exact h
theorem Ge:MtR X "list.pop" (rMe X.prog X.w X.K .pop):=by
 intro zt s σ H v vs v' us Q I rv rus h
 obtain ⟨m,h,x,ws,z,h',R,rx,rws,e,zr⟩:=h
 cases x with
 | p d=>cases ws with
  | nil=>exact ai e
  | cons _ _=>rw[qv] at e;split at e<;>(try cases e)
 | r n =>
  cases rws with
  | cons _ _=>(first|(cases e;done)|simp[BT.meW] at e)
  | nil =>
   rw[BT.BU] at e
   cases g:BT.lat h n with
   | none=>rw[g] at e;cases e
   | some xs =>
    rw[g] at e
    simp only at e
    cases gl:xs.getLast? with
    | none=>rw[gl] at e;cases e
    | some d =>
     rw[gl] at e
     cases e
     cases rx with
     | @r a _ hn =>
      obtain ⟨us',hH,r⟩:=R.cell n a xs hn g
      have hl:=r.length
      obtain ⟨y,hy,ry⟩:=r.get (yI gl)
      have x1:Ext m H m (upd H a (.lst us'.dropLast)):=gk (O5 hn) hH
      exact Fy zt s σ H _ _ _ _ Q I rv rus ⟨a,us',y,rfl,rfl,hH,by rw[hl];exact hy,zr _ _ m x1 (R.set hn hH r.dropLast) (.p (ry.ext x1))⟩
 | _=>(first|(cases e;done)|simp[BT.meW] at e)
theorem yJ {b:OR}{zs:List V} (I:Inv X zt σ H s) (hH:H l=some (.lst xs)) (hB:LL X.K H b zs) (hz:xs.length+zs.length<=sizeLine) (q:Q .non (upd H l (.lst (xs++zs)))) :
 wpAny (Pc X.prog X.w) X.A (call (.builtin "list.extend") [.ref l,.ref b]) (EP X zt σ Q) X.xe s:=by
 obtain ⟨z,its,n,r,hl,e⟩:=I.BH hH
 obtain ⟨z2,its2,n2,r2,hl2,e2⟩:=rdL I hB
 have hsz:its.toArray.size+its2.toArray.size<=sizeLine:=by rw[OT,OT];lia
 have hlong:¬ (!its.toArray.isEmpty&&P9 (its.toArray.size+its2.toArray.size))=true:=by
  rw[lF hsz,Bool.and_false]
  exact Qc
 refine QU F.slot_list_extend ⟨_,e,rfl⟩ F.entry_list_extend (F.args_list_extend_2 _ _)
  (AutoSeq1.list_extend_list_list_0 l its.toArray n b its2.toArray n2 hlong (by rw[OT];lia) (by lia)) ⟨e,e2,?_⟩
 refine ⟨.non,_,I.BE (its':=its++its2) hH e (by simp) (r.append r2) ?_,rfl,q⟩
 rw[PK]
 lia
theorem Ci {b:OR}{zs:List V} (I:Inv X zt σ H s) (hH:H l=some (.lst xs)) (hB:SqT X.K H b zs) (hz:xs.length+zs.length<=sizeLine) (q:Q .non (upd H l (.lst (xs++zs)))) :
 wpAny (Pc X.prog X.w) X.A (call (.builtin "list.extend") [.ref l,.ref b]) (EP X zt σ Q) X.xe s:=by
 obtain ⟨z,its,n,r,hl,e⟩:=I.BH hH
 obtain ⟨its2,r2,p2,_⟩:=I.tuple hB
 obtain ⟨⟨cls,dd,data,sl⟩,e2,hc,n2,hd⟩:=id p2
 simp only at hc hd
 subst hc hd
 have hl2:=r2.length
 have hsz:its.toArray.size+its2.toArray.size<=sizeLine:=by rw[OT,OT];lia
 have hlong:¬ (!its.toArray.isEmpty&&P9 (its.toArray.size+its2.toArray.size))=true:=by
  rw[lF hsz,Bool.and_false]
  exact Qc
 refine QU F.slot_list_extend ⟨_,e,rfl⟩ F.entry_list_extend (F.args_list_extend_2 _ _)
  (kK l its.toArray n b its2.toArray n2 dd sl hlong (by rw[OT];lia) (by lia)) ⟨e,e2,?_⟩
 refine ⟨.non,_,I.BE (its':=its++its2) hH e (by simp) (r.append r2) ?_,rfl,q⟩
 rw[PK]
 lia
theorem v8:MtR X "list.extend" (rMe X.prog X.w X.K .extend):=by
 intro zt s σ H v vs v' us Q I rv rus h
 obtain ⟨m,h,x,ws,z,h',R,rx,rws,e,zr⟩:=h
 cases x with
 | p d=>cases ws with
  | nil=>exact ai e
  | cons _ _=>rw[qv] at e;split at e<;>(try cases e)
 | r n =>
  cases rws with
  | nil=>(first|(cases e;done)|simp[BT.meW] at e)
  | @cons y wy _ _ ry t =>
   cases t with
   | cons _ _=>(first|(cases e;done)|simp[BT.meW] at e)
   | nil =>
    rw[BT.rY] at e
    cases g:BT.lat h n with
    | none=>rw[g] at e;cases e
    | some xs =>
     cases g2:(BT.rd wy h).bind BT.oN with
     | none=>rw[g,g2] at e;cases e
     | some ys =>
      rw[g,g2] at e
      simp only at e
      split at e
      ·rename_i c
       cases e
       obtain ⟨d,e1,e2⟩:=Option.bind_eq_some_iff.mp g2
       have r2:=aK R ry e1
       cases rx with
       | @r a _ hn =>
        obtain ⟨us',hH,r⟩:=R.cell n a xs hn g
        cases rv
        obtain ⟨u,rfl,ru⟩:=rus.one
        have:=cU
        have hl:=r.length
        cases d<;>simp only[BT.oN] at e2<;>try contradiction
        ·cases e2
         obtain ⟨b,vb,rfl,hb,rb⟩:=r2.tup
         cases ru
         have hl2:=rb.length
         exact Ci I hH hb (by lia) (zr _ _ m (gk (O5 hn) hH) (R.set hn hH (r.append rb)) (.p .non))
        ·cases e2
         obtain ⟨b,vb,rfl,hb,rb⟩:=r2.lst
         cases ru
         have hl2:=rb.length
         exact yJ I hH hb (by lia) (zr _ _ m (gk (O5 hn) hH) (R.set hn hH (r.append rb)) (.p .non))
      ·cases e
 | _=>(first|(cases e;done)|simp[BT.meW] at e)
theorem RWs.pure {w:Pa}:∀ {vs:List V}{ws:List BT.W}{ds:List BT.D},RWs P w K m H vs ws->BT.aO ws=some ds->RDs K m H vs ds:=by
 intro vs ws
 induction ws generalizing vs with
 | nil =>
  intro ds r e
  cases r
  cases e
  exact .nil
 | cons x ws ih =>
  intro ds r e
  cases r with
  | cons r t =>
   cases r with
   | p r =>
    simp only[BT.aO] at e
    obtain ⟨q,e1,e2⟩:=aC e
    subst e2
    exact .cons r (ih t e1)
   | _=>cases e
theorem jf {x:BT.D}:∀ {ds:List BT.D}{k j:Nat},BT.fj x ds k=some j->∃ i,j=k+i/\∃ (hi:i < ds.length),BT.eqv ds[i] x=true/\∀ m (hm:m < ds.length),m < i->BT.eqv ds[m] x=false
 | [],_,_,e=>by cases e
 | y :: r,k,j,e=>by
  simp only[BT.fj] at e
  split at e
  ·rename_i c
   cases e
   exact ⟨0,rfl,by simp,c,fun m _ h=>by lia⟩
  ·rename_i c
   obtain ⟨i,rfl,hi,h1,h2⟩:=jf e
   refine ⟨i+1,by lia,by simp;lia,by simpa using h1,fun m hm hlt=>?_⟩
   cases m with
   | zero=>simpa using c
   | succ m=>simpa using h2 m (by simpa using hm) (by lia)
theorem iQ {zt:List (OR×Obj)}{σ:L2.St}{s:OP}{m:List OR}{H:Hp}{d:BT.D} (I:Inv X zt σ H s):∀ {vs:List V}{ds:List BT.D}{us:List Value},RDs X.K m H vs ds->az vs us->∀ (i:Nat) (h1:i < us.length) (h2:i < ds.length),cg s.heap (pd d) us[i]=BT.eqv ds[i] d
 | _,_,_,.nil,q=>by cases q;intro i h1;simp at h1
 | _,_,_,.cons r t,q=>by
  cases q with
  | cons q1 q2 =>
   intro i h1 h2
   cases i with
   | zero =>
    obtain ⟨as,ra⟩:=iy I r q1
    simp only[List.getElem_cons_zero]
    rw[sC ra (eZ r),lV]
   | succ i=>simpa using iQ I t q2 i (by simpa using h1) (by simpa using h2)
theorem v9 (hu:X.A.units+150 < Uz):MtR X "tuple.index" (rMe X.prog X.w X.K .tindex):=by
 intro zt s σ H v vs v' us Q I rv rus h
 obtain ⟨m,h,x,ws,z,h',R,rx,rws,e,zr⟩:=h
 cases x with
 | r n=>cases ws with
  | _=>(first|(cases e;done)|simp[BT.meW] at e)
 | p d =>
  rw[BT.lJ] at e
  cases g:BT.aO ws with
  | none=>rw[g] at e;cases e
  | some ds =>
   rw[g] at e
   obtain ⟨b,e1,e2⟩:=aC e
   cases e2
   have rds:=rws.pure g
   cases d<;>first|exact ai e1|skip
   rename_i xs
   cases ds with
   | nil=>exact ai e1
   | cons d0 dr =>
    cases dr with
    | cons _ _=>exact ai e1
    | nil =>
     rw[BT.yb] at e1
     split at e1
     ·rename_i c
      obtain ⟨j,e3,e4⟩:=aC e1
      subst e4
      obtain ⟨i,rfl,hi,h1,h2⟩:=jf e3
      cases rds with
      | cons r0 rn =>
       cases rn
       obtain ⟨u,rfl,ru⟩:=rus.one
       cases rx with
       | p rx =>
        obtain ⟨a,vt,rfl,ha,ra⟩:=RR.tup (.d rx)
        cases rv
        obtain ⟨its,q1,q2,_⟩:=I.tuple ha
        obtain ⟨⟨cls,dd,data,sl⟩,ho,hc,n,hd⟩:=id q2
        simp only at hc hd
        subst hc hd
        have hl:=q1.length
        have hl2:=ra.length
        have hi':i < its.toArray.size:=by rw[OT];lia
        refine QU F.slot_tuple_index ⟨_,ho,rfl⟩ F.entry_tuple_index (F.args_tuple_index_2 _ _)
         (ni a its.toArray n dd sl u (cg s.heap (pd d0)) i hi' ?_ ?_) ⟨ho,?_,?_⟩
        ·rw[show its.toArray[i]=its[i]'(by lia) by simp,iQ I ra q1 i (by lia) hi];exact h1
        ·intro k hk hlt
         have hk':k < its.length:=by simpa using hk
         rw[show its.toArray[k]=its[k]'hk' by simp,iQ I ra q1 k hk' (by lia)];exact h2 k (by lia) hlt
        ·intro y hy
         exact fL hu I (.d r0) ru ra q1 c y (by simpa using hy)
        ·refine ⟨.int (((0+i:Nat):Nat):Int),H,I.tok _,⟨s.toks,?_⟩,zr.here R (.int _)⟩
         simp
     ·cases e1
 | _=>(first|(cases e;done)|simp[BT.meW] at e)
theorem we:MtR X "str.index" (rMe X.prog X.w X.K .sindex):=by
 intro zt s σ H v vs v' us Q I rv rus h
 obtain ⟨m,h,x,ws,z,h',R,rx,rws,e,zr⟩:=h
 cases x with
 | r n=>cases ws with
  | _=>(first|(cases e;done)|simp[BT.meW] at e)
 | p d =>
  rw[BT.lK] at e
  cases g:BT.aO ws with
  | none=>rw[g] at e;cases e
  | some ds =>
   rw[g] at e
   obtain ⟨b,e1,e2⟩:=aC e
   cases e2
   have rds:=rws.pure g
   cases d<;>first|exact ai e1|skip
   cases ds with
   | nil=>exact ai e1
   | cons d0 dr =>
    cases dr with
    | cons _ _=>cases d0<;>exact ai e1
    | nil =>
     cases d0<;>first|exact ai e1|skip
     rename_i x y
     rw[BT.yc] at e1
     cases ho:QT x y 0 x.length 1 with
     | nil=>rw[ho] at e1;cases e1
     | cons j rest =>
      rw[ho] at e1
      cases e1
      cases rds with
      | cons r0 rn =>
       cases rn
       cases r0
       obtain ⟨u,rfl,t0,rfl⟩:=rus.one
       cases rx with
       | p rx =>
        cases rx
        obtain ⟨t,rfl⟩:=rv
        exact call_gives F.slot_str_index (typeIs_str s x t) F.entry_str_index (F.args_str_index_2 _ _) (gives_str_index x y t t0 j rest ho) ⟨.int j,H,I.tok _,⟨_,rfl⟩,zr.here R (.int _)⟩
 | _=>(first|(cases e;done)|simp[BT.meW] at e)
end
section
variable {X:Cx}
inductive rBi (P:OU) (w:Pa) (K:OM) (b:BT.Bi) (mu:Bool) (vs:List V) (H:Hp) (Q:VK):Prop where
 | mk (m:List OR) (h:BT.HH) (ws:List BT.W) (z:BT.W) (h':BT.HH) (R:RH K m H h) (rs:RWs P w K m H vs ws) (e:BT.kBi b mu ws h=some (z,h')) (p:Post P w K m H z h' Q):rBi P w K b mu vs H Q
inductive RRs (K:OM) (m:List OR) (H:Hp):List V->List BT.D->Prop where
 | nil:RRs K m H [] []
 | cons {v:V}{d:BT.D}{vs:List V}{ds:List BT.D} (r:RR K m H v d) (t:RRs K m H vs ds):RRs K m H (v :: vs) (d :: ds)
theorem fY {P:OU}{w:Pa}{K:OM}{m:List OR}{H:Hp}{h:BT.HH} (R:RH K m H h):∀ {vs:List V}{ws:List BT.W}{ds:List BT.D},RWs P w K m H vs ws->BT.rds ws h=some ds->RRs K m H vs ds
 | _,_,_,.nil,e=>by cases e;exact .nil
 | _,_,_,.cons r t,e=>by
  simp only[BT.rds] at e
  obtain ⟨d,e1,e2⟩:=Option.bind_eq_some_iff.mp e
  obtain ⟨q,e3,e4⟩:=aC e2
  subst e4
  exact .cons (aK R r e1) (fY R t e3)
inductive BiI (b:BT.Bi) (mu:Bool) (ws:List BT.W) (h:BT.HH) (z:BT.W) (h':BT.HH):Prop where
 | mk (ds:List BT.D) (d:BT.D) (h1:BT.rds ws h=some ds) (h2:BT.biD b ds=some d) (h3:(mu=false/\z=.p d/\h'=h)\/∃ xs,mu=true/\d=.lst xs/\z=.r h.length/\h'=h++[.l xs]):BiI b mu ws h z h'
theorem jg {mu:Bool}{ws:List BT.W} (e:BT.kBi b mu ws h=some (z,h')):BiI b mu ws h z h':=by
 unfold BT.kBi at e
 cases e1:BT.rds ws h with
 | none=>rw[e1] at e;cases e
 | some ds =>
  rw[e1] at e
  simp only at e
  cases e2:BT.biD b ds with
  | none=>rw[e2] at e;cases e
  | some d =>
   rw[e2] at e
   simp only at e
   cases mu with
   | false=>cases e;exact ⟨ds,d,e1,e2,.inl ⟨rfl,rfl,rfl⟩⟩
   | true =>
    simp only[if_true] at e
    cases d<;>simp only at e<;>try contradiction
    cases e
    exact ⟨ds,_,e1,e2,.inr ⟨_,rfl,rfl,rfl,rfl⟩⟩
theorem RRs.one {K:OM}{m:List OR}{H:Hp}{vs:List V}{d:BT.D} (r:RRs K m H vs [d]):∃ v,vs=[v]/\RR K m H v d:=by
 cases r with
 | cons r t=>cases t;exact ⟨_,rfl,r⟩
theorem Gf:cO X (.builtin "len") (rBi X.prog X.w X.K .len false):=by
 intro zt s σ H vs us Q I rus h
 obtain ⟨m,h,ws,z,h',R,rws,e,zr⟩:=h
 obtain ⟨ds,d,e1,e2,⟨_,rfl,rfl⟩|⟨_,q,_⟩⟩:=jg e
 ·have rr:=fY R rws e1
  match ds,e2 with
  | [.tup xs],e2 =>
   cases e2
   obtain ⟨v,rfl,r⟩:=rr.one
   obtain ⟨a,vt,rfl,ha,ra⟩:=r.tup
   exact ju zt s σ H _ us Q I rus ⟨a,vt,rfl,.inr ha,by rw[ra.length];exact zr.here R (.int _)⟩
  | [.lst xs],e2 =>
   cases e2
   obtain ⟨v,rfl,r⟩:=rr.one
   obtain ⟨a,vt,rfl,ha,ra⟩:=r.lst
   exact ju zt s σ H _ us Q I rus ⟨a,vt,rfl,.inl ha.sq,by rw[ra.length];exact zr.here R (.int _)⟩
  | [.str x],e2 =>
   rw[BT.vQ] at e2
   split at e2
   ·rename_i c
    cases e2
    obtain ⟨v,rfl,r⟩:=rr.one
    obtain ⟨rfl,_⟩:=r.str
    have:=cU
    exact oH zt s σ H _ us Q I rus ⟨x,rfl,by lia,zr.here R (.int _)⟩
   ·cases e2
 ·cases q
theorem Gg:cO X (.builtin "abs") (rBi X.prog X.w X.K .abs false):=by
 intro zt s σ H vs us Q I rus h
 obtain ⟨m,h,ws,z,h',R,rws,e,zr⟩:=h
 obtain ⟨ds,d,e1,e2,⟨_,rfl,rfl⟩|⟨_,q,_⟩⟩:=jg e
 ·have rr:=fY R rws e1
  match ds,e2 with
  | [.int i],e2 =>
   cases e2
   obtain ⟨v,rfl,r⟩:=rr.one
   cases r.int
   exact xQ zt s σ H _ us Q I rus ⟨i,rfl,zr.here R (.int _)⟩
 ·cases q
theorem Gi:cO X (.type "int") (rBi X.prog X.w X.K .int false):=by
 intro zt s σ H vs us Q I rus h
 obtain ⟨m,h,ws,z,h',R,rws,e,zr⟩:=h
 obtain ⟨ds,d,e1,e2,⟨_,rfl,rfl⟩|⟨_,q,_⟩⟩:=jg e
 ·have rr:=fY R rws e1
  match ds,e2 with
  | [.int i],e2 =>
   cases e2
   obtain ⟨v,rfl,r⟩:=rr.one
   cases r.int
   exact nF zt s σ H _ us Q I rus (.inl ⟨i,rfl,zr.here R (.int _)⟩)
  | [.bl i],e2 =>
   cases e2
   obtain ⟨v,rfl,r⟩:=rr.one
   cases r.bl
   exact nF zt s σ H _ us Q I rus (.inr ⟨i,rfl,zr.here R (.int _)⟩)
 ·cases q
theorem uh {mu:Bool}:cO X (.type "list") (rBi X.prog X.w X.K .list mu):=by
 intro zt s σ H vs us Q I rus h
 obtain ⟨m,h,ws,z,h',R,rws,e,zr⟩:=h
 obtain ⟨ds,d,e1,e2,hz⟩:=jg e
 have rr:=fY R rws e1
 have fin:∀ {p:OR}{vt:List V}{xs:List BT.D},d=.lst xs->H p=none->RDs X.K m H vt xs->Q (.ref p) (upd H p (.lst vt)):=by
  intro p vt xs ed hp r
  rcases hz with ⟨_,rfl,rfl⟩|⟨ys,_,e3,rfl,rfl⟩
  ·subst ed;exact jC R hp r zr
  ·rw[ed] at e3;cases e3;exact uf R hp r zr
 match ds,e2 with
 | [.tup xs],e2 =>
  cases e2
  obtain ⟨v,rfl,r⟩:=rr.one
  obtain ⟨a,vt,rfl,ha,ra⟩:=r.tup
  exact jv zt s σ H _ us Q I rus ⟨a,vt,rfl,.inr ha,fun p hp=>fin rfl hp ra⟩
 | [.lst xs],e2 =>
  cases e2
  obtain ⟨v,rfl,r⟩:=rr.one
  obtain ⟨a,vt,rfl,ha,ra⟩:=r.lst
  exact jv zt s σ H _ us Q I rus ⟨a,vt,rfl,.inl ha.sq,fun p hp=>fin rfl hp ra⟩
theorem jF {K:OM}{m:List OR}{H:Hp}:∀ {ns:List Int}{vs:List V},RDs K m H vs (ns.map BT.D.int)->vs=ns.map V.int
 | [],vs,r=>by cases r;rfl
 | n :: ns,vs,r=>by
  cases r with
  | cons r t=>cases r;rw[jF t];rfl
theorem lW {K:OM}{m:List OR}{H:Hp}:∀ (ns:List Int),RDs K m H (ns.map V.int) (ns.map BT.D.int)
 | []=>.nil
 | n :: ns=>.cons (.int n) (lW ns)
theorem yK:cO X (.type "tuple") (rBi X.prog X.w X.K .tuple false):=by
 intro zt s σ H vs us Q I rus h
 obtain ⟨m,h,ws,z,h',R,rws,e,zr⟩:=h
 obtain ⟨ds,d,e1,e2,⟨_,rfl,rfl⟩|⟨_,q,_⟩⟩:=jg e
 ·have rr:=fY R rws e1
  match ds,e2 with
  | [.tup xs],e2 =>
   cases e2
   obtain ⟨v,rfl,r⟩:=rr.one
   obtain ⟨a,vt,rfl,ha,ra⟩:=r.tup
   refine iX zt s σ H _ us Q I rus ⟨a,vt,rfl,.inr ⟨ha,?_⟩⟩
   cases r with
   | d r=>exact zr.here R r
  | [.lst xs],e2 =>
   cases e2
   obtain ⟨v,rfl,r⟩:=rr.one
   obtain ⟨a,vt,rfl,ha,ra⟩:=r.lst
   exact iX zt s σ H _ us Q I rus ⟨a,vt,rfl,.inl ⟨ha.sq,fun p hp=>jB R hp ra zr⟩⟩
 ·cases q
noncomputable def tyD:BT.D->String
 | .non=>"NoneType"
 | .bl _=>"bool"
 | .int _=>"int"
 | .str _=>"str"
 | .tup _=>"tuple"
 | .lst _=>"list"
theorem Cj {u:Value}{b:Bool}{Q:Value->OP->Prop}{E:Value->OP->Prop}
 (I:Inv X zt σ H s) (r:RR X.K m H v d) (rv:RelV v u) (e:Qe X.K (.type (tyD d)) (.type c)=some b) (h:∀ tk,Q (.bool b) { s with toks:=tk }) :
 wpAny (Pc X.prog X.w) A (call (.builtin "isinstance") [u,.type c]) Q E s:=by
 cases d with
 | non=>cases r.non;cases rv;exact QC PySem.W.kitx_none I.kIn Sg e (fun z=>nomatch z) h
 | bl y=>cases r.bl;cases rv;exact QC PySem.W.kitx_bool I.kIn Sg e (fun z=>nomatch z) h
 | int i=>cases r.int;obtain ⟨t,rfl⟩:=rv;exact QC PySem.W.kitx_int I.kIn Sg e (fun z=>nomatch z) h
 | str y=>obtain ⟨rfl,_⟩:=r.str;obtain ⟨t,rfl⟩:=rv;exact QC PySem.W.kitx_str I.kIn Sg e (fun z=>nomatch z) h
 | tup xs =>
  obtain ⟨a,vt,rfl,ha,_⟩:=r.tup
  cases rv
  obtain ⟨its,_,⟨o,h1,h2,_⟩,_⟩:=I.tuple ha
  exact QC PySem.W.kitx_tuple I.kIn ⟨o,h1,h2⟩ e (fun z=>nomatch z) h
 | lst xs =>
  obtain ⟨a,vt,rfl,ha,_⟩:=r.lst
  cases rv
  obtain ⟨_,its,n,_,_,h1⟩:=rdL I ha
  exact QC PySem.W.kitx_list I.kIn ⟨_,h1,rfl⟩ e (fun z=>nomatch z) h
theorem yL (K:OM) (t:String):Qe K (.type t) (.type t)=some true:=by
 unfold Qe
 rw[if_pos (by simp)]
theorem yM  (h:qp b=some (c,f)) (d:BT.D):BT.biD b [d]=some (.bl (f d)):=by
 cases b<;>simp only[qp] at h<;>try contradiction
 all_goals (cases h;rfl)
theorem yN  (h:qp b=some (c,f)) (K:OM) (d:BT.D):Qe K (.type (tyD d)) (.type c)=some (f d):=by
 cases b<;>simp only[qp] at h<;>try contradiction
 all_goals (cases h;cases d)
 all_goals first
  | exact yL K _
  | (simp only[tyD];unfold Qe;rw[if_neg (by decide)];unfold PySem.W.kitCls;first|rfl|kernel_rfl|decide +kernel)
end
noncomputable abbrev FT:=BT.FK->List BT.W->BT.HH->Option (BT.W×BT.HH)
inductive spF (P:OU) (w:Pa) (K:OM) (g:List BT.W->BT.HH->Option (BT.W×BT.HH)) (vs:List V) (H:Hp) (Q:VK) (E:XK):Prop where
 | mk (m:List OR) (ws:List BT.W) (h:BT.HH) (z:BT.W) (h':BT.HH) (R:RH K m H h) (r:RWs P w K m H vs ws) (e:g ws h=some (z,h')) (p:Post P w K m H z h' Q):spF P w K g vs H Q E
inductive tD (X:Cx) (F:FT) (G:Str->Option BT.W) (e:BT.E) (σ:L2.St) (H:Hp) (Q:VK):Prop where
 | mk (m:List OR) (s:BT.Sl) (h:BT.HH) (z:BT.W) (h':BT.HH) (R:RH X.K m H h) (S:RS X.prog X.w X.K m H σ s) (q:BT.ev F G e s h=some (z,h')) (p:Post X.prog X.w X.K m H z h' Q):tD X F G e σ H Q
inductive tDs (X:Cx) (F:FT) (G:Str->Option BT.W) (es:BT.Es) (σ:L2.St) (H:Hp) (Q:List V->Hp->Prop):Prop where
 | mk (m:List OR) (s:BT.Sl) (h:BT.HH) (zs:List BT.W) (h':BT.HH) (R:RH X.K m H h) (S:RS X.prog X.w X.K m H σ s) (q:BT.evs F G es s h=some (zs,h')) (p:∀ vs H' m',Ext m H m' H'->RH X.K m' H' h'->RWs X.prog X.w X.K m' H' vs zs->Q vs H'):tDs X F G es σ H Q
inductive tDT (X:Cx) (F:FT) (G:Str->Option BT.W) (e:BT.E) (σ:L2.St) (H:Hp) (Q:Bool->Hp->Prop):Prop where
 | mk (m:List OR) (s:BT.Sl) (h:BT.HH) (b:Bool) (h':BT.HH) (R:RH X.K m H h) (S:RS X.prog X.w X.K m H σ s) (q:BT.ev F G e s h=some (.p (.bl b),h')) (p:∀ H' m',Ext m H m' H'->RH X.K m' H' h'->Q b H'):tDT X F G e σ H Q
def qw (P:OU) (w:Pa) (K:OM) (mg:Str->Option Value) (base:Heap) (k L:Nat) (g:List BT.W->BT.HH->Option (BT.W×BT.HH)):Prop :=
 ∀ (A:PF) (outer:List Env) (s:OP) (H:Hp) (f:OR) (us:List Value) (vs cvs:List V) (m:List OR) (ws:List BT.W) (cs:List BT.Cp) (h:BT.HH) (z:BT.W) (h':BT.HH) (Q:VK) (E:XK),bx k A->jq P w K mg base A outer s H->az vs us →
  RH K m H h->RWs P w K m H vs ws->BT.noC ws=true->gM m H f L cvs->RCs K m H cvs cs->g (ws++cs.map BT.Cp.w) h=some (z,h')->Post P w K m H z h' Q->codeAny (Pc P w) A (.call (.ref f) ⟨us,[]⟩) (CR CX0 outer P w H s Q E) s
structure LX (X:Cx) (x:Str):Prop where
 mem:x∈BT.dH
 ex:∃ c P,PX X.K x=some (c,P)/\X.env.code=.ref c/\PySem.W.CodeHd X.base c P/\∀ y∈BT.dH,∀ c2,PX X.K y=some (c2,P)->y=x
 ql:X.env.qual=x++".<locals>."
 bm:∃ bm ob,X.mg "__builtins__"=some (.ref bm)/\bm≠QF/\X.base.get? bm=some ob/\ob.cls=.type "module"/\ob.dict=some QF/\ob.data=.plain
noncomputable def Ck:List Str:=["len","abs","int","list","tuple","isinstance","str","bool","range","reversed","enumerate","zip","min","max","sorted","sum","all","any","set","ValueError"]
inductive OkC (P:OU) (w:Pa) (K:OM) (mg:Str->Option Value) (base:Heap) (A:PF) (f:Str) (sp:Sp):Prop where
 | mk (fa:OR) (fd:PN) (ps:List Str) (k:Nat) (h1:mg f=some (.ref fa)) (h2:Po K (.ref fa)=true) (h3:Binds K fd ps []) (h4:bx k A) (h5:cK P w K mg base CX0 k fa fd ps sp):OkC P w K mg base A f sp
inductive OkM (P:OU) (w:Pa) (K:OM) (mg:Str->Option Value) (base:Heap) (A:PF) (CX:CXT) (c m:Str) (sp:Sp):Prop where
 | mk (C g:OR) (fd:PN) (ps:List Str) (k:Nat) (h1:jz K c C) (h2:pZ K C m g) (h3:Binds K fd ps []) (h4:bx k A) (h5:cK P w K mg base CX k g fd ps sp):OkM P w K mg base A CX c m sp
inductive OkN (P:OU) (w:Pa) (K:OM) (mg:Str->Option Value) (base:Heap) (A:PF) (c:Str) (sp:Sp):Prop where
 | mk (C g:OR) (fd:PN) (ps:List Str) (k:Nat) (h1:jz K c C) (h2:mg c=some (.ref C)) (h3:Mk K C g) (h4:Binds K fd ps []) (h5:bx (k+1) A) (h6:cK P w K mg base CX0 k g fd ps sp):OkN P w K mg base A c sp
structure Ok (X:Cx) (F:FT) (G:Str->Option BT.W) (sc:O6) (N:List Str):Prop where
 hsc:X.env.scope=sc
 hN:X.N=N
 nd:X.N.Nodup
 calm:cR N=true->X.calm=true
 hu:X.A.units+150 < Uz
 own:Uk (Pc X.prog X.w) X.A X.env X.xe
 glob:∀ x z,G x=some z->∃ u v,X.mg x=some u/\RelV v u/\∀ m H,RW X.prog X.w X.K m H v z
 call:∀ (f:Str) ws h r,F (.f f) ws h=some r->OkC X.prog X.w X.K X.mg X.base X.A f (spF X.prog X.w X.K (F (.f f)))
 meth:∀ (c m:Str) ws h r,F (.m c m) ws h=some r->OkM X.prog X.w X.K X.mg X.base X.A CX0 c m (spF X.prog X.w X.K (F (.m c m)))
 mkc:∀ (c:Str) ws h r,F (.m c "__init__") ws h=some r->OkN X.prog X.w X.K X.mg X.base X.A c (spF X.prog X.w X.K (F (.m c "__init__")))
 blt:∀ x∈Ck,X.mg x=none
 lam:∀ (L:Nat) ws h r,F (.l L) ws h=some r->∃ k,bx k X.A/\qw X.prog X.w X.K X.mg X.base k L (F (.l L))
 lamx:(∀ x,X.fn x=true)->∀ x,N.contains (BT.bA x)=true->LX X x
theorem PE.weak {t t':TE} (h:PE X e t) (q:∀ σ H Q,t' σ H Q->t σ H Q):PE X e t':=fun zt s σ H Q I hw=>h zt s σ H Q I (q _ _ _ hw)
theorem PT.weak {t t':TT} (h:PT X e t) (q:∀ σ H Q,t' σ H Q->t σ H Q):PT X e t':=fun zt s σ H Q I hw=>h zt s σ H Q I (q _ _ _ hw)
theorem PW.weak {t t':TT} (h:PW X e t) (q:∀ σ H Q,t' σ H Q->t σ H Q):PW X e t':=fun wh zt s σ H Q I hw=>h wh zt s σ H Q I (q _ _ _ hw)
theorem PA.weak {t t':TA} (h:PA X es t) (q:∀ σ H Q,t' σ H Q->t σ H Q):PA X es t':=fun pos zt s σ H Q I hw=>h pos zt s σ H Q I (q _ _ _ hw)
theorem aj  (h:noStar e=true):Pe (e :: es) env=(false,eval e env) :: Pe es env:=by
 cases e<;>first|rfl|cases h
theorem yO {b:ON} (h:kU b=true):tV b:=fun o i=>by
 cases b<;>first|rfl|cases h
theorem kW {o:ON} (h:aL o=true):Sf o name env (eval o env)=eval o env:=by
 cases o with
 | Call fn as ks p =>
  cases fn with
  | Attribute _ _ _=>rfl
  | _=>cases h
 | _=>first|rfl|cases h
noncomputable def aq:List ON->Bool
 | []=>true
 | e :: es=>noStar e&&aq es
theorem aI {pos:Pos}{env:Env}:∀ {es:List ON},aq es=true->(QA pos (Pe es env)).any (·.1)=false
 | [],_=>rfl
 | e :: es,h=>by
  simp only[aq,OQ] at h
  rw[aj h.1]
  show (false||(QA pos (Pe es env)).any (·.1))=false
  rw[aI h.2];rfl
theorem jG {pos:Pos}{env:Env}:∀ {es:List ON},aq es=true->(QA pos (Pe es env)).all (fun x=>!x.1)=true
 | [],_=>rfl
 | e :: es,h=>by
  simp only[aq,OQ] at h
  rw[aj h.1]
  show (!false&&(QA pos (Pe es env)).all (fun x=>!x.1))=true
  rw[jG h.2];rfl
theorem bY:∀ {sc:O6}{N:List Str}{as:BT.Es}{es:List ON},CEs sc N as es->aq es=true
 | _,_,_,_,.nil=>rfl
 | _,_,_,_,.cons hs _ hr=>by
  simp only[aq,OQ]
  exact ⟨hs,bY hr⟩
section
variable {X:Cx}{F:FT}{G:Str->Option BT.W}{sc:O6}{N:List Str}
theorem lX {f:BT.OpW}{e b:BT.E} (he:∀ s h,BT.ev F G e s h=BT.bnd (BT.ev F G a s h) (BT.k2 (BT.ev F G b s) f)) (σ:L2.St) (H:Hp) (Q:VK) (q:tD X F G e σ H Q) :
 tOp (rOp X.prog X.w X.K f) (tD X F G a) (tD X F G b) σ H Q:=by
 obtain ⟨m,s,h,z,h',R,S,ee,zr⟩:=q
 rw[he] at ee
 obtain ⟨x,h1,e1,e2⟩:=ak ee
 simp only[BT.k2] at e2
 obtain ⟨y,h2,e3,e4⟩:=ak e2
 refine ⟨m,s,h,x,h1,R,S,e1,fun v H1 m1 x1 R1 r1=>?_⟩
 refine ⟨m1,s,h1,y,h2,R1,S.ext x1,e3,fun u H2 m2 x2 R2 r2=>?_⟩
 exact ⟨m2,h2,x,y,z,h',R2,r1.ext x2,r2,e4,fun w' H3 m3 x3 R3 r3=>zr w' H3 m3 ((x1.trans x2).trans x3) R3 r3⟩
theorem qx {e:BT.E}{t:TE} (h:∀ σ H Q,tD X F G e σ H Q->t σ H Q) (σ:L2.St) (H:Hp) (Q:Bool->Hp->Prop) (q:tDT X F G e σ H Q):xN t σ H Q:=by
 obtain ⟨m,s,h0,b,h',R,S,ee,zr⟩:=q
 refine h σ H _ ⟨m,s,h0,_,h',R,S,ee,fun v H' m' x R' r=>?_⟩
 cases r with
 | p r=>cases r;exact ⟨b,rfl,zr H' m' x R'⟩
theorem opB {op:Rn} (h:Eu o op=true):OpR X (Qf op) (rOp X.prog X.w X.K (BT.m8 o)):=by
 cases o<;>cases op<;>cases h
 ·exact F6
 ·exact F7
 ·exact Ga
 ·exact F8
 ·exact Cd
 ·exact F9
theorem Ey {vs:List (Key×Value)}{k:Str}:∀ {es:List (Str×V)}{kvs:List (Str×BT.D)}{K:OM},RDk K es kvs->KV (es.map fun q=>((Sum.inr q.1:Key),q.2)) vs->(valueAt vs (Sum.inr k)).isSome=(BT.c9 k kvs).isSome:=by
 intro es
 induction es generalizing vs with
 | nil =>
  intro kvs K r q
  cases r
  cases q
  rfl
 | cons p es ih =>
  intro kvs K r q
  cases r with
  | @cons x v dd _ kvs r t =>
   cases q with
   | @cons p z l1 l2 q1 q2 =>
    obtain ⟨z1,z2⟩:=z
    obtain ⟨q11,q12⟩:=q1
    simp only at q11 q12
    subst q11
    rw[BT.c9]
    by_cases c:k=x
    ·subst c
     simp[valueAt]
    ·rw[if_neg c]
     have ne:¬ ((Sum.inr x:Key)=Sum.inr k):=fun z=>c (Sum.inr.inj z).symm
     have:=ih t q2
     simp only[valueAt] at this ⊢
     rw[Ul (by simpa using ne)]
     exact this
theorem opC (O:Ok X F G sc N) {o:BT.Cm}{op:CmpOp} (h:B9 o op=true):OpR X (PU op) (rOp X.prog X.w X.K (BT.gP o)):=by
 cases o<;>cases op<;>cases h
 ·exact JO O.hu
 ·exact JP O.hu
 ·exact JQ
 ·exact JR
 ·exact JS
 ·exact JT
 ·exact Gb
 ·exact Ce
 ·refine Gc O.hu ?_
  intro kvs x b m H v u v' u' zt σ s Q I rv ru rx rk e q
  cases x with
  | p d =>
   cases d<;>first|exact ai e|skip
   obtain rfl:=OV e
   cases rk with
   | @k a es _ kd rk =>
    cases ru
    cases rx with
    | p rx =>
     cases rx with
     | str x ok =>
      obtain ⟨t,rfl⟩:=rv
      obtain ⟨hm,vs,kv,dd⟩:=kd
      have D:=dd s.heap I.kIn
      refine wpAny_in_of (knd:=cT X.prog X.w) (gR _ _ _ t) hm D.mapOf ?_
      rw[Ey rk kv]
      exact ⟨.bl _,H,I.tok _,rfl,q⟩
  | _=>exact ai e
 ·refine Cf O.hu ?_
  intro kvs x b m H v u v' u' zt σ s Q I rv ru rx rk e q
  cases x with
  | p d =>
   cases d<;>first|exact ai e|skip
   obtain rfl:=OV e
   cases rk with
   | @k a es _ kd rk =>
    cases ru
    cases rx with
    | p rx =>
     cases rx with
     | str x ok =>
      obtain ⟨t,rfl⟩:=rv
      obtain ⟨hm,vs,kv,dd⟩:=kd
      have D:=dd s.heap I.kIn
      refine wpAny_notIn_of (knd:=cT X.prog X.w) (gR _ _ _ t) hm D.mapOf ?_
      rw[Ey rk kv]
      exact ⟨.bl _,H,I.tok _,rfl,q⟩
  | _=>exact ai e
end
section
variable {X:Cx}{F:FT}{G:Str->Option BT.W}{sc:O6}{N:List Str}
theorem Cn (O:Ok X F G sc N) (x:Str):X.env.kindOf x=sc.names.lookup x:=by rw[← O.hsc];rfl
theorem bB {x:Str} (h:aH x=true):(x==("__debug__":Str))=false/\(x==("__classdict__":Str))=false/\x≠"__name__":=by
 simp only[aH,OQ,QM] at h
 exact ⟨h.1.1,h.1.2,fun e=>by rw[e] at h;simp at h⟩
theorem aM (O:Ok X F G sc N) {x:Str} (h:aE sc x=true):Gl X x:=by
 show X.env.kindOf x=_
 rw[Cn O]
 exact eq_of_beq h
theorem yP (O:Ok X F G sc N) {x:Str} (h:lR sc x=true):Vis X.env.scope x:=by
 rw[O.hsc]
 unfold lR at h
 unfold Vis
 cases e:sc.names.lookup x with
 | none=>rw[e] at h;cases h
 | some k=>rw[e] at h;cases k<;>first|(exact .inl rfl)|(exact .inr (.inl rfl))|(exact .inr (.inr rfl))|cases h
theorem um (O:Ok X F G sc N) {y:Str} (h2:N[i]?=some y) (h3:lR sc y=true) (h4:aH y=true):PE X (.Name y pos) (tD X F G (.var i y)):=by
 obtain ⟨d1,d2,_⟩:=bB h4
 refine PE.weak (rE (i:=i) (by rw[O.hN];exact h2) (yP O h3) d1 d2) fun σ H Q q=>?_
 obtain ⟨m,s,h,z,h',R,S,ee,zr⟩:=q
 simp only[BT.ev] at ee
 split at ee
 ·rename_i w e
  cases ee
  obtain ⟨v,hv,r⟩:=S.get i _ e
  exact ⟨v,hv,zr v H m (.refl _ _) R r⟩
 ·cases ee
theorem Co {c:Const}{k:Nat} (h:Ew d c=true):PE X (.Constant c k pos) (tD X F G (.cst d)):=by
 have fin:∀ {v:V},(∀ m H,RD X.K m H v d)->∀ σ H Q,tD X F G (.cst d) σ H Q->tC v σ H Q:=fun r σ H Q q=>by
  obtain ⟨m,s,h,z,h',R,S,ee,zr⟩:=q
  simp only[BT.ev] at ee
  cases ee
  exact zr _ H m (.refl _ _) R (.p (r m H))
 cases d<;>cases c<;>first|(cases h;done)|skip
 ·exact PE.weak ES (fin fun _ _=>.non)
 ·cases eq_of_beq h;exact PE.weak Il (fin fun _ _=>.bl _)
 ·cases eq_of_beq h;exact PE.weak rF (fin fun _ _=>.int _)
 ·have h:=Bool.and_eq_true_iff.mp h
  cases eq_of_beq h.1;exact PE.weak ET (fin fun _ _=>.str _ h.2)
theorem Cq (O:Ok X F G sc N) {y:Str} (h2:aE sc y=true) (h3:aH y=true):PE X (.Name y pos) (tD X F G (.glo y)):=by
 obtain ⟨d1,d2,_⟩:=bB h3
 intro zt s σ H Q I q
 obtain ⟨m,s',h,z,h',R,S,ee,zr⟩:=q
 simp only[BT.ev] at ee
 obtain ⟨w,e1,e2⟩:=aC ee
 cases e2
 obtain ⟨u,v,hm,r,rw⟩:=O.glob _ _ e1
 exact oA (aM O h2) hm r d1 zt s σ H Q I (zr v H m (.refl _ _) R (rw m H))
theorem Ez {e:BT.E}{k:BT.W->BT.HH->Option (BT.W×BT.HH)} (he:∀ s h,BT.ev F G e s h=BT.bnd (BT.ev F G a s h) k)  (q:tD X F G e σ H Q) {R':V->Hp->Prop}
 (h1:∀ m h x z h' v H1,RH X.K m H1 h->RW X.prog X.w X.K m H1 v x->k x h=some (z,h')->Post X.prog X.w X.K m H1 z h' Q->R' v H1):tD X F G a σ H R':=by
 obtain ⟨m,s,h,z,h',R,S,ee,zr⟩:=q
 rw[he] at ee
 obtain ⟨x,g,e1,e2⟩:=ak ee
 exact ⟨m,s,h,x,g,R,S,e1,fun v H1 m1 x1 R1 r1=>h1 m1 g x z h' v H1 R1 r1 e2 fun w' H3 m3 x3 R3 r3=>zr w' H3 m3 (x1.trans x3) R3 r3⟩
theorem iR {e:BT.E}{k:List BT.W->BT.HH->Option (BT.W×BT.HH)} (he:∀ s h,BT.ev F G e s h=BT.bnd (BT.evs F G as s h) k)  (q:tD X F G e σ H Q) {R':List V->Hp->Prop}
 (h1:∀ m h xs z h' vs H1,RH X.K m H1 h->RWs X.prog X.w X.K m H1 vs xs->k xs h=some (z,h')->Post X.prog X.w X.K m H1 z h' Q->R' vs H1):tDs X F G as σ H R':=by
 obtain ⟨m,s,h,z,h',R,S,ee,zr⟩:=q
 rw[he] at ee
 obtain ⟨x,g,e1,e2⟩:=ak ee
 exact ⟨m,s,h,x,g,R,S,e1,fun v H1 m1 x1 R1 r1=>h1 m1 g x z h' v H1 R1 r1 e2 fun w' H3 m3 x3 R3 r3=>zr w' H3 m3 (x1.trans x3) R3 r3⟩
theorem ty_list {n:Nat} (R:RH X.K m H h) (r:RW X.prog X.w X.K m H v (.r n)) (ok:BT.ng (.r n) h=true):tyV X.K "list" v H:=by
 cases r with
 | @r a _ hn =>
  obtain ⟨xs,e⟩:=Option.isSome_iff_exists.mp ok
  obtain ⟨vs,e,_⟩:=R.cell n a xs hn e
  exact .inl ⟨rfl,vs,.inl (.inl e)⟩
theorem uq {m:BT.Me}{ea:BT.HH->Option (List BT.W×BT.HH)} (e:BT.kMe m ea x h=some r):BT.ng x h=true/\BT.bnd (ea h) (BT.meW m x)=some r:=by
 unfold BT.kMe at e
 split at e
 ·rename_i c;exact ⟨c,e⟩
 ·cases e
theorem Nh {m:BT.Me}{ws:List BT.W} (hm:m=.append\/m=.pop\/m=.extend) (e:BT.meW m x ws h=some (z,h')):∃ n,x=.r n:=by
 cases x with
 | r n=>exact ⟨n,rfl⟩
 | p d =>
  rcases hm with rfl|rfl|rfl<;>cases ws<;>rw[qv] at e<;>(split at e<;>(try cases e))<;>exact ai e
 | k q =>
  rcases hm with rfl|rfl|rfl<;>cases ws<;>(first|(cases e;done)|simp[BT.meW] at e)
 | x _ =>
  rcases hm with rfl|rfl|rfl<;>cases ws<;>(first|(cases e;done)|simp[BT.meW] at e)
 | c _ _ =>
  rcases hm with rfl|rfl|rfl<;>cases ws<;>(first|(cases e;done)|simp[BT.meW] at e)
 | o q =>
  rcases hm with rfl|rfl|rfl<;>cases ws<;>(first|(cases e;done)|simp[BT.meW] at e)
end
section
variable {F:FT}{G:Str->Option BT.W}
theorem o5 {e:BT.E}{k:BT.Sl->BT.W->BT.HH->Option (BT.W×BT.HH)} (he:∀ s h,BT.ev F G e s h=BT.bnd (BT.ev F G a s h) (k s))  (q:tD X F G e σ H Q) {R':V->Hp->Prop}
 (h1:∀ m s h x z h' v H1,RH X.K m H1 h->RS X.prog X.w X.K m H1 σ s->RW X.prog X.w X.K m H1 v x->k s x h=some (z,h')->Post X.prog X.w X.K m H1 z h' Q->R' v H1):tD X F G a σ H R':=by
 obtain ⟨m,s,h,z,h',R,S,ee,zr⟩:=q
 rw[he] at ee
 obtain ⟨x,g,e1,e2⟩:=ak ee
 exact ⟨m,s,h,x,g,R,S,e1,fun v H1 m1 x1 R1 r1=>h1 m1 s g x z h' v H1 R1 (S.ext x1) r1 e2 fun w' H3 m3 x3 R3 r3=>zr w' H3 m3 (x1.trans x3) R3 r3⟩
theorem Gj {e:BT.E}{k:BT.Sl->Bool->BT.HH->Option (BT.W×BT.HH)}{kk:BT.Sl->BT.W->BT.HH->Option (BT.W×BT.HH)} (he:∀ s h,BT.ev F G e s h=BT.bnd (BT.ev F G a s h) (kk s))
 (hk:∀ s x h r,kk s x h=some r->∃ b,x=.p (.bl b)/\k s b h=some r)  (q:tD X F G e σ H Q) {R':Bool->Hp->Prop}
 (h1:∀ m s h b z h' H1,RH X.K m H1 h->RS X.prog X.w X.K m H1 σ s->k s b h=some (z,h')->Post X.prog X.w X.K m H1 z h' Q->R' b H1):tDT X F G a σ H R':=by
 obtain ⟨m,s,h,z,h',R,S,ee,zr⟩:=q
 rw[he] at ee
 obtain ⟨x,g,e1,e2⟩:=ak ee
 obtain ⟨b,rfl,e3⟩:=hk _ _ _ _ e2
 exact ⟨m,s,h,b,g,R,S,e1,fun H1 m1 x1 R1=>h1 m1 s g b z h' H1 R1 (S.ext x1) e3 fun w' H3 m3 x3 R3 r3=>zr w' H3 m3 (x1.trans x3) R3 r3⟩
theorem jV {w:Pa}{b:Bool} (r:RW P w K m H v (.p (.bl b))):v=.bl b:=by
 cases r with|p r=>cases r;rfl
theorem ur  (e:BT.B3 eb x h=some r):∃ b,x=.p (.bl b)/\(if b=true then eb h else some (.p (.bl false),h))=some r:=by
 cases x with
 | p d =>
  cases d<;>simp only[BT.B3] at e<;>try contradiction
  exact ⟨_,rfl,e⟩
 | _=>cases e
theorem yQ  (e:BT.kOr eb x h=some r):∃ b,x=.p (.bl b)/\(if b=true then some (.p (.bl true),h) else eb h)=some r:=by
 cases x with
 | p d =>
  cases d<;>simp only[BT.kOr] at e<;>try contradiction
  exact ⟨_,rfl,e⟩
 | _=>cases e
theorem Cr {ea:BT.EH} (e:BT.B4 ea eb x h=some r):∃ b,x=.p (.bl b)/\(if b=true then ea h else eb h)=some r:=by
 cases x with
 | p d =>
  cases d<;>simp only[BT.B4] at e<;>try contradiction
  exact ⟨_,rfl,e⟩
 | _=>cases e
theorem uv  (e:BT.B0 x h=some r):∃ b,x=.p (.bl b)/\r=(.p (.bl (!b)),h):=by
 cases x with
 | p d =>
  cases d<;>simp only[BT.B0] at e<;>try contradiction
  cases e;exact ⟨_,rfl,rfl⟩
 | _=>cases e
theorem Cs  (e:BT.BZ x h=some r):∃ i,x=.p (.int i)/\r=(.p (.int (-i)),h):=by
 cases x with
 | p d =>
  cases d<;>simp only[BT.BZ] at e<;>try contradiction
  cases e;exact ⟨_,rfl,rfl⟩
 | _=>cases e
theorem uw {b:BT.E} (σ:L2.St) (H:Hp) (Q:VK) (q:tD X F G (.and a b) σ H Q):Ea (tD X F G a) (tD X F G b) σ H Q:=by
 refine o5 (k:=fun s=>BT.B3 (BT.ev F G b s)) (fun s h=>by simp only[BT.ev]) q fun m s h x z h' v H1 R S r e zr=>?_
 obtain ⟨c,rfl,e2⟩:=ur e
 refine ⟨c,jV r,?_⟩
 cases c with
 | true=>rw[if_pos rfl] at e2 ⊢;exact ⟨m,s,h,z,h',R,S,e2,zr⟩
 | false=>rw[if_neg (by decide)] at e2 ⊢;cases e2;exact zr.here R (.bl _)
theorem yR {b:BT.E} (σ:L2.St) (H:Hp) (Q:VK) (q:tD X F G (.or a b) σ H Q):Ip (tD X F G a) (tD X F G b) σ H Q:=by
 refine o5 (k:=fun s=>BT.kOr (BT.ev F G b s)) (fun s h=>by simp only[BT.ev]) q fun m s h x z h' v H1 R S r e zr=>?_
 obtain ⟨c,rfl,e2⟩:=yQ e
 refine ⟨c,jV r,?_⟩
 cases c with
 | true=>rw[if_pos rfl] at e2 ⊢;cases e2;exact zr.here R (.bl _)
 | false=>rw[if_neg (by decide)] at e2 ⊢;exact ⟨m,s,h,z,h',R,S,e2,zr⟩
theorem ux {b:BT.E} (σ:L2.St) (H:Hp) (Q:Bool->Hp->Prop) (q:tDT X F G (.and a b) σ H Q):Im (tDT X F G a) (tDT X F G b) σ H Q:=by
 obtain ⟨m,s,h,c,h',R,S,ee,zr⟩:=q
 simp only[BT.ev] at ee
 obtain ⟨x,g,e1,e2⟩:=ak ee
 obtain ⟨d,rfl,e3⟩:=ur e2
 refine ⟨m,s,h,d,g,R,S,e1,fun H1 m1 x1 R1=>?_⟩
 cases d with
 | true=>rw[if_pos rfl] at e3 ⊢;exact ⟨m1,s,g,c,h',R1,S.ext x1,e3,fun H2 m2 x2 R2=>zr H2 m2 (x1.trans x2) R2⟩
 | false=>rw[if_neg (by decide)] at e3 ⊢;cases e3;exact zr H1 m1 x1 R1
theorem yS {b:BT.E} (σ:L2.St) (H:Hp) (Q:Bool->Hp->Prop) (q:tDT X F G (.or a b) σ H Q):tOr (tDT X F G a) (tDT X F G b) σ H Q:=by
 obtain ⟨m,s,h,c,h',R,S,ee,zr⟩:=q
 simp only[BT.ev] at ee
 obtain ⟨x,g,e1,e2⟩:=ak ee
 obtain ⟨d,rfl,e3⟩:=yQ e2
 refine ⟨m,s,h,d,g,R,S,e1,fun H1 m1 x1 R1=>?_⟩
 cases d with
 | true=>rw[if_pos rfl] at e3 ⊢;cases e3;exact zr H1 m1 x1 R1
 | false=>rw[if_neg (by decide)] at e3 ⊢;exact ⟨m1,s,g,c,h',R1,S.ext x1,e3,fun H2 m2 x2 R2=>zr H2 m2 (x1.trans x2) R2⟩
theorem Ct  (σ:L2.St) (H:Hp) (Q:Bool->Hp->Prop) (q:tDT X F G (.not a) σ H Q):Io (tDT X F G a) σ H Q:=by
 obtain ⟨m,s,h,c,h',R,S,ee,zr⟩:=q
 simp only[BT.ev] at ee
 obtain ⟨x,g,e1,e2⟩:=ak ee
 obtain ⟨d,rfl,e3⟩:=uv e2
 cases e3
 exact ⟨m,s,h,d,h',R,S,e1,fun H1 m1 x1 R1=>zr H1 m1 x1 R1⟩
theorem Cu  (σ:L2.St) (H:Hp) (Q:VK) (q:tD X F G (.not a) σ H Q):Eb (tD X F G a) σ H Q:=by
 refine o5 (k:=fun s=>BT.B0) (fun s h=>by simp only[BT.ev]) q fun m s h x z h' v H1 R S r e zr=>?_
 obtain ⟨c,rfl,e2⟩:=uv e
 cases e2
 exact ⟨c,jV r,zr.here R (.bl _)⟩
theorem Gk {c b:BT.E} (σ:L2.St) (H:Hp) (Q:VK) (q:tD X F G (.ite c a b) σ H Q):tIf (tDT X F G c) (tD X F G a) (tD X F G b) σ H Q:=by
 refine Gj (k:=fun s t h=>if t=true then BT.ev F G a s h else BT.ev F G b s h) (kk:=fun s=>BT.B4 (BT.ev F G a s) (BT.ev F G b s)) (fun s h=>by simp only[BT.ev]) (fun s x h r e=>Cr e) q fun m s h t z h' H1 R S e zr=>?_
 cases t with
 | true=>rw[if_pos rfl] at e ⊢;exact ⟨m,s,h,z,h',R,S,e,zr⟩
 | false=>rw[if_neg (by decide)] at e ⊢;exact ⟨m,s,h,z,h',R,S,e,zr⟩
theorem Gm  (σ:L2.St) (H:Hp) (Q:VK) (q:tD X F G (.neg a) σ H Q):tUn (rU fun i=>.int (-i)) (tD X F G a) σ H Q:=by
 refine o5 (k:=fun s=>BT.BZ) (fun s h=>by simp only[BT.ev]) q fun m s h x z h' v H1 R S r e zr=>?_
 obtain ⟨c,rfl,e2⟩:=Cs e
 cases e2
 cases r with|p r=>cases r;exact ⟨c,rfl,zr.here R (.int _)⟩
theorem qy {o o':BT.Cm}{b c:BT.E} (σ:L2.St) (H:Hp) (Q:VK) (q:tD X F G (.chain o o' a b c) σ H Q) :
 rL (rOp X.prog X.w X.K (BT.gP o)) (rOp X.prog X.w X.K (BT.gP o')) (tD X F G a) (tD X F G b) (tD X F G c) σ H Q:=by
 obtain ⟨m,s,h,z,h',R,S,ee,zr⟩:=q
 simp only[BT.ev] at ee
 obtain ⟨x,h1,e1,e2⟩:=ak ee
 simp only[BT.k2] at e2
 obtain ⟨y,h2,e3,e4⟩:=ak e2
 refine ⟨m,s,h,x,h1,R,S,e1,fun v H1 m1 x1 R1 r1=>?_⟩
 refine ⟨m1,s,h1,y,h2,R1,S.ext x1,e3,fun u H2 m2 x2 R2 r2=>?_⟩
 unfold BT.oCh at e4
 cases g1:BT.rd x h2 with
 | none=>rw[g1] at e4;cases e4
 | some d =>
  cases y with
  | p d' =>
   rw[g1] at e4
   simp only at e4
   have ho:∀ (o:BT.Cm) (x':BT.W) (hh:BT.HH) dd,BT.rd x' hh=some dd->∀ y' dd',BT.rd y' hh=some dd'->BT.gP o x' y' hh=(BT.dX o dd dd').map fun z=>(.p (.bl z),hh):=by
    intro o x' hh dd q1 y' dd' q2
    unfold BT.gP
    cases y' with
    | k _=>cases q2
    | c _ _=>cases q2
    | x _=>cases q2
    | o _=>cases q2
    | _=>simp only[q1,q2]
   cases g3:BT.dX o d d' with
   | none=>rw[g3] at e4;cases e4
   | some t =>
    rw[g3] at e4
    refine ⟨m2,h2,x,.p d',.p (.bl t),h2,R2,r1.ext x2,r2,by rw[ho o x h2 d g1 (.p d') d' rfl,g3];rfl,fun v3 H3 m3 x3 R3 r3=>⟨t,jV r3,?_⟩⟩
    cases t with
    | false =>
     rw[if_neg (by decide)]
     cases e4
     exact zr _ H3 m3 ((x1.trans x2).trans x3) R3 (.p (.bl _))
    | true =>
     rw[if_pos rfl]
     obtain ⟨w3,h3,e5,e6⟩:=ak e4
     refine ⟨m3,s,h2,w3,h3,R3,((S.ext x1).ext x2).ext x3,e5,fun v4 H4 m4 x4 R4 r4=>?_⟩
     unfold BT.Jl at e6
     cases g4:BT.rd w3 h3 with
     | none=>rw[g4] at e6;cases e6
     | some f =>
      rw[g4] at e6
      simp only at e6
      refine ⟨m4,h3,.p d',w3,z,h',R4,(r2.ext x3).ext x4,r4,by rw[ho o' (.p d') h3 d' rfl w3 f g4];exact e6,fun v5 H5 m5 x5 R5 r5=>zr v5 H5 m5 ((((x1.trans x2).trans x3).trans x4).trans x5) R5 r5⟩
  | _=>rw[g1] at e4;cases e4
theorem Gn {lo hi:BT.Es}{tl th:TO} (hl:∀ σ H (Q:Option Int->Hp->Prop),(∃ m s h l zs h',RH X.K m H h/\RS X.prog X.w X.K m H σ s/\BT.evs F G lo s h=some (zs,h')/\(BT.aO zs).bind BT.oK=some l/\∀ H' m',Ext m H m' H'->RH X.K m' H' h'->Q l H')->tl σ H Q)
 (hh:∀ σ H (Q:Option Int->Hp->Prop),(∃ m s h l zs h',RH X.K m H h/\RS X.prog X.w X.K m H σ s/\BT.evs F G hi s h=some (zs,h')/\(BT.aO zs).bind BT.oK=some l/\∀ H' m',Ext m H m' H'->RH X.K m' H' h'->Q l H')->th σ H Q)
 (σ:L2.St) (H:Hp) (Q:VK) (q:tD X F G (.slc a lo hi) σ H Q):tSl (rSl X.prog X.w X.K) (tD X F G a) tl th σ H Q:=by
 obtain ⟨m,s,h,z,h',R,S,ee,zr⟩:=q
 simp only[BT.ev] at ee
 obtain ⟨x,h1,e1,e2⟩:=ak ee
 simp only[BT.Jp] at e2
 obtain ⟨ls,h2,e3,e4⟩:=ak e2
 simp only[BT.Jo] at e4
 obtain ⟨us,h3,e5,e6⟩:=ak e4
 unfold BT.Jm at e6
 cases g1:BT.rd x h3 with
 | none=>rw[g1] at e6;cases e6
 | some d =>
  cases g2:(BT.aO ls).bind BT.oK with
  | none=>rw[g1,g2] at e6;cases e6
  | some l =>
   cases g3:(BT.aO us).bind BT.oK with
   | none=>rw[g1,g2,g3] at e6;cases e6
   | some u =>
    rw[g1,g2,g3] at e6
    simp only at e6
    obtain ⟨b,e7,e8⟩:=aC e6
    cases e8
    refine ⟨m,s,h,x,h1,R,S,e1,fun v H1 m1 x1 R1 r1=>hl σ H1 _ ⟨m1,s,h1,l,ls,h2,R1,S.ext x1,e3,g2,fun H2 m2 x2 R2=>hh σ H2 _ ⟨m2,s,h2,u,us,h',R2,(S.ext x1).ext x2,e5,g3,fun H3 m3 x3 R3=>?_⟩⟩⟩
    exact ⟨m3,h',x,d,b,R3,(r1.ext x2).ext x3,g1,e7,fun v5 H5 m5 x5 R5 r5=>zr v5 H5 m5 (((x1.trans x2).trans x3).trans x5) R5 r5⟩
end
section
variable {F:FT}{G:Str->Option BT.W}
theorem uy {f:Str}{sp:Sp} (hs:sp=spF X.prog X.w X.K (F (.f f)))  (q:tD X F G (.call f as) σ H Q):tP sp [] E0 (tDs X F G as) σ H Q:=by
 subst hs
 refine iR (k:=fun ws h=>F (.f f) ws h) (fun s h=>by simp only[BT.ev]) q fun m h xs z h' vs H1 R r e zr=>?_
 rw[Pr]
 exact ⟨m,xs,h,z,h',R,r,e,zr⟩
theorem fM {Q:List V->Hp->Prop} (q:tDs X F G .nil σ H Q):xT σ H Q:=by
 obtain ⟨m,s,h,zs,h',R,S,ee,zr⟩:=q
 simp only[BT.evs] at ee
 cases ee
 exact zr [] H m (.refl _ _) R .nil
theorem yT  (O:Ok X F G sc N) {f:Str}{p:Pos} (hg:aE sc f=true) (hn:aH f=true) (hc:CEs sc N as es) (ha:PA X es (tDs X F G as)) :
 PE X (.Call (.Name f p) es [] pos) (tD X F G (.call f as)):=by
 have hst:=bY hc
 intro zt s σ H Q I q
 have q0:=q
 obtain ⟨m,s',h,z,h',R,S,ee,zr⟩:=q
 simp only[BT.ev] at ee
 obtain ⟨ws,h1,e1,e2⟩:=ak ee
 obtain ⟨fa,fd,ps,k,hm,hk,hb,hr,ok⟩:=O.call _ _ _ _ e2
 cases es with
 | nil =>
  cases as with
  | cons a r=>cases hc
  | nil=>exact (PE.weak (qa ok hr (aM O hg) hm hk hb .nil lG (bB hn).1) (fun σ H Q z=>fM (uy (X:=X) rfl z))) zt s σ H Q I q0
 | cons e es =>
  simp only[aq,OQ] at hst
  exact (PE.weak (tR ok hr (aM O hg) hm hk hb .nil lG ha (bB hn).1 (aj hst.1) (aI hst.2)) (fun σ H Q z=>uy rfl z)) zt s σ H Q I q0
theorem jW {me:BT.Me}{o:BT.E}{oe:ON}{cpos:Pos}{T id:String} (pa:PlainAttrs T) (slot:Slot T name id)
 (hty:typeOf (.builtin id)=pure (.type "method_descriptor")) (hm:MtR X id (rMe X.prog X.w X.K me)) (hb:aL oe=true) (hl:(apos.endLine==cpos.line)=true) (hlen:es.length < 20) (ho:PE X oe (tD X F G o)) (hc:CEs sc N as es) (ha:PA X es (tDs X F G as))
 (ty:∀ (m:List OR) (h h2:BT.HH) (H:Hp) (v:V) (x:BT.W) ws r,RH X.K m H h->RW X.prog X.w X.K m H v x->BT.ng x h=true->BT.meW me x ws h2=some r->(∃ σ s,RS X.prog X.w X.K m H σ s/\∃ h0,BT.ev F G o s h0=some (x,h))->tyV X.K T v H) :
 PE X (.Call (.Attribute oe name apos) es [] cpos) (tD X F G (.me me o as)):=by
 have hst:=bY hc
 have key:∀ σ H Q,tD X F G (.me me o as) σ H Q->tBM X.K T (rMe X.prog X.w X.K me) (tD X F G o) (tDs X F G as) σ H Q:=by
  intro σ H Q q
  obtain ⟨m,s,h,z,h',R,S,ee,zr⟩:=q
  simp only[BT.ev] at ee
  obtain ⟨x,h1,e1,e2⟩:=ak ee
  obtain ⟨ok,e2⟩:=uq e2
  obtain ⟨ws,h2,e3,e4⟩:=ak e2
  refine ⟨m,s,h,x,h1,R,S,e1,fun v H1 m1 x1 R1 r1=>⟨ty m1 h1 h2 H1 v x ws _ R1 r1 ok e4 ⟨σ,s,S.ext x1,h,e1⟩,m1,s,h1,ws,h2,R1,S.ext x1,e3,fun vs H2 m2 x2 R2 r2=>?_⟩⟩
  exact ⟨m2,h2,x,ws,z,h',R2,r1.ext x2,r2,e4,fun v5 H5 m5 x5 R5 r5=>zr v5 H5 m5 ((x1.trans x2).trans x5) R5 r5⟩
 cases es with
 | nil =>
  cases as with
  | cons a r=>cases hc
  | nil =>
   refine PE.weak (Fx pa slot hty hm ho (kW hb) hl) fun σ H Q q=>?_
   obtain ⟨m,s,h,z,h',R,S,ee,zr⟩:=key σ H Q q
   exact ⟨m,s,h,z,h',R,S,ee,fun v H1 m1 x1 R1 r1=>⟨(zr v H1 m1 x1 R1 r1).1,fM (zr v H1 m1 x1 R1 r1).2⟩⟩
 | cons e es =>
  simp only[aq,OQ] at hst
  refine PE.weak (Ek pa slot hty hm ho ha (kW hb) ?_ hl (aj hst.1) (aI hst.2)) key
  rw[jG (es:=e :: es) (by simp only[aq,OQ];exact hst)]
  have h30:decide ((e :: es).length+([]:List Te).length+(if ([]:List Te).isEmpty then 0 else 1) < 30)=true:=decide_eq_true (by
   simp only[Ph,Qv,List.isEmpty_nil,if_true] at hlen ⊢;lia)
  rw[h30];rfl
theorem kC {mu:Bool} (q:tD X F G (.bi b mu as) σ H Q):tCB (rBi X.prog X.w X.K b mu) (tDs X F G as) σ H Q:=by
 refine iR (k:=fun ws h=>BT.kBi b mu ws h) (fun s h=>by simp only[BT.ev]) q fun m h xs z h' vs H1 R r e zr=>?_
 exact ⟨m,h,xs,z,h',R,r,e,zr⟩
theorem Gp  (O:Ok X F G sc N) (hu:cR N=true) {mu:Bool}{x:Str}{e:ON}{p:Pos} (hb:Ex b mu x=true) (hg:aE sc x=true) (hst:aq (e :: es)=true) (ha:PA X (e :: es) (tDs X F G as)) :
 PE X (.Call (.Name x p) (e :: es) [] pos) (tD X F G (.bi b mu as)):=by
 simp only[aq,OQ] at hst
 have hx:yw b mu=some x:=eq_of_beq hb
 have hB:=O.blt
 cases b<;>cases mu<;>first|(cases hx;done)|(change some _=some _ at hx)
 all_goals (cases hx)
 ·exact PE.weak (fh Gf (aM O hg) (hB _ (by decide)) PySem.boot_len ha (by decide) (by decide) (aj hst.1) (aI hst.2)) (fun σ H Q z=>kC z)
 ·exact PE.weak (fh Gg (aM O hg) (hB _ (by decide)) (by decide +kernel) ha (by decide) (by decide) (aj hst.1) (aI hst.2)) (fun σ H Q z=>kC z)
 ·exact PE.weak (iL Gi (aM O hg) (hB _ (by decide)) (by decide +kernel) ha (by decide) (by decide) (aj hst.1) (aI hst.2)) (fun σ H Q z=>kC z)
 ·exact PE.weak (iL uh (aM O hg) (hB _ (by decide)) (by decide +kernel) ha (by decide) (by decide) (aj hst.1) (aI hst.2)) (fun σ H Q z=>kC z)
 ·exact PE.weak (iL uh (aM O hg) (hB _ (by decide)) (by decide +kernel) ha (by decide) (by decide) (aj hst.1) (aI hst.2)) (fun σ H Q z=>kC z)
 ·exact PE.weak (iL yK (aM O hg) (hB _ (by decide)) (by decide +kernel) ha (by decide) (by decide) (aj hst.1) (aI hst.2)) (fun σ H Q z=>kC z)
theorem wg  (hb:qp b=some (c,f)):cO X (.builtin "isinstance") (fun vs H Q=>∃ v,vs=[v,.ty c]/\rBi X.prog X.w X.K b false [v] H Q):=by
 intro zt s σ H vs us Q I rus h
 obtain ⟨v,rfl,m,h,ws,z,h',R,rws,e,zr⟩:=h
 obtain ⟨u,u2,rfl,ru,ru2⟩:=rus.two
 cases ru2
 obtain ⟨ds,d,e1,e2,⟨_,rfl,rfl⟩|⟨_,q,_⟩⟩:=jg e
 ·have rr:=fY R rws e1
  cases rr with
  | cons r t =>
   cases t
   rw[yM hb] at e2
   cases e2
   exact Cj I r ru (yN hb X.K _) fun tk=>⟨.bl _,H,I.tok tk,rfl,zr.here R (.bl _)⟩
 ·cases q
theorem yU  (O:Ok X F G sc N) {p:Pos} (hb:qp b=some (c,f)) (hg:aE sc "isinstance"=true) (hg2:aE sc (O3 c)=true) (hst:noStar e=true) (ha:PE X e (tD X F G a)) :
 PE X (.Call (.Name "isinstance" p) [e,.Name (O3 c) p2] [] pos) (tD X F G (.bi b false (.cons a .nil))):=by
 have hB:=O.blt
 have hc:PE X (.Name (O3 c) p2) (tC (.ty c)):=by
  cases b<;>simp only[qp] at hb<;>try contradiction
  all_goals (cases hb)
  ·exact iK (aM O hg2) (hB _ (by decide)) (u:=.type "int") (by decide +kernel) rfl (by decide) (by decide)
  ·exact iK (aM O hg2) (hB _ (by decide)) (u:=.type "bool") (by decide +kernel) rfl (by decide) (by decide)
  ·exact iK (aM O hg2) (hB _ (by decide)) (u:=.type "str") (by decide +kernel) rfl (by decide) (by decide)
  ·exact iK (aM O hg2) (hB _ (by decide)) (u:=.type "tuple") (by decide +kernel) rfl (by decide) (by decide)
  ·exact iK (aM O hg2) (hB _ (by decide)) (u:=.type "list") (by decide +kernel) rfl (by decide) (by decide)
 refine PE.weak (fh (wg hb) (aM O hg) (hB _ (by decide)) (by decide +kernel) (cF ha (cF hc gX) (aj hst)) (by decide) (by decide) (aj hst) rfl) fun σ H Q q=>?_
 obtain ⟨m,s,h,z,h',R,S,ee,zr⟩:=q
 simp only[BT.ev,BT.evs] at ee
 obtain ⟨ws,h1,e1,e2⟩:=ak ee
 obtain ⟨x,h2,e3,e4⟩:=ak e1
 simp only[BT.lN,BT.bR,BT.jb] at e4
 cases e4
 refine ⟨m,s,h,x,h1,R,S,e3,fun v H1 m1 x1 R1 r1=>?_⟩
 exact ⟨v,rfl,m1,h1,[x],z,h',R1,.cons r1 .nil,e2,fun v5 H5 m5 x5 R5 r5=>zr v5 H5 m5 (x1.trans x5) R5 r5⟩
theorem Gq  (σ:L2.St) (H:Hp) (Q:VK) (q:tD X F G (.tup as) σ H Q):IQ (tDs X F G as) σ H Q:=by
 refine iR (k:=fun ws h=>BT.FJ ws h) (fun s h=>by simp only[BT.ev]) q fun m h xs z h' vs H1 R r e zr=>?_
 unfold BT.FJ at e
 cases g:BT.aO xs with
 | none=>rw[g] at e;cases e
 | some ds =>
  rw[g] at e
  simp only at e
  split at e
  ·rename_i c
   cases e
   have rd:=r.pure g
   have:=cU
   have hl:=rd.length
   exact ⟨by lia,fun p hp=>jB R hp rd zr⟩
  ·cases e
theorem Gs {mu:Bool} (σ:L2.St) (H:Hp) (Q:VK) (q:tD X F G (.lst mu as) σ H Q):IR (tDs X F G as) σ H Q:=by
 refine iR (k:=fun ws h=>BT.FM mu ws h) (fun s h=>by simp only[BT.ev]) q fun m h xs z h' vs H1 R r e zr=>?_
 unfold BT.FM at e
 cases g:BT.aO xs with
 | none=>rw[g] at e;cases e
 | some ds =>
  rw[g] at e
  simp only at e
  split at e
  ·rename_i c
   have rd:=r.pure g
   have:=cU
   have hl:=rd.length
   have ez:BT.new mu ds h=(z,h'):=OV e
   exact ⟨by lia,fun p hp=>iN (mu:=mu) R hp rd (by rw[ez];exact zr)⟩
  ·cases e
theorem cons_of  (σ:L2.St) (H:Hp) (Q:List V->Hp->Prop) (q:tDs X F G (.cons a as) σ H Q):Ei (tD X F G a) (tDs X F G as) σ H Q:=by
 obtain ⟨m,s,h,zs,h',R,S,ee,zr⟩:=q
 simp only[BT.evs] at ee
 obtain ⟨x,h1,e1,e2⟩:=ak ee
 simp only[BT.lN] at e2
 obtain ⟨xs,h2,e3,e4⟩:=ak e2
 simp only[BT.jb] at e4
 cases e4
 exact ⟨m,s,h,x,h1,R,S,e1,fun v H1 m1 x1 R1 r1=>⟨m1,s,h1,xs,h',R1,S.ext x1,e3,fun vs H2 m2 x2 R2 r2=>zr _ H2 m2 (x1.trans x2) R2 (.cons (r1.ext x2) r2)⟩⟩
end
section
variable {K:OM}{m:List OR}{H:Hp}
theorem RFs.get {f:Str}{x:BT.W}:∀ {vs:List (Str×V)}{fs:List (Str×BT.W)},RFs K m H vs fs->BT.aX f fs=some x->∃ v,vs.lookup f=some v/\RA K m H v x
 | _,_,.nil,e=>by cases e
 | _,_,.cons (f:=g) r t,e=>by
  rw[BT.nO] at e
  by_cases c:f=g
  ·rw[if_pos c] at e;cases e;subst c;exact ⟨_,by simp,r⟩
  ·rw[if_neg c] at e
   obtain ⟨v,h1,h2⟩:=RFs.get t e
   exact ⟨v,by rw[Qm];rw[beq_false_of_ne c];exact h1,h2⟩
theorem RFs.none {f:Str}:∀ {vs:List (Str×V)}{fs:List (Str×BT.W)},RFs K m H vs fs->(BT.aX f fs).isNone=true->vs.lookup f=none
 | _,_,.nil,_=>rfl
 | _,_,.cons (f:=g) r t,e=>by
  rw[BT.nO] at e
  by_cases c:f=g
  ·rw[if_pos c] at e;cases e
  ·rw[if_neg c] at e
   rw[Qm,beq_false_of_ne c]
   exact RFs.none t e
theorem RFs.put {f:Str}{v:V}{x:BT.W} (q:RA K m H v x):∀ {vs:List (Str×V)}{fs:List (Str×BT.W)},RFs K m H vs fs->RFs K m H (L2.bF f v vs) (BT.bF f x fs)
 | _,_,.nil=>.cons q .nil
 | _,_,.cons (f:=g) r t=>by
  rw[L2.bF,BT.vR]
  by_cases c:f=g
  ·rw[if_pos c,if_pos c.symm];subst c;exact .cons q t
  ·rw[if_neg c,if_neg (Qj c)];exact .cons r (RFs.put q t)
theorem RFs.length:∀ {vs:List (Str×V)}{fs:List (Str×BT.W)},RFs K m H vs fs->vs.length=fs.length
 | _,_,.nil=>rfl
 | _,_,.cons _ t=>by rw[Ph,Ph,RFs.length t]
end
section
variable {F:FT}{G:Str->Option BT.W}
theorem Cv {f:Str} (e:BT.B5 f x h=some r):∃ n c fs w,x=.o n/\BT.oat h n=some (c,fs)/\BT.aX f fs=some w/\r=(w,h):=by
 cases x with
 | o n =>
  rw[BT.FO] at e
  cases g:BT.oat h n with
  | none=>rw[g] at e;cases e
  | some q =>
   obtain ⟨c,fs⟩:=q
   rw[g] at e
   obtain ⟨w,e1,e2⟩:=aC e
   exact ⟨n,c,fs,w,rfl,g,e1,e2.symm⟩
 | _=>cases e
theorem Cw {sc:O6}{N:List Str}{f:Str}{x:ON}{p:Pos} (hb:aL x=true) (hf:attrName f=true) (ha:PE X x (tD X F G a)):PE X (.Attribute x f p) (tD X F G (.fld a f)):=by
 refine PE.weak (Fi ha (kW hb)) fun σ H Q q=>?_
 refine Ez (k:=BT.B5 f) (fun s h=>by simp only[BT.ev]) q fun m h x z h' v H1 R r e zr=>?_
 obtain ⟨n,c,fs,w,rfl,e1,e2,e3⟩:=Cv e
 cases e3
 cases r with
 | o hn =>
  obtain ⟨C,dx,vs,h1,h2,h3⟩:=R.lS _ _ _ _ hn e1
  obtain ⟨u,l,ra⟩:=h3.get e2
  exact ⟨_,C,dx,vs,u,rfl,h1,h2.cls,h2.no f hf,l,zr u H1 m (.refl _ _) R ra.rw⟩
theorem gq {o:ON}{m:Str}{args:List ON} (hb:aL o=true) (hst:aq args=true) (hlen:args.length < 20) (hl:(apos.endLine==pos.line)=true) :
 eval (.Call (.Attribute o m apos) args [] pos) env=(do
  let ov ← eval o env
  standAt apos.atName
  let (f,first) ← holding [ov] (Tn ov m (do return (← importBound o env).getD true))
  callWith pos f first (QA pos (Pe args env)) (SL pos (Rj [] env))):=by
 have hf:methodCallForm (args.length+([]:List Te).length) (QA pos (Pe args env)) (SL pos (Rj [] env))=true:=by
  unfold methodCallForm
  have h30:decide (args.length+([]:List Te).length+(if (SL pos (Rj [] env)).isEmpty then 0 else 1) < 30)=true:=decide_eq_true (by
   show args.length+0+0 < 30
   lia)
  rw[h30,jG hst];rfl
 rw[arm_eval_Call,kW hb]
 unfold methodCall
 rw[hf]
 have hp:methodCallPos true o env apos pos=pure pos:=by
  unfold methodCallPos
  rw[hl];rfl
 rw[hp]
 rfl
theorem yV {m:Str}{ea:BT.HH->Option (List BT.W×BT.HH)} (e:BT.yi F m ea x h=some r) :
 ∃ n c fs ws g,x=.o n/\BT.oat h n=some (c,fs)/\(BT.aX m fs).isNone=true/\ea h=some (ws,g)/\F (.m c m) (.o n :: ws) g=some r:=by
 cases x with
 | o n =>
  rw[BT.B6] at e
  cases g:BT.oat h n with
  | none=>rw[g] at e;cases e
  | some q =>
   obtain ⟨c,fs⟩:=q
   rw[g] at e
   simp only at e
   split at e
   ·rename_i c1
    obtain ⟨ws,g2,e1,e2⟩:=ak e
    exact ⟨n,c,fs,ws,g2,rfl,g,c1,e1,e2⟩
   ·cases e
 | _=>cases e
theorem yW  (O:Ok X F G sc N) {o:BT.E}{m:Str}{oe:ON}{cpos:Pos} (hb:aL oe=true) (hl:(apos.endLine==cpos.line)=true) (hlen:es.length < 20) (ho:PE X oe (tD X F G o)) (hc:CEs sc N as es) (ha:PA X es (tDs X F G as)) :
 PE X (.Call (.Attribute oe m apos) es [] cpos) (tD X F G (.meth o m as)):=by
 have hst:=bY hc
 intro zt s σ H Q I q
 obtain ⟨m0,s',h,z,h',R,S,ee,zr⟩:=q
 simp only[BT.ev] at ee
 obtain ⟨x,h1,e1,e2⟩:=ak ee
 obtain ⟨n,c,fs,ws,g,rfl,e3,e4,e5,e6⟩:=yV e2
 obtain ⟨C,ga,fd,ps,k,hC,hM,hB,hR,ok⟩:=O.meth _ _ _ _ _ e6
 have key:tQ C m (spF X.prog X.w X.K (F (.m c m))) [] E0 (tD X F G o) (tDs X F G as) σ H Q:=by
  refine ⟨m0,s',h,.o n,h1,R,S,e1,fun v H1 m1 x1 R1 r1=>?_⟩
  cases r1 with
  | @o a _ hn =>
   obtain ⟨C',dx,vs,q1,q2,q3⟩:=R1.lS _ _ _ _ hn e3
   cases q2.cn.inj hC.cn
   refine ⟨a,dx,vs,rfl,q1,q3.none e4,m1,s',h1,ws,g,R1,S.ext x1,e5,fun us H2 m2 x2 R2 r2=>?_⟩
   show spF X.prog X.w X.K (F (.m c m)) (V.ref a :: (us++[])) H2 Q E0
   rw[Pr]
   exact ⟨m2,.o n :: ws,g,z,h',R2,.cons (.o (x2.ix hn)) r2,e6,fun v5 H5 m5 x5 R5 r5=>zr v5 H5 m5 ((x1.trans x2).trans x5) R5 r5⟩
 cases es with
 | nil =>
  cases as with
  | cons a r=>cases hc
  | nil =>
   refine qb ho hC.cls hM ok hR hB .nil lG (gq hb hst hlen hl) zt s σ H Q I ?_
   obtain ⟨m,s,h,z,h',R,S,ee,zr⟩:=key
   refine ⟨m,s,h,z,h',R,S,ee,fun v H1 m1 x1 R1 r1=>?_⟩
   obtain ⟨a,dx,fs,q1,q2,q3,q4⟩:=zr v H1 m1 x1 R1 r1
   exact ⟨a,dx,fs,q1,q2,q3,fM q4⟩
 | cons e es =>
  have hst':=hst
  simp only[aq,OQ] at hst'
  exact tS ho hC.cls hM ok hR hB .nil lG ha (aj hst'.1) (aI hst'.2) (gq hb hst hlen hl) zt s σ H Q I key
theorem yX  (O:Ok X F G sc N) {c:Str}{p:Pos} (hg:aE sc c=true) (hn:aH c=true) (hc:CEs sc N as es) (ha:PA X es (tDs X F G as)) :
 PE X (.Call (.Name c p) es [] pos) (tD X F G (.make c as)):=by
 have hst:=bY hc
 intro zt s σ H Q I q
 obtain ⟨m0,s',h,z,h',R,S,ee,zr⟩:=q
 simp only[BT.ev] at ee
 obtain ⟨ws,h1,e1,e2⟩:=ak ee
 rw[BT.yj] at e2
 obtain ⟨y,h2,e3,e4⟩:=ak e2
 have e5:y=.p .non/\(z,h')=(.o h1.length,h2):=by
  cases y with
  | p d=>cases d<;>simp[BT.uc] at e4;exact ⟨rfl,by rw[e4.1,e4.2]⟩
  | _=>cases e4
 obtain ⟨rfl,e5⟩:=e5
 cases e5
 obtain ⟨C,ga,fd,ps,k,hC,hmg,hM,hB,hR,ok⟩:=O.mkc _ _ _ _ e3
 have key:xU C (spF X.prog X.w X.K (F (.m c "__init__"))) [] E0 (tDs X F G as) σ H Q:=by
  refine ⟨m0,s',h,ws,h1,R,S,e1,fun us H1 m1 x1 R1 r1 x dx nx ndx ne=>?_⟩
  rw[Pr]
  have xa:Ext m1 H1 m1 (upd H1 dx (.own x)):=eg ndx
  have Ra:RH X.K m1 (upd H1 dx (.own x)) h1:=R1.new ndx
  have nx':upd H1 dx (.own x) x=none:=by rw[ao (Qj ne)];exact nx
  have xb:Ext m1 (upd H1 dx (.own x)) (m1++[x]) (upd (upd H1 dx (.own x)) x (.ins C dx [])):=jA nx'
  have Rb:RH X.K (m1++[x]) (upd (upd H1 dx (.own x)) x (.ins C dx [])) (h1++[.o c []]):=Ra.JL nx' ⟨C,dx,[],aG,hC,.nil⟩
  have ix:(m1++[x])[h1.length]?=some x:=by rw[← R1.len];simp
  refine ⟨m1++[x],.o h1.length :: ws,h1++[.o c []],.p .non,h',Rb,.cons (.o ix) (r1.ext (xa.trans xb)),e3,fun v H2 m2 x2 R2 r2=>?_⟩
  cases r2 with
  | p r2 =>
   cases r2
   exact ⟨rfl,zr _ H2 m2 (((x1.trans xa).trans xb).trans x2) R2 (.o (x2.ix ix))⟩
 cases es with
 | nil =>
  cases as with
  | cons a r=>cases hc
  | nil =>
   refine xV hM ok hR (aM O hg) hmg hB .nil lG (bB hn).1 zt s σ H Q I ?_
   exact fM key
 | cons e es =>
  simp only[aq,OQ] at hst
  exact Bu hM ok hR (aM O hg) hmg hB .nil lG ha (bB hn).1 (aj hst.1) (aI hst.2) zt s σ H Q I key
def Gu (o:BT.Bin):TIp:=fun x y H Q=>∃ i j z,x=.int i/\y=.int j/\BT.lI o (.int i) (.int j)=some (.int z)/\Q (.int z) H
noncomputable def yY:BT.Bin->Rn->Bool
 | .add,.Add=>true
 | .sub,.Sub=>true
 | .mul,.Mult=>true
 | _,_=>false
theorem uz {op:Rn} (h:yY o op=true):PIp X op (Gu o):=by
 rintro zt s σ H x y u v Q I rx ry ⟨i,j,z,rfl,rfl,e,q⟩
 obtain ⟨t,rfl⟩:=(show ∃ t,u=Tq i t from rx)
 obtain ⟨t',rfl⟩:=(show ∃ t',v=Tq j t' from ry)
 cases o<;>cases op<;>cases h
 ·cases e;exact PyProof.Rows.iadd_int ⟨.int (i+j),H,I.tok _,⟨_,rfl⟩,q⟩
 ·cases e;exact PyProof.Rows.isub_int ⟨.int (i - j),H,I.tok _,⟨_,rfl⟩,q⟩
 ·rw[BT.qj] at e
  split at e
  ·rename_i c
   cases e
   have hc:Bl i j:=by
    rcases QJ _ _ ▸ c with c|c
    ·exact .inl (oY c)
    ·exact .inr (oY c)
   exact PyProof.Rows.imul_int ⟨.int (i*j),H,I.tok _,⟨_,rfl⟩,q⟩ hc.ok
  ·cases e
theorem uA {e z:BT.D} (h:BT.lI o d e=some z):∃ i j k,d=.int i/\e=.int j/\z=.int k:=by
 cases d with
 | int i =>
  cases e with
  | int j =>
   refine ⟨i,j,?_⟩
   cases o with
   | add=>exact ⟨_,rfl,rfl,(OV h).symm⟩
   | sub=>exact ⟨_,rfl,rfl,(OV h).symm⟩
   | mul =>
    rw[BT.qj] at h
    split at h
    ·exact ⟨_,rfl,rfl,(OV h).symm⟩
    ·cases h
   | _=>exact ai h
  | _=>cases o<;>exact ai h
 | _=>cases o<;>exact ai h
end
section
variable {K:OM}{m:List OR}{H:Hp}
end
theorem jX {vs:List V}{us:List Value} (r:az vs us):∀ l:List Nat,az (l.filterMap fun i=>vs[i]?) (l.filterMap fun i=>us[i]?)
 | []=>.nil
 | i :: l=>by
  rw[PV,PV]
  cases g:vs[i]? with
  | none =>
   have:us[i]?=none:=by
    have h:=r.length
    rw[TV] at g ⊢
    lia
   rw[this]
   exact jX r l
  | some d =>
   obtain ⟨v,e,q⟩:=r.get g
   rw[e]
   exact .cons q (jX r l)
noncomputable def qz (k:Int) (xs:List V):List V:=(SK (Pz none none (some k) xs.length).1 (Pz none none (some k) xs.length).2.1 (Pz none none (some k) xs.length).2.2).filterMap fun i=>xs[i]?
section
variable {F:FT}{G:Str->Option BT.W}
theorem Gv {se:ON}{te:TE} (hk:k≠0) (he:PE X e te) (hs:PE X se (tC (.int k))) :
 PE X (.Subscript e (.Slice none none (some se) p2) pos) (fun σ H Q=>te σ H fun x H1=>∃ a xs,x=.ref a/\SqL X.K H1 a xs/\∀ p,H1 p=none->Q (.ref p) (upd H1 p (.lst (qz k xs)))):=by
 intro zt s σ H Q I h
 refine Subscript_ (thn (he zt s σ H _ I h) fun v s1 zq=>?_)
 obtain ⟨x,H1,I1,r1,a,xs,ex,hx,q⟩:=zq
 subst ex
 cases r1
 refine wpAny_Slice ?_
 rw[US]
 refine wpAny_pure (wpAny_pure ?_)
 rw[evalPart_some]
 refine thn (hs zt s1 σ H1 (fun v H'=>v=.int k/\H'=H1) I1 ⟨rfl,rfl⟩) fun vs s3 zq=>?_
 obtain ⟨y,H3,I3,r3,hy,hh⟩:=zq
 subst hy hh
 obtain ⟨t,rfl⟩:=r3
 have I4:Inv X zt σ H3 { s3 with heap:=s3.heap.push { cls:=.type "slice",data:=.fields #[.none,.none,.int k t] } }:=I3.kept (t':=s3.toks) fun b ob q=>OS _ q
 obtain ⟨its,rv,p,hz⟩:=I4.list hx
 have hg:wpAny (Pc X.prog X.w) X.A (TJ (.ref a) (.ref s3.heap.objs.size)) (EP X zt σ Q) X.xe { s3 with heap:=s3.heap.push { cls:=.type "slice",data:=.fields #[.none,.none,.int k t] } }:=by
  have hlen:=rv.length
  refine UE p.isList (Tv ..) .none .none (.int k t) (by intro z;exact hk (OV z)) ?_ (by rw[OT];lia)
  have hp:slicePick its.toArray none none (some k)=((SK (Pz none none (some k) xs.length).1 (Pz none none (some k) xs.length).2.1 (Pz none none (some k) xs.length).2.2).filterMap fun i=>its[i]?).toArray:=by
   unfold slicePick
   rw[OT,← hlen]
   simp
  rw[hp]
  have hq:=jX rv (SK (Pz none none (some k) xs.length).1 (Pz none none (some k) xs.length).2.1 (Pz none none (some k) xs.length).2.2)
  have hz':(qz k xs).length<=xs.length:=by
   have:=slicePick_size_le its.toArray none none (some k)
   rw[hp,OT,OT] at this
   have e:=hq.length
   unfold qz
   lia
  refine ⟨.ref (s3.heap.push { cls:=.type "slice",data:=.fields #[.none,.none,.int k t] }).objs.size,_,I4.laid (t':=s3.toks) (o:=.lst (qz k xs)) (fun b ob q=>OS _ q) (OX _) ?_,rfl,q _ (I4.hok.fresh (OX _))⟩
  exact ⟨by lia,_,0,hq,Pf _ rfl⟩
 show wpAny (Pc X.prog X.w) X.A (UO e (.Slice none none (some se) p2) (.ref a) (.ref s3.heap.objs.size)) (EP X zt σ Q) X.xe { s3 with heap:=s3.heap.push { cls:=.type "slice",data:=.fields #[.none,.none,.int k t] } }
 exact tail_any (ops:=[.ref a,.ref s3.heap.objs.size]) p.isList.typeIs slot_list_getitem.lookup hg (by with_unfolding_all rfl)
theorem uB  (h:(Ca e).bind cInt=some k):∃ a b,e=.Constant (.int k) a b:=by
 cases e with
 | Constant c a b =>
  cases c with
  | int j=>cases h;exact ⟨a,b,rfl⟩
  | _=>exact absurd (show (none:Option Int)=some _ from h) (fun z=>nomatch z)
 | _=>exact absurd (show (none:Option Int)=some _ from h) (fun z=>nomatch z)
theorem yZ  (h:oV k e=true):(∃ a b,e=.Constant (.int k) a b/\0 < k)\/∃ j a b p,e=.UnaryOp .USub (.Constant (.int j) a b) p/\k=-j/\0 < j:=by
 unfold oV at h
 rw[QJ,OQ,OQ,decide_eq_true_eq,decide_eq_true_eq] at h
 rcases h with ⟨h1,h2⟩|⟨h1,h2⟩
 ·obtain ⟨a,b,e1⟩:=uB (eq_of_beq h1)
  exact .inl ⟨a,b,e1,h2⟩
 ·have h1:=eq_of_beq h1
  cases e with
  | UnaryOp o e p =>
   by_cases c:o=.USub
   ·subst c
    have h3:(Ca e).bind cInt=some (-k):=h1
    obtain ⟨a,b,rfl⟩:=uB h3
    exact .inr ⟨-k,a,b,p,rfl,by lia,by lia⟩
   ·have:unE (.UnaryOp o e p)=none:=if_neg c
    rw[this] at h1
    cases h1
  | _=>exact absurd (show (none:Option Int)=some _ from h1) (fun z=>nomatch z)
theorem Cy {mu:Bool}{x se:ON}{p:Pos} (hk:oV k se=true) (ha:PE X x (tD X F G a)):PE X (.Subscript x (.Slice none none (some se) p2) p) (tD X F G (.stp mu k a)):=by
 have hs:k≠0/\PE X se (tC (.int k)):=by
  rcases yZ hk with ⟨a,b,rfl,h⟩|⟨j,a,b,p,rfl,rfl,h⟩
  ·exact ⟨by lia,rF⟩
  ·exact ⟨by lia,PE.weak (Eg xK rF) fun σ H Q q=>⟨_,rfl,q⟩⟩
 refine PE.weak (Gv hs.1 ha hs.2) fun σ H Q q=>?_
 refine Ez (k:=BT.FN mu k) (fun s h=>by simp only[BT.ev]) q fun m h x z h' v H1 R r e zr=>?_
 unfold BT.FN at e
 cases g:BT.rd x h with
 | none=>rw[g] at e;cases e
 | some d =>
  rw[g] at e
  cases d with
  | lst xs =>
   simp only at e
   have r1:=aK R r g
   obtain ⟨a,vs,rfl,hl,rr⟩:=r1.lst
   have ez:BT.new mu (BT.qk k xs) h=(z,h'):=OV e
   refine ⟨a,vs,rfl,hl.sq,fun p hp=>iN (mu:=mu) R hp ?_ (by rw[ez];exact zr)⟩
   unfold qz BT.qk
   rw[rr.length]
   exact RDs.pick rr _
  | _=>cases e
theorem za {g:Int->Int->Int} (hb:∀ ds d,BT.biD b ds=some d->∃ i j,ds=[.int i,.int j]/\d=.int (g i j)) {id:String} (hc:cO X (.builtin id) (fun xs H Q=>∃ i j,xs=[.int i,.int j]/\Q (.int (g i j)) H)):cO X (.builtin id) (rBi X.prog X.w X.K b false):=by
 intro zt s σ H vs us Q I rus h
 obtain ⟨m,h,ws,z,h',R,rws,e,zr⟩:=h
 obtain ⟨ds,d,e1,e2,⟨_,rfl,rfl⟩|⟨_,q,_⟩⟩:=jg e
 ·have rr:=fY R rws e1
  obtain ⟨i,j,rfl,rfl⟩:=hb _ _ e2
  cases rr with
  | cons r t =>
   cases t with
   | cons r' t' =>
    cases t'
    cases r.int
    cases r'.int
    exact hc zt s σ H _ us Q I rus ⟨i,j,rfl,zr.here R (.int _)⟩
 ·cases q
theorem Cz  (O:Ok X F G sc N) (hu:cR N=true) {x:Str}{e:ON}{p:Pos} (hb:yx b x=true) (hg:aE sc x=true) (hst:aq (e :: es)=true) (ha:PA X (e :: es) (tDs X F G as)) :
 PE X (.Call (.Name x p) (e :: es) [] pos) (tD X F G (.bi b false as)):=by
 simp only[aq,OQ] at hst
 have hB:=O.blt
 cases b<;>first|(cases hb;done)|(replace hb:=eq_of_beq hb)
 ·subst hb
  refine PE.weak (fh (za (b:=.min2) (g:=fun i j=>if j < i then j else i) (fun ds d h=>?_) (vF (O.calm hu))) (aM O hg) (hB _ (by decide +kernel)) (by decide +kernel) ha (by decide) (by decide) (aj hst.1) (aI hst.2)) (fun σ H Q z=>kC z)
  match ds,h with
  | [.int i,.int j],h=>exact ⟨i,j,rfl,(OV h).symm⟩
 ·subst hb
  refine PE.weak (fh (za (b:=.max2) (g:=fun i j=>if j > i then j else i) (fun ds d h=>?_) (vE (O.calm hu))) (aM O hg) (hB _ (by decide +kernel)) (by decide +kernel) ha (by decide) (by decide) (aj hst.1) (aI hst.2)) (fun σ H Q z=>kC z)
  match ds,h with
  | [.int i,.int j],h=>exact ⟨i,j,rfl,(OV h).symm⟩
end
section
variable {P:OU}{w:Pa}{K:OM}{m:List OR}{H H':Hp}
def lY (H H':Hp):Prop:=(∀ a vs,Rd H a (.tup vs)->Rd H' a (.tup vs))/\∀ a vs,Rd H a (.lst vs)->Rd H' a (.lst vs)
mutual
theorem RD.tr (q:lY H H'):∀ {v:V}{d:BT.D},RD K m H v d->RD K m H' v d
 | _,_,.non=>.non
 | _,_,.bl b=>.bl b
 | _,_,.int i=>.int i
 | _,_,.str y h=>.str y h
 | _,_,.tup h r=>.tup (h.elim (fun z=>.inl ⟨q.1 _ _ z.1,z.2⟩) .inr) (RDs.tr q r)
 | _,_,.lst h r=>.lst (h.elim (fun z=>.inl ⟨q.2 _ _ z.1,z.2⟩) .inr) (RDs.tr q r)
theorem RDs.tr (q:lY H H'):∀ {vs:List V}{ds:List BT.D},RDs K m H vs ds->RDs K m H' vs ds
 | _,_,.nil=>.nil
 | _,_,.cons r t=>.cons (RD.tr q r) (RDs.tr q t)
end
theorem RA.tr (q:lY H H') {v:V}{x:BT.W} (r:RA K m H v x):RA K m H' v x:=by
 cases r with
 | p r=>exact .p (r.tr q)
 | r h=>exact .r h
 | o h=>exact .o h
theorem RFs.tr (q:lY H H') {vs:List (Str×V)}{fs:List (Str×BT.W)} (r:RFs K m H vs fs):RFs K m H' vs fs:=by
 induction r with
 | nil=>exact .nil
 | cons r t ih=>exact .cons (r.tr q) ih
theorem RCs.tr (q:lY H H') {vs:List V}{cs:List BT.Cp} (r:RCs K m H vs cs):RCs K m H' vs cs:=by
 induction r with
 | nil=>exact .nil
 | cons r t ih=>exact .cons (r.tr q) ih
theorem RWs.tr (q:lY H H') {vs:List V}{ws:List BT.W} (r:RWs P w K m H vs ws) (n:BT.noC ws=true):RWs P w K m H' vs ws:=by
 induction r with
 | nil=>exact .nil
 | cons r t ih =>
  cases r with
  | p r=>exact .cons (.p (r.tr q)) (ih n)
  | r h=>exact .cons (.r h) (ih n)
  | k h r=>exact .cons (.k h r) (ih n)
  | o h=>exact .cons (.o h) (ih n)
  | _=>cases n
theorem RCs.ws {cs:List BT.Cp} (r:RCs K m H vs cs):RWs P w K m H vs (cs.map BT.Cp.w):=by
 induction r with
 | nil=>exact .nil
 | cons r t ih=>exact .cons r.rw ih
theorem RWs.app {us:List V}{ws zs:List BT.W} (r:RWs P w K m H vs ws) (t:RWs P w K m H us zs):RWs P w K m H (vs++us) (ws++zs):=by
 induction r with
 | nil=>exact t
 | cons r _ ih=>exact .cons r ih
theorem RKs.tr (q:lY H H') {vs:List (Key×V)}{kvs:List (BT.Ky×BT.D)} (r:RKs K m H vs kvs):RKs K m H' vs kvs:=by
 induction r with
 | nil=>exact .nil
 | cons hk r t ih=>exact .cons (hk.tr q) (r.tr q) ih
theorem RH.tr {h:BT.HH} (R:RH K m H h) (q:lY H H') (k:∀ a∈m,H' a=H a) (tb:TB K H'):RH K m H' h:=by
 refine ⟨R.nd,R.len,fun i a c e1 e2=>?_,tb⟩
 have z:=R.cl i a c e1 e2
 have e:=k a (O5 e1)
 cases c with
 | o c fs=>obtain ⟨C,dx,vs,h1,h2,h3⟩:=z;exact ⟨C,dx,vs,e.trans h1,h2,h3.tr q⟩
 | _=>obtain ⟨vs,h1,h2⟩:=z;exact ⟨vs,e.trans h1,h2.tr q⟩
theorem Le.sq (q:Le H H'):lY H H':=⟨fun a vs r=>r.elim (fun z=>.inl (q _ _ z)) fun ⟨o,z⟩=>.inr ⟨o,q _ _ z⟩,fun a vs r=>r.elim (fun z=>.inl (q _ _ z)) fun ⟨o,z⟩=>.inr ⟨o,q _ _ z⟩⟩
theorem RH.le  (R:RH K m H h) (q:Le H H'):RH K m H' h:=R.tr q.sq (fun a ha=>by
 obtain ⟨o,e,_⟩:=R.mu ha
 rw[e];exact q _ _ e) (q.tb R.tb)
theorem gQ.le (q:Le H H') {xs:List Str} (r:gQ m H cl xs vs):gQ m H' cl xs vs:=by
 induction r with
 | nil=>exact .nil
 | cons h1 h2 h3 r t ih=>exact .cons h1 ⟨q _ _ h2.1,h2.2⟩ h3 r ih
theorem gM.le (q:Le H H') {f:OR}{L:Nat}{vs:List V} (h:gM m H f L vs):gM m H' f L vs:=by
 obtain ⟨bt,ps,fs,pa,be,sc,cl,pm,ctv,c',oc,os,t,ql,h0,h1,h2,h3,h4,h5,h6,h7,h8,h9,h10⟩:=h
 exact ⟨bt,ps,fs,pa,be,sc,cl,pm,ctv,c',oc,os,t,ql,h0,h1,h2,h3,h4,h5,⟨q _ _ h6.1,h6.2⟩,⟨q _ _ h7.1,h7.2⟩,h8,h9,h10.le q⟩
theorem RW.le (q:Le H H') {v:V}{x:BT.W} (r:RW P w K m H v x):RW P w K m H' v x:=by
 cases r with
 | p r=>exact .p (r.tr q.sq)
 | r h=>exact .r h
 | k h r=>exact .k h r
 | o h=>exact .o h
 | c h r=>exact .c (h.le q) (r.tr q.sq)
 | x h n xt=>exact .x (q _ _ h) n xt
 | g h r=>exact .g h r
end
def bV (cl:List (Str×OR)) (H:Hp):Prop:=∀ x c,cl.lookup x=some c->∃ o u,H c=some (.frz o (.own 0))/\o.data=.cell u
open Classical in
noncomputable def hid (cl:List (Str×OR)) (H:Hp):Hp:=fun b=>if ∃ x,cl.lookup x=some b then none else H b
open Classical in
noncomputable def ret (cl:List (Str×OR)) (H0 H:Hp):Hp:=fun b=>if ∃ x,cl.lookup x=some b then H0 b else H b
section
variable {cl:List (Str×OR)}{H H':Hp}{b:OR}{u:HO}
theorem sD {x:Str} (e:cl.lookup x=some b):hid cl H b=none:=if_pos ⟨x,e⟩
theorem dJ (e:¬ ∃ x,cl.lookup x=some b):hid cl H b=H b:=if_neg e
theorem dQ (e:H b=none):hid cl H b=none:=by
 unfold hid;split<;>first|rfl|exact e
theorem o6 {x:Str} (e:cl.lookup x=some b):ret cl H H' b=H b:=if_pos ⟨x,e⟩
theorem fN (e:¬ ∃ x,cl.lookup x=some b):ret cl H H' b=H' b:=if_neg e
theorem Gw (e:hid cl H b=some u):H b=some u/\¬ ∃ x,cl.lookup x=some b:=by
 unfold hid at e
 split at e
 ·cases e
 ·rename_i c;exact ⟨e,c⟩
noncomputable def kX:HO->Bool
 | .frz o (.own _)=>match o.data with | .cell _=>true|_=>false
 | _=>false
theorem bV.out (C:bV cl H) (e:H b=some u) (n:kX u=false):¬ ∃ x,cl.lookup x=some b:=fun ⟨x,q⟩=>by
 obtain ⟨o,v,h1,h2⟩:=C x b q
 rw[e] at h1;cases h1
 simp[kX,h2] at n
theorem bV.hid (C:bV cl H) (e:H b=some u) (n:kX u=false):BS.hid cl H b=some u:=by rw[dJ (C.out e n)];exact e
theorem bV.sq (C:bV cl H):lY H (BS.hid cl H):=⟨fun a vs r=>r.elim (fun z=>.inl (C.hid z rfl)) fun ⟨o,z⟩=>.inr ⟨o,C.hid z rfl⟩,fun a vs r=>r.elim (fun z=>.inl (C.hid z rfl)) fun ⟨o,z⟩=>.inr ⟨o,C.hid z rfl⟩⟩
theorem bV.tb (C:bV cl H)  (t:TB K H):TB K (BS.hid cl H):=t.mono (fun P ps e=>C.hid e rfl) fun a o vs d e=>C.hid e (by simp[kX,d])
theorem bV.rh (C:bV cl H)  (R:RH K m H h):RH K m (BS.hid cl H) h:=R.tr C.sq (fun a ha=>by
 obtain ⟨o,e,z⟩:=R.mu ha
 rw[e];exact C.hid e (by cases o<;>first|rfl|cases z)) (C.tb R.tb)
theorem Gx (N:∀ x c,cl.lookup x=some c->H' c=none):Le H' (ret cl H H'):=fun a u e=>by
 rw[fN (fun ⟨x,q⟩=>by rw[N x a q] at e;cases e)];exact e
theorem bV.Gy (C:bV cl H) (N:∀ x c,cl.lookup x=some c->H' c=none) {m':List OR} (x:Ext m (BS.hid cl H) m' H') (R:RH K m' H' h'):Ext m H m' (ret cl H H'):=by
 obtain ⟨e,hm,he⟩:=x.pre
 refine ⟨⟨e,hm,fun a ha=>?_⟩,fun a o h n t=>?_,fun a h=>?_⟩
 ·have z:=he a ha
  have hne:¬ ∃ y,cl.lookup y=some a:=fun ⟨y,q⟩=>by
   obtain ⟨o,e1,_⟩:=R.mu (a:=a) (by rw[hm];exact PJ _ ha)
   rw[N y a q] at e1;cases e1
  rw[dJ hne] at z;exact z
 ·by_cases c:∃ y,cl.lookup y=some a
  ·obtain ⟨y,q⟩:=c;rw[o6 q];exact h
  ·rw[fN c];exact x.keep a o (by rw[dJ c];exact h) n t
 ·by_cases c:∃ y,cl.lookup y=some a
  ·obtain ⟨y,q⟩:=c;rw[o6 q] at h;exact h
  ·rw[fN c] at h;have z:=x.live a h;rw[dJ c] at z;exact z
end
theorem gQ.get {fs:List Str} (r:gQ m H cl fs vs):∀ {i:Nat}{x:Str},fs[i]?=some x->∃ c o u v,cl.lookup x=some c/\Tr m H c o/\o.data=.cell (some u)/\vs[i]?=some v/\RelV v u:=by
 induction r with
 | nil=>intro i x e;simp at e
 | cons h1 h2 h3 r t ih =>
  intro i x e
  cases i with
  | zero=>simp at e;subst e;exact ⟨_,_,_,_,h1,h2,h3,rfl,r⟩
  | succ i=>simpa using ih (by simpa using e)
theorem gQ.len {fs:List Str} (r:gQ m H cl fs vs):vs.length=fs.length:=by
 induction r with
 | nil=>rfl
 | cons h1 h2 h3 r t ih=>simp[ih]
theorem gQ.cells {fs:List Str} (r:gQ m H cl fs vs) (hf:∀ x c,cl.lookup x=some c->x∈fs):bV cl H:=fun x c e=>by
 obtain ⟨i,hi⟩:=Qu (hf x c e)
 obtain ⟨c',o,u,v,h1,h2,h3,_⟩:=r.get hi
 rw[e] at h1;cases h1
 exact ⟨o,_,h2.1,h3⟩
theorem CA  (hp:LPa pa ps) {q:Str}{be:ON}{pm cdv ctv:Value} (hl:us.length=ps.length):T8 (PySem.W.kla_fn name q pa be sc cl pm cdv ctv) ⟨us,[]⟩=pure (ps.zip us):=by
 cases hp with
 | one=>match us,hl with | [_],_=>rfl
 | two=>match us,hl with | [_,_],_=>rfl
theorem Gz  (hp:LPa pa ps) (nd:ps.Nodup)  (hl:us.length=ps.length) {x:Str} (e:ps[i]?=some x):∃ u,us[i]?=some u/\(ps.zip us).reverse.lookup x=some u:=by
 cases hp with
 | one =>
  match us,hl,i,e with
  | [u],_,0,e=>simp at e;subst e;exact ⟨u,rfl,by simp⟩
  | [u],_,i+1,e=>simp at e
 | two =>
  match us,hl,i,e with
  | [u,v],_,0,e =>
   simp at e;subst e
   simp at nd
   exact ⟨u,rfl,by simp[Qm,beq_false_of_ne nd]⟩
  | [u,v],_,1,e=>simp at e;subst e;exact ⟨v,rfl,by simp⟩
  | [u,v],_,i+2,e=>simp at e
structure LF (ps fs:List Str) (sc:O6):Prop where
 kd:sc.kind=.function
 co:sc.isCoroutine=false
 ge:sc.isGenerator=false
 cell:∀ y∈sc.names,y.2≠.cell
 loc:∀ x∈ps,sc.names.lookup x=some .local
 fre:∀ x∈fs,sc.names.lookup x=some .free/\(x,PZ)∈sc.names
 all:∀ y∈sc.names,y.2=.free->y.1∈fs
 nd:(ps++fs).Nodup
theorem lZ:∀ {l:List Str},jd l=true->l.Nodup
 | [],_=>TU
 | x :: r,h=>by
  simp only[jd,OQ,QM] at h
  refine List.nodup_cons.mpr ⟨fun z=>?_,lZ h.2⟩
  have:=h.1
  simp[z] at this
theorem JU {fs:List Str} (h:kB ps fs sc=true):LF ps fs sc:=by
 simp only[kB,OQ,QM] at h
 obtain ⟨⟨⟨⟨⟨⟨⟨h1,h2⟩,h3⟩,h4⟩,h5⟩,h6⟩,h7⟩,h8⟩:=h
 rw[Qn] at h4 h5 h6 h7
 refine ⟨eq_of_beq h1,h2,h3,fun y hy e=>?_,fun x hx=>eq_of_beq (h5 x hx),fun x hx=>?_,fun y hy e=>?_,lZ h8⟩
 ·have:=h4 y hy;rw[e] at this;cases this
 ·have:=h6 x hx
  simp only[OQ] at this
  exact ⟨eq_of_beq this.1,by simpa using this.2⟩
 ·have:=h7 y hy
  rw[e] at this
  simpa using this
noncomputable def zb (P:OU) (w:Pa) (K:OM) (mg:Str->Option Value) (base:Heap) (N:List Str) (q:Str) (sc:O6) (cl:List (Str×OR)) (f c':OR) (A:PF) (outer:List Env) (s:OP) (H:Hp):Cx where
 prog:=P
 w:=w
 K:=K
 mg:=mg
 base:=base
 A:=A.deeper (Rp q sc s.heap.objs.size f (.ref c') cl)
 N:=N
 s₀:=s
 H₀:=hid cl H
 env:=Rp q sc s.heap.objs.size f (.ref c') cl
 outer:=outer
 stack:=Rp q sc s.heap.objs.size f (.ref c') cl :: outer
 ex:=[]
 calm:=true
 fn:=fun _=>false
 pn:=[]
 xe:=fun _ _=>False
theorem kY {w:Pa}{h h1:Heap} (C:bV cl H) (ok:HOk P w H h) (k:∀ b o,h.get? b=some o->h1.get? b=some o):HOk P w (hid cl H) h1:=fun b u e=>by
 obtain ⟨e1,_⟩:=Gw e
 exact (ok b u e1).stay (fun c o _ q=>k c o q) (fun c q=>C.hid q rfl) fun c xs q=>C.hid q rfl
theorem CB {w:Pa}{mg:Str->Option Value}{base:Heap}{outer:List Env}{f c':OR}{cvs:List V}{fs:List Str}{q:Str}{h1:Heap}{tk:Nat}
 (hp:LPa pa ps) (F:LF ps fs sc) (inj:∀ x y c,cl.lookup x=some c->cl.lookup y=some c->x=y) (hfs:∀ x c,cl.lookup x=some c->x∈fs) (cp:gQ m H cl fs cvs) (hd:A.handled=none) (e0:jq P w K mg base A outer s H) (r:az vs us) (hl:us.length=ps.length)
 (hns:h1.Ns s.heap.objs.size (fun y=>(ps.zip us).reverse.lookup y)) (hk1:∀ b o,s.heap.get? b=some o->h1.get? b=some o) :
 Inv (zb P w K mg base (ps++fs) q sc cl f c' A outer s H) [] (vs.map some++cvs.map some) (hid cl H) { s with heap:=h1,toks:=tk }:=by
 have C:=cp.cells hfs
 have lv:vs.length=ps.length:=r.length.trans hl
 have lc:=cp.len
 have noA:∀ b:OR,b∉(zb P w K mg base (ps++fs) q sc cl f c' A outer s H).ex:=fun b z=>absurd (show b∈([]:List OR) from z) (by simp)
 have cel:∀ x c,cl.lookup x=some c->∃ u,s.heap.IsCell c (some u):=fun x c e=>by
  obtain ⟨i,hi⟩:=Qu (hfs x c e)
  obtain ⟨c2,o,u,v,g1,g2,g3,_⟩:=cp.get hi
  rw[e] at g1;cases g1
  exact ⟨u,o,(e0.hok _ _ g2.1).1,g3⟩
 refine ⟨⟨e0.mod,F.kd,rfl,rfl,OX _,inj,fun x hx=>?_,fun x c z=>absurd (show false=true from z) (by decide),fun _=>hd,Sd e0.frames,.inr ⟨rfl,rfl⟩,fun b z=>absurd z (noA b),fun b o e=>⟨(e0.bs b o e).1,dQ (e0.bs b o e).2⟩,e0.bsz,fun b _ _=>noA b,fun b z=>absurd z (noA b),e0.fW,fun b hb=>dQ (e0.frf b hb)⟩,
  rfl,e0.bare,Un.kept hk1,⟨_,hns,fun i x v g1 g2 g3=>?_⟩,fun x c e=>?_,dQ (e0.hok.fresh (OX _)),fun x c e=>sD e,fun p hp=>absurd (show p∈([]:List (OR×Obj)) from hp) (by simp),kY C e0.hok hk1,?_⟩
 ·have hx:sc.names.lookup x=some .cell\/sc.names.lookup x=some .free:=hx
  rcases hx with hx|hx
  ·exact absurd rfl (F.cell _ (Qi hx))
  ·obtain ⟨i,hi⟩:=Qu (F.all _ (Qi hx) rfl)
   obtain ⟨c,_,_,_,g1,_⟩:=cp.get hi
   exact ⟨c,g1⟩
 ·have g1:(ps++fs)[i]?=some x:=g1
  by_cases c:i < ps.length
  ·rw[OW c] at g1
   rw[OW (by simpa [lv] using c),Pb] at g2
   obtain ⟨u,g4,g5⟩:=Gz hp (F.nd.sublist (List.sublist_append_left _ _)) hl g1
   obtain ⟨v',g6,g7⟩:=Option.map_eq_some_iff.mp g2
   cases g7
   obtain ⟨u',g8,rv⟩:=r.get g6
   rw[g4] at g8;cases g8
   exact ⟨u,rv,.inl ⟨F.loc x (O5 g1),g5⟩⟩
  ·rw[Pd (by lia)] at g1
   rw[Pd (by simp[lv];lia),Pb] at g2
   simp only[Pq,lv] at g2
   obtain ⟨c2,o,u,v2,k1,k2,k3,k4,k5⟩:=cp.get g1
   rw[k4] at g2
   cases g2
   exact ⟨u,k5,.inr ⟨.inr (F.fre x (O5 g1)).1,c2,k1,o,hk1 _ _ (e0.hok _ _ k2.1).1,k3⟩⟩
 ·obtain ⟨u,o,z1,z2⟩:=cel x c e
  exact ⟨some u,o,hk1 _ _ z1,z2⟩
 ·show _=(ps++fs).length
  simp[lv,lc]
section
variable {F:FT}{G:Str->Option BT.W}
theorem wj {o:Option (Option BT.W)}{ws:List BT.W} (e:BT.oQ F o ws h=some r):∃ k cs,o=some (some (.c k cs))/\BT.noC ws=true/\F k (ws++cs.map BT.Cp.w) h=some r:=by
 unfold BT.oQ at e
 split at e
 ·rename_i k cs
  split at e
  ·rename_i c;exact ⟨k,cs,rfl,c,e⟩
  ·cases e
 ·cases e
theorem gM.fnAt {w:Pa}{f:OR}{L:Nat}{h:Heap} (l:gM m H f L vs) (ok:HOk P w H h):PySem.W.FnAt f h:=by
 obtain ⟨bt,ps,fs,pa,be,sc,cl,pm,ctv,c',oc,os,t,ql,h0,h1,h2,h3,h4,h5,h6,_⟩:=l
 exact ⟨_,_,_,_,(ok _ _ h6.1).1⟩
theorem Post.ext {w:Pa}{m':List OR}{H':Hp} (p:Post P w K m H z h' Q) (x:Ext m H m' H'):Post P w K m' H' z h' Q:=fun v H2 m2 y R r=>p v H2 m2 (x.trans y) R r
theorem zc  (O:Ok X F G sc N) {x:Str}{e:ON} (h1:N[i]?=some x) (h2:lR sc x=true) (h3:aH x=true) (hc:CEs sc N as (e :: es)) (ha:PA X (e :: es) (tDs X F G as)) :
 PE X (.Call (.Name x np) (e :: es) [] pos) (tD X F G (.callv i x as)):=by
 have hst:=bY hc
 simp only[aq,OQ] at hst
 intro zt s σ H Q I q
 obtain ⟨m,s',h,z,h',R,S,ee,zr⟩:=q
 simp only[BT.ev] at ee
 obtain ⟨ws,g,e1,e2⟩:=ak ee
 obtain ⟨k,cs,k1,k2,k3⟩:=wj e2
 obtain ⟨v,hv,rv⟩:=S.get i _ k1
 obtain ⟨d1,d2,_⟩:=bB h3
 refine P6 ?_
 refine thn (rE (i:=i) (by rw[O.hN];exact h1) (yP O h2) d1 d2 zt s σ H (fun v2 H2=>v2=v/\H2=H) I ⟨v,hv,rfl,rfl⟩) fun u s1 zq=>?_
 obtain ⟨v2,H2,I2,r2,ev,eh⟩:=zq
 subst ev eh
 have hA:tDs X F G as σ H2 (fun vs2 H3=>∃ m3,Ext m H2 m3 H3/\RH X.K m3 H3 g/\RWs X.prog X.w X.K m3 H3 vs2 ws):=⟨m,s',h,ws,g,R,S,e1,fun vs2 H3 m3 x3 R3 r3=>⟨m3,x3,R3,r3⟩⟩
 cases rv with
 | @c f L cvs _ hL rc =>
  obtain rfl:u=.ref f:=r2
  refine PySem.W.callWith_F (hL.fnAt I2.hok) (thn (ha pos zt s1 σ H2 _ I2 hA) fun us s2 ⟨vs2,H3,I3,r3,m3,x3,R3,w3⟩=>⟨(hL.ext x3).fnAt I3.hok,?_⟩) (aj hst.1) (aI hst.2)
  obtain ⟨k,hr,lo⟩:=O.lam _ _ _ _ k3
  refine R6 (Q6 (lo X.A X.stack s2 H3 f us vs2 cvs m3 ws cs g z h' Q E0 hr I3.Bt r3 R3 w3 k2 (hL.ext x3) (rc.ext x3) k3 (zr.ext x3)) fun r s' hq=>?_)
  cases r with
  | error e=>exact Pk hq
  | ok fl =>
   cases fl with
   | ret u=>exact I3.after hq
   | _=>exact Pk hq
 | @g f x' hn hk =>
  obtain rfl:u=.ref f:=r2
  have k3':F (.f x') ws g=some (z,h'):=by simpa using k3
  obtain ⟨fa,fd,ps,k,hm,_,hb,hr,ok⟩:=O.call _ _ _ _ k3'
  have hm':=PR I2.ok.mod.kin I2.ok.mod.glob hn
  rw[hm] at hm'
  cases hm'
  refine Qk (h₀:=X.base) I2.ok.mod.kin hk (thn (ha pos zt s1 σ H2 _ I2 hA) fun us s2 ⟨vs2,H3,I3,r3,m3,x3,R3,w3⟩=>⟨I3.kIn,?_⟩) (aj hst.1) (aI hst.2)
  refine lD (E:=E0) ok hr hb .nil lG I3 r3 ?_
  rw[Pr]
  exact ⟨m3,ws,g,z,h',R3,w3,k3',zr.ext x3⟩
end
def wk (x C:OR) (h:Heap):Prop:=∃ o,h.get? x=some o/\o.cls=.ref C
section
open PySem.W PySem.Calls PySem.Builtin PySem.Builtin.ObjectAttr PySem.Builtin.Getset_descriptor
variable {prog:OU}{w:Pa}{A:PF}{E:Value->OP->Prop}{s:OP}{K:OM}{x C:OR}
theorem wk.look {M:Model}{h:Heap} (I:wk x C h):Looks M h (typeOf (.ref x)) (.ref C):=by
 obtain ⟨o,e,c⟩:=I
 exact c ▸ (Looks.ld e).andThen .now
theorem GA {tp:Value}{R:Result->OP->Prop} (X:K.In s.heap) (I:wk x C s.heap) (hm:mroIn K C (.type "object")=some true) (h:R (.ok (.ret (.ref C))) s):codeAny (Pc prog w) A (.call (.builtin "getset_descriptor.__get__") ⟨[.builtin "object.__class__",.ref x,tp],[]⟩) R s:=by
 obtain ⟨hp,g0,dr,tk0,os0⟩:=s
 have l0:=I.look (M:=Pc prog w)
 have l1:=looks_mroIn (M:=Pc prog w) X hm
 refine codeAny_call_builtin KF.slot_gs.plain KF.entry_gs (KF.slot_gs.check _ _ _ _ _ _ _ _ KF.type_class (KF.args_gs _ _ _) ?_)
 (unfold Builtin.«getset_descriptor.__get__» descrGet;rw[dga_obj])
 refine OY (wpAny_pure ?_)
 (unfold descrGetter descrCheckInstance descrNameAndClass isInstance;simp only[KF.owner_class])
 repeat lk
 refine ⟨Code.quiet_builtin _ (by decide +kernel),codeAny_builtin KF.entry_class ?_⟩
 (unfold Builtin.«object.__class__» shownTypeOf;repeat lk)
 exact h
theorem CD {M:Model}{h:Heap}{nm:Str}{a g:Value} (X:K.In h) (h1:findIn K (.ref C) nm=some (some a)) (h2:specialIn K a "__get__"=some (some g)) (h3:takesIn K a=some true):Looks M h (find (.ref x) (.ref C) nm) (.bind g a):=by
 have l1:=looks_findIn (M:=M) X h1
 have l2:Looks M h (getOf (some a)) (some g):=looks_specialIn X h2
 have l3:Looks M h (dataDescriptor? (some a) (some g)) (some (g,a)):=(looks_takesIn (M:=M) X h3).andThen .now
 exact l1.andThen (l2.andThen (l3.andThen (Looks.tag .now)))
theorem JV {R:Result->OP->Prop}{tk:Tok} (X:K.In s.heap) (I:wk x C s.heap) (c:Str) (xt:XT K c C) (h:R (.ok (.ret (.ref C))) s) :
 codeAny (Pc prog w) A (.call (.builtin "BaseException.__getattribute__") ⟨[.ref x,.str "__class__" tk],[]⟩) R s:=by
 have l4:=looks_mroIn (M:=Pc prog w) X xt.mrb
 have l0:=I.look (M:=Pc prog w)
 have l2:=CD (M:=Pc prog w) (x:=x) X xt.fnd xt.spc xt.tak
 obtain ⟨hp,g0,dr,tk0,os0⟩:=s
 have hk:builtinKind "BaseException.__getattribute__"=some .slot:=by decide +kernel
 have hsplit:splitId "BaseException.__getattribute__"=some ("BaseException","__getattribute__"):=by decide +kernel
 have ha:=PySem.F.args_bexc_ga (.ref x) (.str "__class__" tk)
 refine codeAny_call_builtin PySem.F.attrBase_ValueError.ga.plain PySem.F.entry_bexc_ga ?_
 simp only[checkBuiltinCall,hk,hsplit]
 refine OY ?_
 unfold isInstance
 repeat lk
 refine wpAny_run (A:=A.in1) (h:=none) (c:=.call (.builtin "getset_descriptor.__get__") ⟨[.builtin "object.__class__",.ref x,.ref C],[]⟩) (GA (s:=⟨hp,g0,dr,tk0,os0⟩) X I xt.mro ?_)
 exact wpAny_pure (wpAny_pure h)
theorem CF {Q:Option Value->OP->Prop} (X:K.In s.heap) (I:wk x C s.heap) (c:Str) (xt:XT K c C) (h:Q (some (.ref C)) { s with toks:=s.toks+1 }):wpAny (Pc prog w) A (getAttr? (.ref x) "__class__") Q E s:=by
 obtain ⟨hp,g0,dr,tk0,os0⟩:=s
 have l0:=I.look (M:=Pc prog w)
 have l1:=looks_findIn (M:=Pc prog w) X xt.ga
 have l3:=looks_findIn (M:=Pc prog w) X xt.nga
 have f3:=PySem.F.attrBase_ValueError.ga.bind (.ref x)
 have hx2:(Rk "BaseException.__getattribute__"==Rk "object.__getattribute__")=false:=by decide +kernel
 have hx1:(onTheHeap (Pp C)&&Rk "BaseException.__getattribute__"==Rk "object.__getattribute__")=false:=by rw[hx2];rfl
 (unfold getAttr? getAttrBy? getAttrBy)
 refine OY (wpAny_mkText (OY (wpAny_attempt (Q9 (OY (l0.at (OY (l1.at ?_))))))))
 show wpAny _ _ (if (onTheHeap (Pp C)&&Rk "BaseException.__getattribute__"==Rk "object.__getattribute__")=true then _ else getAttrByItsOwn (.ref x) (.str "__class__" tk0) (.ref C) (.builtin "BaseException.__getattribute__") false false) _ _ (⟨hp,g0,dr,tk0+1,os0⟩:OP)
 rw[if_neg (by rw[hx1];exact Qc)]
 unfold getAttrByItsOwn
 refine OY (l3.at ?_)
 refine OY (wpAny_attempt (Q9 ?_))
 show wpAny _ _ (boundAndCalled (.builtin "BaseException.__getattribute__") (.ref x) (.str "__class__" tk0)) _ _ _
 unfold boundAndCalled
 rw[f3]
 refine OY (wpAny_pure ?_)
 show wpAny _ _ (call (.builtin "BaseException.__getattribute__") [.ref x,.str "__class__" tk0]) _ _ _
 refine wpAny_mono (R6 (JV (s:=⟨hp,g0,dr,tk0+1,os0⟩) (R:=wants (fun v s'=>v=.ref C/\s'=(⟨hp,g0,dr,tk0+1,os0⟩:OP)) fun _ _=>False) X I c xt ⟨rfl,rfl⟩)) (fun v s' z=>?_) fun _ _ z=>z.elim
 obtain ⟨rfl,rfl⟩:=z
 exact handed_on rfl (wpAny_pure h)
theorem zd (c:Str) (xt:XT K c C):KitX K (.ref x) (.ref C) (wk x C) where
 ty:=fun _ _ _ I=>I.look
 it:=fun M h X I=>by
  obtain ⟨cd,hc,_⟩:=any_some xt.dct
  unfold clsIn at hc
  split at hc
  ·rename_i ho
   exact fun A' Q' E' s' k q=>by
    unfold isType loadHead
    exact OY (wpAny_loadPart (k _ _ (X _ _ ho)) (wpAny_pure q))
  ·cases hc
 ne:=fun h tp dd its n sl X htp=>by
  obtain ⟨cd,hc,_⟩:=any_some xt.dct
  refine Bool.eq_false_iff.mpr fun q=>?_
  have e:=Value.ref.inj (beq_iff_eq.mp q)
  subst e
  unfold clsIn at hc
  split at hc
  ·rename_i ho
   exact nomatch (X _ _ ho).symm.trans htp
  ·cases hc
 ca:=fun X I k=>CF X I c xt k
end
theorem ze {a:OR}{c:Str}{cv:Value}{b:Bool}{E:Value->OP->Prop}{Q:Value->OP->Prop} (I:Inv X zt σ H s) (h1:H a=some (.ext (excAt X.K c a)))
 (hk:∀ C,XT X.K c C->Qe X.K (.ref C) cv=some b) (q:∀ tk,Q (.bool b) { s with toks:=tk }):wpAny (Pc X.prog X.w) X.A (call (.builtin "isinstance") [.ref a,cv]) Q E s:=by
 obtain ⟨⟨o,C,_,xt,e1,e2⟩,_,_⟩:=I.hok a _ h1
 exact QC (zd c xt) I.kIn ⟨o,e1,e2⟩ (hk C xt) (by intro z;cases z) q
section
variable {F:FT}{G:Str->Option BT.W}
theorem CG  (O:Ok X F G sc N) {cn:Str}{p:Pos} (hx:yC cn=true) (hn:aH cn=true) (hg:aE sc "isinstance"=true) (hg2:aE sc cn=true) (hst:noStar e=true) (ha:PE X e (tD X F G a)) :
 PE X (.Call (.Name "isinstance" p) [e,.Name cn p2] [] pos) (tD X F G (.isx cn a)):=by
 have hB:=O.blt
 have key:∀ {σ:L2.St}{H:Hp}{Q:VK},tD X F G (.isx cn a) σ H Q->tD X F G a σ H fun v H1=>∃ ad c,v=.ref ad/\H1 ad=some (.ext (excAt X.K c ad))/\(∃ C,XT X.K c C)/\Q (.bl (BT.kI c cn)) H1:=fun {σ H Q} q=>by
  obtain ⟨m,s,h,z,h',R,S,ee,zr⟩:=q
  simp only[BT.ev] at ee
  obtain ⟨x,h1,e1,e2⟩:=ak ee
  refine ⟨m,s,h,x,h1,R,S,e1,fun v H1 m1 x1 R1 r1=>?_⟩
  cases x with
  | x c =>
   cases r1 with
   | x q1 q2 xt =>
    cases e2
    exact ⟨_,c,rfl,q1,xt,zr _ H1 m1 x1 R1 (.p (.bl _))⟩
  | _=>exact ai e2
 by_cases hv:cn="ValueError"
 ·subst hv
  have hc:PE X (.Name "ValueError" p2) (tC (.ty "ValueError")):=iK (aM O hg2) (hB _ (by decide)) (u:=.type "ValueError") (by decide +kernel) rfl (by decide) (by decide)
  have call:cO X (.builtin "isinstance") (fun vs H Q=>∃ ad c,vs=[.ref ad,.ty "ValueError"]/\H ad=some (.ext (excAt X.K c ad))/\Q (.bl (BT.kI c "ValueError")) H):=by
   intro zt s σ H vs us Q I rus h
   obtain ⟨ad,c,rfl,q1,q⟩:=h
   obtain ⟨u,u2,rfl,ru,ru2⟩:=rus.two
   cases ru
   cases ru2
   exact ze I q1 (fun C xt=>xt.val) fun tk=>⟨.bl _,H,I.tok tk,rfl,by
    have:BT.kI c "ValueError"=true:=by unfold BT.kI;simp
    rw[← this];exact q⟩
  refine PE.weak (fh call (aM O hg) (hB _ (by decide)) (by decide +kernel) (cF ha (cF hc gX) (aj hst)) (by decide) (by decide) (aj hst) rfl) fun σ H Q q=>?_
  obtain ⟨m,s,h,z,h',R,S,ee,zr⟩:=key q
  refine ⟨m,s,h,z,h',R,S,ee,fun v H1 m1 x1 R1 r1=>?_⟩
  obtain ⟨ad,c,rfl,q1,_,q3⟩:=zr v H1 m1 x1 R1 r1
  exact ⟨ad,c,rfl,q1,q3⟩
 ·have hx':fm cn=true:=by
   unfold yC at hx
   rw[QJ] at hx
   exact hx.resolve_right fun z=>hv (eq_of_beq z)
  have dbg:(cn==("__debug__":Str))=false:=by
   unfold aH at hn
   simp only[OQ] at hn
   simpa using hn.1.1
  have hc:PE X (.Name cn p2) (fun σ H Q=>∃ D,X.mg cn=some (.ref D)/\Q (.ref D) H):=fun zt s σ H Q I ⟨D,hm,q⟩=>oA (v:=.ref D) (aM O hg2) hm rfl dbg zt s σ H Q I q
  have call:cO X (.builtin "isinstance") (fun vs H Q=>∃ ad c D,vs=[.ref ad,.ref D]/\CN X.K cn D/\H ad=some (.ext (excAt X.K c ad))/\Q (.bl (BT.kI c cn)) H):=by
   intro zt s σ H vs us Q I rus h
   obtain ⟨ad,c,D,rfl,hD,q1,q⟩:=h
   obtain ⟨u,u2,rfl,ru,ru2⟩:=rus.two
   cases ru
   cases ru2
   refine ze I q1 (fun C xt=>?_) fun tk=>⟨.bl _,H,I.tok tk,rfl,q⟩
   obtain ⟨D',h1,h2⟩:=xt.own cn hx'
   rw[hD.inj h1];exact h2
  have K2:PE X (.Call (.Name "isinstance" p) [e,.Name cn p2] [] pos) _:=fh call (aM O hg) (hB _ (by decide)) (by decide +kernel) (cF ha (cF hc gX) (aj hst)) (by decide) (by decide) (aj hst) rfl
  intro zt s0 σ H Q I q
  refine K2 zt s0 σ H Q I ?_
  obtain ⟨m,s,h,z,h',R,S,ee,zr⟩:=key q
  refine ⟨m,s,h,z,h',R,S,ee,fun v H1 m1 x1 R1 r1=>?_⟩
  obtain ⟨ad,c,rfl,q1,⟨C,xt⟩,q3⟩:=zr v H1 m1 x1 R1 r1
  obtain ⟨D,hD,_⟩:=xt.own cn hx'
  exact ⟨D,PR I.mod.kin I.mod.glob hD,ad,c,D,rfl,hD,q1,q3⟩
end
section
variable {X:Cx}
theorem wm (hu:X.A.units+150 < Uz):MtR X "list.index" (rMe X.prog X.w X.K .lindex):=by
 intro zt s σ H v vs v' us Q I rv rus h
 obtain ⟨m,h,x,ws,z,h',R,rx,rws,e,zr⟩:=h
 cases x with
 | r n=>cases ws with
  | _=>(first|(cases e;done)|simp[BT.meW] at e)
 | p d =>
  rw[BT.rZ] at e
  cases g:BT.aO ws with
  | none=>rw[g] at e;cases e
  | some ds =>
   rw[g] at e
   obtain ⟨b,e1,e2⟩:=aC e
   cases e2
   have rds:=rws.pure g
   cases d<;>first|exact ai e1|skip
   rename_i xs
   cases ds with
   | nil=>exact ai e1
   | cons d0 dr =>
    cases dr with
    | cons _ _=>exact ai e1
    | nil =>
     rw[BT.rW] at e1
     split at e1
     ·rename_i c
      obtain ⟨j,e3,e4⟩:=aC e1
      subst e4
      obtain ⟨i,rfl,hi,h1,h2⟩:=jf e3
      cases rds with
      | cons r0 rn =>
       cases rn
       obtain ⟨u,rfl,ru⟩:=rus.one
       cases rx with
       | p rx =>
        obtain ⟨a,vt,rfl,ha,ra⟩:=RR.lst (.d rx)
        cases rv
        obtain ⟨zz,its,n,q1,_,ho⟩:=rdL I ha
        have sl:sizeLine=16777216:=S7
        have hl:=q1.length
        have hl2:=ra.length
        have hi':i < its.toArray.size:=by rw[OT];lia
        refine QU F.slot_list_index ⟨_,ho,rfl⟩ F.entry_list_index (F.args_list_index_2 _ _)
         (SeqAt.list_indexAt a its.toArray n none #[] u (cg s.heap (pd d0)) i hi' (by lia) ?_ ?_) ⟨ho,?_,?_⟩
        ·rw[show its.toArray[i]=its[i]'(by lia) by simp,iQ I ra q1 i (by lia) hi];exact h1
        ·intro k hk hlt
         have hk':k < its.length:=by simpa using hk
         rw[show its.toArray[k]=its[k]'hk' by simp,iQ I ra q1 k hk' (by lia)];exact h2 k (by lia) hlt
        ·intro y hy
         exact fL hu I (.d r0) ru ra q1 c y (by simpa using hy)
        ·refine ⟨.int (((0+i:Nat):Nat):Int),H,I.tok _,⟨s.toks,?_⟩,zr.here R (.int _)⟩
         simp
     ·cases e1
 | _=>(first|(cases e;done)|simp[BT.meW] at e)
theorem zf (hu:X.A.units+150 < Uz):MtR X "list.count" (rMe X.prog X.w X.K .count):=by
 intro zt s σ H v vs v' us Q I rv rus h
 obtain ⟨m,h,x,ws,z,h',R,rx,rws,e,zr⟩:=h
 cases x with
 | r n=>cases ws with
  | _=>(first|(cases e;done)|simp[BT.meW] at e)
 | p d =>
  rw[BT.vO] at e
  cases g:BT.aO ws with
  | none=>rw[g] at e;cases e
  | some ds =>
   rw[g] at e
   obtain ⟨b,e1,e2⟩:=aC e
   cases e2
   have rds:=rws.pure g
   cases d<;>first|exact ai e1|skip
   rename_i xs
   cases ds with
   | nil=>exact ai e1
   | cons d0 dr =>
    cases dr with
    | cons _ _=>exact ai e1
    | nil =>
     rw[BT.rV] at e1
     split at e1
     ·rename_i c
      cases e1
      cases rds with
      | cons r0 rn =>
       cases rn
       obtain ⟨u,rfl,ru⟩:=rus.one
       cases rx with
       | p rx =>
        obtain ⟨a,vt,rfl,ha,ra⟩:=RR.lst (.d rx)
        cases rv
        obtain ⟨zz,its,n,q1,_,ho⟩:=rdL I ha
        have hl:=q1.length
        have hl2:=ra.length
        have ec:its.countP (cg s.heap (pd d0))=xs.countP fun y=>BT.eqv y d0:=by
         have key:its.map (cg s.heap (pd d0))=xs.map fun y=>BT.eqv y d0:=by
          refine List.ext_getElem (by rw[Pq,Pq];lia) fun i h1 h2=>?_
          rw[Pq] at h1 h2
          rw[List.getElem_map,List.getElem_map]
          exact iQ I ra q1 i h1 h2
         have cm:∀ {α:Type} (f:α->Bool) (l:List α),l.countP f=(l.map f).countP id:=fun f l=>by rw[List.countP_map];rfl
         rw[cm,cm (fun y=>BT.eqv y d0),key]
        refine QU F.slot_list_count ⟨_,ho,rfl⟩ F.entry_list_count (F.args_list_count_2 _ _) (SeqAt.list_countAt a its.toArray n none #[] u (cg s.heap (pd d0))) ⟨ho,?_,?_⟩
        ·intro y hy
         exact fL hu I (.d r0) ru ra q1 c y (by simpa using hy)
        ·refine ⟨.int ((xs.countP fun y=>BT.eqv y d0:Nat):Int),H,I.tok _,⟨s.toks,?_⟩,zr.here R (.int _)⟩
         rw[← ec]
     ·cases e1
 | _=>(first|(cases e;done)|simp[BT.meW] at e)
end
structure qA (K:OM) (J:It) (m0:List OR) (H0:Hp) (ds:List BT.D) (C:BT.HH->Prop):Prop where
 go:∀ m H h (i:Nat),Ext m0 H0 m H->RH K m H h->C h->i < ds.length->J.go i H
 yld:∀ m H h (i:Nat) x H' d,Ext m0 H0 m H->RH K m H h->C h->ds[i]?=some d->J.yld i H x H'->Ext m H m H'/\Le H H'/\RD K m H' x d
 stop:∀ m H h,Ext m0 H0 m H->RH K m H h->C h->J.stop ds.length H
def uC (sr:BT.Sr) (ws:List BT.W):Prop:=BT.fD ws=true\/(sr=.seq/\∃ q,ws=[.r q])
def o7 (ws:List BT.W) (ds:List BT.D) (h:BT.HH):Prop:=∀ q,ws=[.r q]->BT.lat h q=some ds
theorem uC.p {sr:BT.Sr}{ws:List BT.W} (h:uC sr ws) (n:sr≠.seq):BT.fD ws=true:=h.resolve_right fun z=>n z.1
theorem mh {ws:List BT.W} (a:BT.fD ws=true):o7 ws ds h:=fun q e=>by subst e;cases a
noncomputable def Itv (K:OM) (a:OR) (n:Nat):It :=
 ⟨fun i H=>i < n/\∃ xs,SqL K H a xs/\xs.length=n,fun i H x H'=>H'=H/\∀ xs,SqL K H a xs->xs[n - 1 - i]?=some x,fun i H=>i=n⟩
theorem zg {w:Pa} (a it:OR) (n:Nat):Turn P w K tg (Itv K a n) [it] it (fun i h=>h.IsRevIter it a ((n:Int) - 1 - i)) where
 mem:=by simp
 obj:=fun i h st b hb=>by
  have e:b=it:=by simpa using hb
  subst e
  obtain ⟨o,e,c,d⟩:=st
  exact ⟨o,e,fun v z=>by rw[d] at z;cases z⟩
 keep:=fun i h h' st k=>st.at fun o e=>k it (by simp) o e
 item:=by
  intro X hP hw hK hc i zt s σ H E I hf st hg
  subst hP hw hK
  obtain ⟨hi,xs,hq,hx⟩:=hg
  obtain ⟨its,rv,p,hz⟩:=I.list hq
  have hl:=rv.length
  have hj:n - 1 - i < xs.length:=by lia
  obtain ⟨u,hu,ru⟩:=rv.get (OZ hj)
  obtain ⟨f0,f1,f2,f3,f4,f5⟩:=hf it (by simp)
  have ei:((n:Int) - 1 - (i:Int))=(((n - 1 - i:Nat)):Int):=by lia
  have st':s.heap.IsRevIter it a (((n - 1 - i:Nat)):Int):=by rw[← ei];exact st
  refine wpAny_pyNext_rev_item st' p.isList (x:=u) (by simpa using hu) fun h' st'' sb=>?_
  have I1:Inv X zt σ H { s with heap:=h' }:=I.turned (t':=s.toks) (fun b o hb e=>(sb.2 b hb).trans e) f0 f1 f3 f4 f5
  obtain ⟨o,e,c,d⟩:=id st''
  refine ⟨u,rfl,tM (s:={ s with heap:=h' }) e c d (by decide) ⟨_,H,I1,ru,⟨rfl,fun ys hy=>by rw[I.ly hy hq];exact OZ hj⟩,?_,fun b hb=>(hf b hb).1⟩⟩
  have e2:(((n - 1 - i:Nat)):Int) - 1=(n:Int) - 1 - ((i+1:Nat):Int):=by lia
  rw[e2] at st''
  exact st''
 done:=by
  intro X hP hw hK hc i zt s σ H E I hf st hg
  subst hP hw hK
  have hg:i=n:=hg
  subst hg
  obtain ⟨f0,f1,f2,f3,f4,f5⟩:=hf it (by simp)
  have e1:(i:Int) - 1 - (i:Int)=-1:=by lia
  have st':s.heap.IsRevIter it a (-1):=by rw[← e1];exact st
  exact wpAny_pyNext_rev_end (I.ok.hd hc) st' fun h' eb=>⟨rfl,I.turned (t':=s.toks) (fun b o hb e=>eb b o hb e) f0 f1 f3 f4 f5⟩
 self:=fun _ _ _ _ _ st h=>wpAny_pyIter_revIter st h
theorem Inv.CH {H':Hp}{h':Heap}{fp:List OR}{tk:Nat} (I:Inv X zt σ H s) (hf:∀ b∈fp,mZ X zt H b)
 (k:∀ b o,b∉fp->s.heap.get? b=some o->h'.get? b=some o) (hs:∀ b,b < s.heap.objs.size->H' b=H b) (hok:HOk X.prog X.w H' h'):Inv X zt σ H' { s with heap:=h',toks:=tk }:=by
 have hlt:∀ b u,H b=some u->H' b=some u:=fun b u e=>by rw[hs b (I.hok.lt e)];exact e
 refine I.step (g':=s.gens) (d':=s.drawn) (ch:=fp) (fun b hb=>?_) (fun b o _ _ hc e _=>k b o hc e) (fun b o _ _ hc e _=>⟨o.slots,k b o hc e⟩) (fun b o _ e n=>by rw[hs b (O2 e)];exact n)
  (fun b o hc e=>⟨o,k b o hc e⟩) (fun b xs e=>hlt b _ e) (fun b o u e=>hlt b _ e) (fun b ps e=>⟨#[],by rw[hlt b _ e];simp⟩) (fun m hm=>?_) hok I.bare
 ·obtain ⟨_,f1,_,f3,f4,f5⟩:=hf b hb
  exact ⟨f3,f1,f4,f5⟩
 ·obtain ⟨o,es,ep,ho,r⟩:=hm
  exact ⟨o,es,ep,k _ o (fun z=>(hf _ z).2.1 rfl) ho,r⟩
inductive iD (X:Cx) (F:FT) (G:Str->Option BT.W) (sr:BT.Sr) (sa:BT.Es) (σ:L2.St) (H:Hp) (R:It->Hp->Prop):Prop where
 | mk (m:List OR) (s:BT.Sl) (h:BT.HH) (ws:List BT.W) (h':BT.HH) (ds:List BT.D) (RR:RH X.K m H h) (S:RS X.prog X.w X.K m H σ s) (e:BT.evs F G sa s h=some (ws,h')) (e2:(BT.rds ws h').bind (BT.dY sr)=some ds) (ha:uC sr ws)
  (p:∀ H' m' J,Ext m H m' H'->RH X.K m' H' h'->qA X.K J m' H' ds (o7 ws ds)->R J H'):iD X F G sr sa σ H R
theorem PI.weak {t t':TI} (h:PI X tg e t) (q:∀ σ H R,t' σ H R->t σ H R):PI X tg e t':=fun zt s σ H R I hw=>h zt s σ H R I (q _ _ _ hw)
section
variable {F:FT}{G:Str->Option BT.W}
theorem CJ {a:OR} (h:(Rd H0 a (.lst vs)/\a∉m0)\/KL K a vs) (r:RDs K m0 H0 vs ds):qA K (Itl K a) m0 H0 ds C:=by
 have k:∀ {m H},Ext m0 H0 m H->SqL K H a vs:=fun x=>LL.sq (h.elim (fun q=>.inl (Rd.ext x q.1 q.2).1) .inr)
 refine ⟨fun m H hh i x _ _ hi=>?_,fun m H hh i v H' d x RR _ hd y=>?_,fun m H _ x _ _=>⟨vs,k x,by rw[r.length];exact OX _⟩⟩
 ·exact ⟨vs,_,k x,OZ (by rw[r.length];exact hi)⟩
 ·obtain ⟨rfl,y⟩:=y
  obtain ⟨u,h1,h2⟩:=(r.ext x).get hd
  have:=y vs (k x)
  rw[h1] at this
  cases this
  exact ⟨.refl _ _,fun _ _ e=>e,h2⟩
theorem GB {a:OR} (h:(Rd H0 a (.tup vs)/\a∉m0)\/KT K a vs) (r:RDs K m0 H0 vs ds):qA K (Itt K a) m0 H0 ds C:=by
 have k:∀ {m H},Ext m0 H0 m H->SqT K H a vs:=fun x=>h.elim (fun q=>.inl (Rd.ext x q.1 q.2).1) fun ⟨o,its,n,q,_⟩=>.inr ⟨o,its,n,q⟩
 refine ⟨fun m H hh i x _ _ hi=>?_,fun m H hh i v H' d x RR _ hd y=>?_,fun m H _ x _ _=>⟨vs,k x,by rw[r.length];exact OX _⟩⟩
 ·exact ⟨vs,_,k x,OZ (by rw[r.length];exact hi)⟩
 ·obtain ⟨rfl,y⟩:=y
  obtain ⟨u,h1,h2⟩:=(r.ext x).get hd
  have:=y vs (k x)
  rw[h1] at this
  cases this
  exact ⟨.refl _ _,fun _ _ e=>e,h2⟩
theorem GC {a:OR} (h:(Rd H0 a (.lst vs)/\a∉m0)\/KL K a vs) (r:RDs K m0 H0 vs ds):qA K (Itv K a ds.length) m0 H0 ds.reverse C:=by
 have k:∀ {m H},Ext m0 H0 m H->SqL K H a vs:=fun x=>LL.sq (h.elim (fun q=>.inl (Rd.ext x q.1 q.2).1) .inr)
 refine ⟨fun m H hh i x _ _ hi=>?_,fun m H hh i v H' d x RR _ hd y=>?_,fun m H _ x _ _=>by show ds.reverse.length=ds.length;simp⟩
 ·exact ⟨by simpa using hi,vs,k x,r.length⟩
 ·obtain ⟨rfl,y⟩:=y
  have hi:i < ds.length:=by
   have:=getD_some hd
   simpa using this
  have hd':ds[ds.length - 1 - i]?=some d:=by
   rw[List.getElem?_reverse hi] at hd
   exact hd
  obtain ⟨u,h1,h2⟩:=(r.ext x).get hd'
  have:=y vs (k x)
  rw[h1] at this
  cases this
  exact ⟨.refl _ _,fun _ _ e=>e,h2⟩
theorem zh  (lo:Int) (n:Nat):qA K (Itr lo n) m0 H0 (BT.upto lo n) C:=by
 have hl:(BT.upto lo n).length=n:=by simp[BT.upto]
 refine ⟨fun m H hh i x _ _ hi=>by rw[hl] at hi;exact hi,fun m H hh i v H' d x RR _ hd y=>?_,fun m H _ x _ _=>by rw[hl];exact OX n⟩
 obtain ⟨rfl,rfl⟩:=y
 have:d=.int (lo+i):=by
  have hi:i < n:=by
   have:=getD_some hd
   rw[hl] at this
   exact this
  simp only[BT.upto,Pb] at hd
  rw[QY hi] at hd
  simpa using hd.symm
 subst this
 exact ⟨.refl _ _,fun _ _ e=>e,.int _⟩
theorem uD:∀ {ws:List BT.W},BT.fD ws=true->∃ ds:List BT.D,ws=ds.map BT.W.p:=by
 intro ws
 induction ws with
 | nil=>exact fun _=>⟨[],rfl⟩
 | cons w ws ih =>
  intro h
  cases w with
  | p d =>
   obtain ⟨ds,rfl⟩:=ih h
   exact ⟨d :: ds,rfl⟩
  | _=>cases h
theorem zj (h:BT.HH) (ds:List BT.D):BT.rds (ds.map BT.W.p) h=some ds:=by
 induction ds with
 | nil=>rfl
 | cons d ds ih =>
  show (BT.rds (ds.map BT.W.p) h).map (d :: ·)=_
  rw[ih];rfl
theorem zk {ws:List BT.W}{sr:BT.Sr} (hs:sr=.seq\/sr=.rev\/sr=.rng1) (e:(BT.rds ws h).bind (BT.dY sr)=some ds) (ha:BT.fD ws=true):∃ d,ws=[.p d]/\BT.dY sr [d]=some ds:=by
 obtain ⟨xs,rfl⟩:=uD ha
 rw[zj,QS] at e
 cases xs with
 | nil=>rcases hs with rfl|rfl|rfl<;>cases e
 | cons d xs =>
  cases xs with
  | nil=>exact ⟨d,rfl,e⟩
  | cons d2 xs=>rcases hs with rfl|rfl|rfl<;>cases d<;>cases e
theorem o8 {s:BT.Sl}{ws:List BT.W} (e:BT.evs F G (.cons a .nil) s h=some (ws,h')):∃ w,ws=[w]/\BT.ev F G a s h=some (w,h'):=by
 simp only[BT.evs] at e
 obtain ⟨w,g,e1,e2⟩:=ak e
 simp only[BT.lN,BT.bR,BT.jb] at e2
 cases e2
 exact ⟨w,rfl,e1⟩
theorem CK {a:OR}{q:Nat} (hq:m0[q]?=some a):qA K (Itl K a) m0 H0 ds (o7 [.r q] ds):=by
 have k:∀ {m H h},Ext m0 H0 m H->RH K m H h->o7 [.r q] ds h->∃ vs,SqL K H a vs/\RDs K m H vs ds:=fun {m H h} x RR c=>by
  obtain ⟨e,rfl,_⟩:=x.pre
  have e1:(m0++e)[q]?=some a:=by rw[OW (List.getElem?_eq_some_iff.mp hq).1];exact hq
  obtain ⟨vs,c1,c2⟩:=RR.cell q a ds e1 (c q rfl)
  exact ⟨vs,LL.sq (.inl (.inl c1)),c2⟩
 refine ⟨fun m H hh i x RR c hi=>?_,fun m H hh i v H' d x RR c hd y=>?_,fun m H hh x RR c=>?_⟩
 ·obtain ⟨vs,k1,k2⟩:=k x RR c
  exact ⟨vs,_,k1,OZ (by rw[k2.length];exact hi)⟩
 ·obtain ⟨vs,k1,k2⟩:=k x RR c
  obtain ⟨rfl,y⟩:=y
  obtain ⟨u,h1,h2⟩:=k2.get hd
  have:=y vs k1
  rw[h1] at this
  cases this
  exact ⟨.refl _ _,fun _ _ e=>e,h2⟩
 ·obtain ⟨vs,k1,k2⟩:=k x RR c
  exact ⟨vs,k1,by rw[k2.length];exact OX _⟩
theorem uE {x:ON} (he:PE X x (tD X F G a)):PI X tg x (iD X F G .seq (.cons a .nil)):=by
 intro zt s σ H R I q
 obtain ⟨m,s',h,ws,h',ds,RR,S,e,e2,ha,zr⟩:=q
 rcases ha with ha|⟨_,q,rfl⟩
 case inr =>
  obtain ⟨w,ew,e4⟩:=o8 e
  cases ew
  have g:BT.lat h' q=some ds:=by
   simp only[BT.rds,BT.rd,RY] at e2
   cases g:BT.lat h' q with
   | none=>rw[g] at e2;cases e2
   | some xs=>rw[g] at e2;cases e2;rfl
  refine tN he zt s σ H R I ⟨m,s',h,_,h',RR,S,e4,fun v H1 m1 x1 R1 r1=>?_⟩
  cases r1 with
  | @r a n hn =>
   obtain ⟨vs,c1,c2⟩:=R1.cell q a ds hn g
   exact ⟨a,rfl,⟨vs,LL.sq (.inl (.inl c1))⟩,zr H1 m1 _ x1 R1 (CK hn)⟩
 obtain ⟨d,rfl,e3⟩:=zk (.inl rfl) e2 ha
 obtain ⟨w,ew,e4⟩:=o8 e
 cases ew
 rw[BT.yd] at e3
 cases d<;>simp only[BT.oN] at e3<;>try contradiction
 ·cases e3
  refine E7 he zt s σ H R I ⟨m,s',h,_,h',RR,S,e4,fun v H1 m1 x1 R1 r1=>?_⟩
  cases r1 with
  | p r1 =>
   cases r1 with
   | @tup a vs _ h r=>exact ⟨a,rfl,⟨vs,h.elim (fun q=>.inl q.1) fun ⟨o,its,n,q,_⟩=>.inr ⟨o,its,n,q⟩⟩,zr H1 m1 _ x1 R1 (GB h r)⟩
 ·cases e3
  refine tN he zt s σ H R I ⟨m,s',h,_,h',RR,S,e4,fun v H1 m1 x1 R1 r1=>?_⟩
  cases r1 with
  | p r1 =>
   cases r1 with
   | @lst a vs _ h r=>exact ⟨a,rfl,⟨vs,LL.sq (h.elim (fun q=>.inl q.1) .inr)⟩,zr H1 m1 _ x1 R1 (CJ h r)⟩
theorem qB  (O:Ok X F G sc N) {p:Pos} (hg:aE sc "range"=true) (hs:noStar e=true) (ha:PA X [e] (tDs X F G sa)):PI X tg (.Call (.Name "range" p) [e] [] pos) (iD X F G .rng1 sa):=by
 refine PI.weak (vB (aM O hg) (O.blt _ (by decide)) ha (aj hs)) fun σ H R q=>?_
 obtain ⟨m,s',h,ws,h',ds,RR,S,e,e2,ha,zr⟩:=q
 obtain ⟨d,rfl,e3⟩:=zk (.inr (.inr rfl)) e2 (ha.p (fun z=>by cases z))
 refine ⟨m,s',h,_,h',RR,S,e,fun vs H1 m1 x1 R1 r1=>?_⟩
 obtain ⟨j,rfl⟩:∃ j:Int,d=.int j:=by
  cases d with
  | int j=>exact ⟨j,rfl⟩
  | _=>exact absurd (show (none:Option (List BT.D))=some _ from e3) (fun z=>nomatch z)
 rw[BT.eX] at e3
 split at e3
 ·rename_i c
  simp only[OQ,decide_eq_true_eq] at c
  cases e3
  cases r1 with
  | cons r t =>
   cases t
   cases r with
   | p r =>
    cases r
    exact ⟨j,rfl,by lia,by lia,zr H1 m1 _ x1 R1 (zh 0 j.toNat)⟩
 ·cases e3
theorem JW {ws:List BT.W} (e:(BT.rds ws h).bind (BT.dY .rng2)=some ds) (ha:BT.fD ws=true):∃ i j:Int,ws=[.p (.int i),.p (.int j)]/\(-100000<=i/\i<=100000/\-100000<=j/\j<=100000)/\ds=BT.upto i (j - i).toNat:=by
 obtain ⟨xs,rfl⟩:=uD ha
 rw[zj,QS] at e
 have hx:∃ i j:Int,xs=[.int i,.int j]:=by
  match xs,e with
  | [.int i,.int j],_=>exact ⟨i,j,rfl⟩
 obtain ⟨i,j,rfl⟩:=hx
 rw[BT.eY] at e
 split at e
 ·rename_i c
  simp only[OQ,decide_eq_true_eq] at c
  cases e
  exact ⟨i,j,rfl,⟨c.1.1.1,c.1.1.2,c.1.2,c.2⟩,rfl⟩
 ·cases e
theorem qC  (O:Ok X F G sc N) {x y:ON}{p:Pos} (hg:aE sc "range"=true) (hs:noStar x=true) (hs2:noStar y=true) (ha:PA X [x,y] (tDs X F G sa)):PI X tg (.Call (.Name "range" p) [x,y] [] pos) (iD X F G .rng2 sa):=by
 refine PI.weak (vC (aM O hg) (O.blt _ (by decide)) ha (by rw[aj hs,aj hs2];rfl) (by rw[aj hs2];rfl)) fun σ H R q=>?_
 obtain ⟨m,s',h,ws,h',ds,RR,S,e,e2,ha,zr⟩:=q
 obtain ⟨i,j,rfl,c,rfl⟩:=JW e2 (ha.p (fun z=>by cases z))
 refine ⟨m,s',h,_,h',RR,S,e,fun vs H1 m1 x1 R1 r1=>?_⟩
 cases r1 with
 | cons r t =>
  cases t with
  | cons r2 t2 =>
   cases t2
   cases r with
   | p r =>
    cases r
    cases r2 with
    | p r2 =>
     cases r2
     exact ⟨i,j,rfl,⟨by lia,by lia,by lia,by lia⟩,zr H1 m1 _ x1 R1 (zh i (j - i).toNat)⟩
theorem uF  (O:Ok X F G sc N) {p:Pos} (hg:aE sc "reversed"=true) (hs:noStar e=true) (he:PE X e (tD X F G a)):PI X tg (.Call (.Name "reversed" p) [e] [] pos) (iD X F G .rev (.cons a .nil)):=by
 intro zt s σ H R I q
 obtain ⟨m,s',h,ws,h',ds,RR,S,e,e2,ha,zr⟩:=q
 obtain ⟨d,rfl,e3⟩:=zk (.inr (.inl rfl)) e2 (ha.p (fun z=>by cases z))
 obtain ⟨w,ew,e4⟩:=o8 e
 cases ew
 obtain ⟨xs,rfl⟩:∃ xs:List BT.D,d=.lst xs:=by
  cases d with
  | lst xs=>exact ⟨xs,rfl⟩
  | _=>exact absurd (show (none:Option (List BT.D))=some _ from e3) (fun z=>nomatch z)
 ·cases e3
  refine Call_ (ff (u:=.type "reversed") I (aM O hg) (O.blt _ (by decide)) (by decide +kernel) (Pw (thn (cF he gX (aj hs) pos zt s σ H (fun vs H1=>∃ a vt,vs=[.ref a]/\∃ m1,Ext m H m1 H1/\RH X.K m1 H1 h'/\((Rd H1 a (.lst vt)/\a∉m1)\/KL X.K a vt)/\RDs X.K m1 H1 vt xs) I ?_) fun us s1 ⟨vs,H1,I1,r1,q1⟩=>?_) (aj hs) rfl))
  ·refine ⟨m,s',h,_,h',RR,S,e4,fun v H1 m1 x1 R1 r1=>?_⟩
   cases r1 with
   | p r1 =>
    cases r1 with
    | @lst a vt _ hh r=>exact ⟨a,vt,rfl,m1,x1,R1,hh,r⟩
  ·obtain ⟨a,vt,rfl,m1,x1,R1,hh,r⟩:=q1
   obtain ⟨u,rfl,ru⟩:=vals1 r1
   cases ru
   obtain ⟨z,its,nn,rv,hl,ee⟩:=rdL I1 (hh.elim (fun q=>.inl q.1) .inr)
   have hL:s1.heap.IsList a its.toArray:=⟨_,ee,rfl,_,rfl⟩
   have hlen:=r.length
   refine call_reversed_list hL ?_
   have stt:({ s1 with heap:=s1.heap.push (revObj a ((its.toArray.size:Int) - 1)) }:OP).heap.IsRevIter s1.heap.objs.size a ((xs.length:Int) - 1 - ((0:Nat):Int)):=by
    refine ⟨_,Pf _ rfl,rfl,?_⟩
    show Data.fields #[.ref a,RE ((its.toArray.size:Int) - 1)]=_
    rw[OT,← hl,hlen]
    simp
   refine wpAny_pyIter_revIter stt ?_
   refine ⟨s1.heap.objs.size,[s1.heap.objs.size],_,_,H1,rfl,I1.kept (t':=s1.toks) fun b o e=>OS _ e,zg a _ xs.length,stt,fun b hb=>?_,zr H1 m1 _ x1 R1 (GC hh r)⟩
   have e:b=s1.heap.objs.size:=by simpa using hb
   subst e
   exact I1.xJ (OX _) (I1.hok.fresh (OX _))
end
section
variable {P:OU}{w:Pa}{K:OM}{m m':List OR}{H H':Hp}
end
section
variable {X:Cx}{F:FT}{G:Str->Option BT.W}
noncomputable def Os:V->V->V->Hp->(Hp->Prop)->Prop:=fun o i v H Q=>∃ p kvs k,o=.ref p/\i=kV k/\H p=some (.dK kvs)/\kvs.length < sizeLine/\Q (upd H p (.dK (putK kvs k v)))
end
section
variable {prog:OU}{w:Pa}{A:PF}{E:Value->OP->Prop}{s:OP}
end
section
variable {X:Cx}{F:FT}{G:Str->Option BT.W}
end
section
variable {F:FT}{G:Str->Option BT.W}
theorem uG:∀ {xs:List V}{us:List Value},xs.length=us.length->(∀ (j:Nat) x u,xs[j]?=some x->us[j]?=some u->RelV x u)->az xs us:=by
 intro xs
 induction xs with
 | nil =>
  intro us h _
  cases us with
  | nil=>exact .nil
  | cons _ _=>simp at h
 | cons x xs ih =>
  intro us h q
  cases us with
  | nil=>simp at h
  | cons u us=>exact .cons (q 0 x u rfl rfl) (ih (by simpa using h) fun j a b e1 e2=>q (j+1) a b (by simpa using e1) (by simpa using e2))
theorem zl  (O:Ok X F G sc N) (hu:cR N=true) {mu:Bool}{ex:ON}{zp p:Pos} (hg:aE sc "list"=true) (hg2:aE sc "range"=true) (hs:noStar ex=true) (hA:PA X [ex] (tDs X F G sa)) :
 PE X (.Call (.Name "list" np) [.Call (.Name "range" zp) [ex] [] pos] [] p) (tD X F G (.lsr mu .rng1 sa)):=by
 intro zt s σ H Q I q
 have q:=iR (as:=sa) (k:=fun ws h=>BT.kLs mu .rng1 ws h) (fun s h=>by simp only[BT.ev]) q (R':=fun vs H1=>∃ m h ws z h',RH X.K m H1 h/\RWs X.prog X.w X.K m H1 vs ws/\BT.kLs mu .rng1 ws h=some (z,h')/\Post X.prog X.w X.K m H1 z h' Q) fun m h xs z h' vs H1 R r e zr=>⟨m,h,xs,z,h',R,r,e,zr⟩
 refine Call_ (ff (u:=.type "list") I (aM O hg) (O.blt _ (by decide)) (by decide +kernel) (Pw ?_ (aj rfl) rfl))
 rw[aj (show noStar (.Call (.Name "range" zp) [ex] [] pos)=true from rfl)]
 show wpAny _ _ (Se ((false,eval (.Call (.Name "range" zp) [ex] [] pos) X.env) :: QA p (Pe [] X.env))) _ _ s
 refine P4 (Call_ (ff (u:=.type "range") I (aM O hg2) (O.blt _ (by decide)) (by decide +kernel) (Pw (thn (hA pos zt s σ H _ I q) fun us s1 ⟨vs,H1,I1,r1,q1⟩=>?_) (aj hs) rfl)))
 obtain ⟨m,h,ws,z,h',R,rws,e,zr⟩:=q1
 unfold BT.kLs at e
 cases g1:(BT.rds ws h).bind (BT.dY .rng1) with
 | none=>rw[g1] at e;cases e
 | some ds =>
  rw[g1] at e
  simp only at e
  by_cases cl:ds.length<=BT.lim
  case neg=>rw[if_neg cl] at e;cases e
  rw[if_pos cl] at e
  have ez:BT.new mu ds h=(z,h'):=OV e
  obtain ⟨xs,e1,e2⟩:=Option.bind_eq_some_iff.mp g1
  have rr:=fY R rws e1
  have hd:∃ j:Int,xs=[.int j]:=by
   match xs,e2 with
   | [.int j],_=>exact ⟨j,rfl⟩
  obtain ⟨j,rfl⟩:=hd
  rw[BT.eX] at e2
  split at e2
  case isFalse=>cases e2
  rename_i c
  simp only[OQ,decide_eq_true_eq] at c
  have ed:BT.upto 0 j.toNat=ds:=OV e2
  obtain ⟨v,rfl,r⟩:=rr.one
  cases r with
  | d r =>
   cases r
   obtain ⟨u,rfl,eu⟩:=vals1 r1
   obtain ⟨t,rfl⟩:=eu
   refine call_range_1 (QL ?_)
   refine call_list_range (s:={ s1 with heap:=s1.heap.push { cls:=.type "range",data:=.fields #[.int 0 s1.toks,.int j t,.int 1 (s1.toks+1)] },toks:=s1.toks+1+1 }) (I1.ok.hd (O.calm hu)) (Um ..) (small_one (by lia) (by lia) (by lia) (by lia)) (n:=j.toNat) (by rw[UQ];split<;>lia) (by lia) fun h2 tk acc c' hk hS hacc=>?_
   have nn:ds=((Pu j.toNat).map fun (k:Nat)=>(0:Int)+(k:Int)).map BT.D.int:=by rw[← ed,QG];rfl
   have hk':∀ b u,s1.heap.get? b=some u->h2.get? b=some u:=fun b u q=>hk b u (OS _ q)
   have hle:s1.heap.objs.size<=(s1.heap.push { cls:=.type "range",data:=.fields #[.int 0 s1.toks,.int j t,.int 1 (s1.toks+1)] }).objs.size:=by rw[Rz];exact Qd _
   have hv:az (((Pu j.toNat).map fun (k:Nat)=>(0:Int)+(k:Int)).map V.int) acc.toList:=by
    refine uG (by simp[hacc.1]) fun i x u e1 e2=>?_
    obtain ⟨t',rfl⟩:=hacc.2 i u (by simpa using e2)
    have:x=.int (0+(i:Int)):=by
     rw[QG,Pb] at e1
     rcases Pi i j.toNat with z|z
     ·rw[QY z] at e1
      exact (OV e1).symm
     ·rw[O0 (by simpa using z)] at e1;cases e1
    subst this
    exact ⟨t',by simp⟩
   have sl:sizeLine=16777216:=S7
   refine ⟨.ref _,_,I1.laid (h':=h2) (t':=tk) (o:=.lst (((Pu j.toNat).map fun (k:Nat)=>(0:Int)+(k:Int)).map V.int)) hk' hle ⟨by rw[Pq,Pq,List.length_range];lia,acc.toList,c',hv,by simpa using hS⟩,rfl,?_⟩
   refine iN (mu:=mu) R (I1.hok.fresh hle) (lW _) ?_
   rw[← nn,ez]
   exact zr
theorem RRs.two {K:OM}{m:List OR}{H:Hp}{vs:List V}{d e:BT.D} (r:RRs K m H vs [d,e]):∃ v u,vs=[v,u]/\RR K m H v d/\RR K m H u e:=by
 cases r with
 | cons r t=>obtain ⟨u,rfl,q⟩:=t.one;exact ⟨_,u,rfl,r,q⟩
theorem wo  (O:Ok X F G sc N) (hu:cR N=true) {mu:Bool}{ex ey:ON}{zp p:Pos} (hg:aE sc "list"=true) (hg2:aE sc "range"=true) (hs:noStar ex=true) (hs2:noStar ey=true) (hA:PA X [ex,ey] (tDs X F G sa)) :
 PE X (.Call (.Name "list" np) [.Call (.Name "range" zp) [ex,ey] [] pos] [] p) (tD X F G (.lsr mu .rng2 sa)):=by
 intro zt s σ H Q I q
 have q:=iR (as:=sa) (k:=fun ws h=>BT.kLs mu .rng2 ws h) (fun s h=>by simp only[BT.ev]) q (R':=fun vs H1=>∃ m h ws z h',RH X.K m H1 h/\RWs X.prog X.w X.K m H1 vs ws/\BT.kLs mu .rng2 ws h=some (z,h')/\Post X.prog X.w X.K m H1 z h' Q) fun m h xs z h' vs H1 R r e zr=>⟨m,h,xs,z,h',R,r,e,zr⟩
 refine Call_ (ff (u:=.type "list") I (aM O hg) (O.blt _ (by decide)) (by decide +kernel) (Pw ?_ (aj rfl) rfl))
 rw[aj (show noStar (.Call (.Name "range" zp) [ex,ey] [] pos)=true from rfl)]
 show wpAny _ _ (Se ((false,eval (.Call (.Name "range" zp) [ex,ey] [] pos) X.env) :: QA p (Pe [] X.env))) _ _ s
 refine P4 (Call_ (ff (u:=.type "range") I (aM O hg2) (O.blt _ (by decide)) (by decide +kernel) (Pw (thn (hA pos zt s σ H _ I q) fun us s1 ⟨vs,H1,I1,r1,q1⟩=>?_) (aj hs) (aI (by simp[aq,hs2])))))
 obtain ⟨m,h,ws,z,h',R,rws,e,zr⟩:=q1
 unfold BT.kLs at e
 cases g1:(BT.rds ws h).bind (BT.dY .rng2) with
 | none=>rw[g1] at e;cases e
 | some ds =>
  rw[g1] at e
  simp only at e
  by_cases cl:ds.length<=BT.lim
  case neg=>rw[if_neg cl] at e;cases e
  rw[if_pos cl] at e
  have ez:BT.new mu ds h=(z,h'):=OV e
  obtain ⟨xs,e1,e2⟩:=Option.bind_eq_some_iff.mp g1
  have rr:=fY R rws e1
  have hd:∃ i j:Int,xs=[.int i,.int j]:=by
   match xs,e2 with
   | [.int i,.int j],_=>exact ⟨i,j,rfl⟩
  obtain ⟨i,j,rfl⟩:=hd
  rw[BT.eY] at e2
  split at e2
  case isFalse=>cases e2
  rename_i c
  simp only[OQ,decide_eq_true_eq] at c
  have ed:BT.upto i (j - i).toNat=ds:=OV e2
  obtain ⟨v,v2,rfl,r,r2⟩:=rr.two
  cases r with
  | d r =>
   cases r
   cases r2 with
   | d r2 =>
    cases r2
    obtain ⟨u,u2,rfl,eu,eu2⟩:=vals2 r1
    obtain ⟨t,rfl⟩:=eu
    obtain ⟨t2,rfl⟩:=eu2
    refine call_range_2 (QL ?_)
    refine call_list_range (s:={ s1 with heap:=s1.heap.push { cls:=.type "range",data:=.fields #[.int i t,.int j t2,.int 1 s1.toks] },toks:=s1.toks+1 }) (I1.ok.hd (O.calm hu)) (Um ..) (small_one (by lia) (by lia) (by lia) (by lia)) (n:=(j - i).toNat) (by rw[UQ];split<;>lia) (by lia) fun h2 tk acc c' hk hS hacc=>?_
    have nn:ds=((Pu (j - i).toNat).map fun (k:Nat)=>i+(k:Int)).map BT.D.int:=by rw[← ed,QG];rfl
    have hk':∀ b u,s1.heap.get? b=some u->h2.get? b=some u:=fun b u q=>hk b u (OS _ q)
    have hle:s1.heap.objs.size<=(s1.heap.push { cls:=.type "range",data:=.fields #[.int i t,.int j t2,.int 1 s1.toks] }).objs.size:=by rw[Rz];exact Qd _
    have hv:az (((Pu (j - i).toNat).map fun (k:Nat)=>i+(k:Int)).map V.int) acc.toList:=by
     refine uG (by simp[hacc.1]) fun q x u e1 e2=>?_
     obtain ⟨t',rfl⟩:=hacc.2 q u (by simpa using e2)
     have:x=.int (i+(q:Int)):=by
      rw[QG,Pb] at e1
      rcases Pi q (j - i).toNat with z|z
      ·rw[QY z] at e1
       exact (OV e1).symm
      ·rw[O0 (by simpa using z)] at e1;cases e1
     subst this
     exact ⟨t',by simp⟩
    have sl:sizeLine=16777216:=S7
    refine ⟨.ref _,_,I1.laid (h':=h2) (t':=tk) (o:=.lst (((Pu (j - i).toNat).map fun (k:Nat)=>i+(k:Int)).map V.int)) hk' hle ⟨by rw[Pq,Pq,List.length_range];lia,acc.toList,c',hv,by simpa using hS⟩,rfl,?_⟩
    refine iN (mu:=mu) R (I1.hok.fresh hle) (lW _) ?_
    rw[← nn,ez]
    exact zr
end
end BS
end
section
namespace BX
open PySem PyProof.Rows
section
variable {prog:OU}{w:Pa}{A:PF}{E:Value->OP->Prop}{s:OP}{R:Result->OP->Prop}
end
section
variable {prog:OU}{w:Pa}{A:PF}{E:Value->OP->Prop}{s:OP}
end
end BX
namespace BS
open PySem PySem.Spec PyProof.Rows L2
section
variable {F:FT}{G:Str->Option BT.W}
end
end BS
end
section
namespace BS
open PySem PySem.Spec PyProof.Rows L2
variable {K:OM}{N:List Str}{X:Cx}{sc:O6}
noncomputable def Ite (K:OM) (l:OR):It :=
 ⟨fun i H=>∃ xs x,SqL K H l xs/\xs[i]?=some x,
  fun i H v H'=>∃ t x,v=.ref t/\H t=none/\H'=upd H t (.tup [.int (i:Nat),x])/\∀ xs,SqL K H l xs->xs[i]?=some x,
  fun i H=>∃ xs,SqL K H l xs/\xs.length<=i⟩
def GD (e it l:OR) (i:Nat) (h:Heap):Prop:=(∃ old,IsEnum h e it ((i:Nat):Int) old)/\h.IsListIter it l i
theorem wu {P:OU}{w:Pa}{elts:List ON}{kk:Nat}{tp:Pos}{e it l:OR} (hne:e≠it):Turn P w K (.Tuple elts kk tp) (Ite K l) [e,it] e (GD e it l) where
 mem:=by simp
 obj:=fun i h st b hb=>by
  obtain ⟨⟨old,a1⟩,⟨o1,e1,c1,d1⟩⟩:=st
  simp only[PY,PD,or_false] at hb
  rcases hb with rfl|rfl
  ·exact ⟨_,a1,fun v q=>by cases (show Data.fields _=Data.cell v from q)⟩
  ·exact ⟨o1,e1,fun v q=>by rw[d1] at q;cases q⟩
 keep:=fun i h h' st k=>by
  obtain ⟨⟨old,a1⟩,a4⟩:=st
  exact ⟨⟨old,k _ (by simp) _ a1⟩,a4.at fun o e=>k _ (by simp) o e⟩
 item:=by
  intro X hP hw hK hc i zt s σ H E I hf st hg
  subst hP hw hK
  obtain ⟨xs,x,hq,hx⟩:=hg
  obtain ⟨its,rv,p,hz⟩:=I.list hq
  obtain ⟨u,hu,ru⟩:=rv.get hx
  obtain ⟨⟨old,a1⟩,a4⟩:=st
  refine wpAny_pyNext_enum_item a1 a4 p.isList (x:=u) (by simpa using hu) hne fun h' b1 b2 b3 b4 b5=>?_
  refine ⟨_,rfl,wpAny_letOwnedTupleGo_enum b1 fun h2 c1 c2=>?_⟩
  have c2:Q2 e h' h2:=c2
  have oldk:∀ b o,b∉[e,it]->s.heap.get? b=some o->h2.get? b=some o:=fun b o hb q=>by
   simp only[PY,PD,or_false,not_or] at hb
   exact c2.extBut b o hb.1 (b5 b o hb.1 hb.2 q)
  have neT:s.heap.objs.size≠e:=Ry (O2 a1)
  have hpair:h2.get? s.heap.objs.size=some { cls:=.type "tuple",data:=.seq #[.int ((i:Nat):Int) s.toks,u] }:=c2.extBut _ _ neT b3
  have hnew:H s.heap.objs.size=none:=I.hok.fresh (OX _)
  have hok:HOk X.prog X.w (upd H s.heap.objs.size (.tup [.int ((i:Nat):Int),x])) h2:=fun b v q=>by
   by_cases eb:b=s.heap.objs.size
   ·subst eb
    rw[aG] at q
    cases q
    exact ⟨by show 2<=sizeLine;decide,[.int ((i:Nat):Int) s.toks,u],.cons ⟨s.toks,rfl⟩ (.cons ru .nil),_,hpair,rfl,_,rfl⟩
   ·rw[ao eb] at q
    refine (I.hok b v q).stay (fun c v hc z=>oldk c v (fun hb=>?_) z) (fun c z=>?_) fun c l z=>?_
    ·have:=(hf c hb).1
     rcases hc with rfl|hc
     ·rw[this] at q;cases q
     ·rw[this] at hc;cases hc
    ·rw[ao (Py (I.hok.lt z))];exact z
    ·rw[ao (Py (I.hok.lt z))];exact z
  refine ⟨.ref s.heap.objs.size,_,Inv.CH (s:=s) (tk:=s.toks+1) I hf oldk (fun b hb=>ao (Py hb)) hok,rfl,⟨_,x,rfl,hnew,rfl,fun xs' h'=>by rw[I.ly h' hq];exact hx⟩,?_,fun b hb=>?_⟩
  ·refine ⟨⟨u,?_⟩,b2.extBut c2.extBut (Qj hne)⟩
   have e3:(((i+1:Nat)):Int)=((i:Nat):Int)+1:=by simp
   rw[e3]
   exact c1
  ·have hlt:b < s.heap.objs.size:=by
    obtain ⟨o1,e1,_⟩:=a4
    simp only[PY,PD,or_false] at hb
    rcases hb with rfl|rfl
    ·exact O2 a1
    ·exact O2 e1
   rw[ao (Py hlt)]
   exact (hf b hb).1
 done:=by
  intro X hP hw hK hc i zt s σ H E I hf st hg
  subst hP hw hK
  obtain ⟨xs,hq,hx⟩:=hg
  obtain ⟨its,rv,p,hz⟩:=I.list hq
  obtain ⟨⟨old,a1⟩,a4⟩:=st
  have n1:=rv.length
  refine wpAny_pyNext_enum_end (I.ok.hd hc) a1 a4 p.isList (by simp;lia) fun h' b5=>⟨rfl,?_⟩
  obtain ⟨f0,f1,f2,f3,f4,f5⟩:=hf it (by simp)
  exact I.turned (t':=s.toks) (fun b o hb q=>b5 b o hb q) f0 f1 f3 f4 f5
 self:=fun _ _ _ _ _ st h=>by
  obtain ⟨⟨old,a1⟩,_⟩:=st
  exact wpAny_pyIter_enum a1 h
theorem GE {C:BT.HH->Prop}{m0:List OR}{H0:Hp}{a:OR}{vs:List V}{ds:List BT.D} (h:(Rd H0 a (.lst vs)/\a∉m0)\/KL K a vs) (r:RDs K m0 H0 vs ds):qA K (Ite K a) m0 H0 (BT.bz 0 ds) C:=by
 have k:∀ {m H},Ext m0 H0 m H->SqL K H a vs:=fun x=>LL.sq (h.elim (fun q=>.inl (Rd.ext x q.1 q.2).1) .inr)
 have len:∀ (ds:List BT.D) (n:Nat),(BT.bz n ds).length=ds.length:=by
  intro ds
  induction ds with
  | nil=>intro n;rfl
  | cons d ds ih=>intro n;simp[BT.bz,ih]
 have get:∀ (ds:List BT.D) (n i:Nat) (d:BT.D),(BT.bz n ds)[i]?=some d->∃ x,ds[i]?=some x/\d=.tup [.int ((n+i:Nat):Int),x]:=by
  intro ds
  induction ds with
  | nil=>intro n i d e;simp[BT.bz] at e
  | cons d0 ds ih =>
   intro n i d e
   cases i with
   | zero=>simp[BT.bz] at e;exact ⟨d0,rfl,by simp[← e]⟩
   | succ i =>
    simp[BT.bz] at e
    obtain ⟨x,h1,h2⟩:=ih (n+1) i d e
    exact ⟨x,by simpa using h1,by rw[h2];simp;lia⟩
 have l1:=r.length
 have ln:=len ds 0
 refine ⟨fun m H hh i x _ _ hi=>?_,fun m H hh i v H' d x RR _ hd y=>?_,fun m H _ x _ _=>⟨vs,k x,by rw[ln];lia⟩⟩
 ·rw[ln] at hi
  exact ⟨vs,_,k x,OZ (by lia)⟩
 ·obtain ⟨t,v1,rfl,hn,rfl,y1⟩:=y
  obtain ⟨d1,e1,rfl⟩:=get ds 0 i d hd
  obtain ⟨u1,g1,q1⟩:=(r.ext x).get e1
  have:=y1 vs (k x)
  rw[g1] at this
  cases this
  have nt:=RR.d9 hn
  have xx:Ext m H m (upd H t (.tup [.int ((i:Nat):Int),v1])):=eg hn
  refine ⟨xx,sy hn,.tup (.inl ⟨.inl aG,nt⟩) (.cons ?_ (.cons (q1.ext xx) .nil))⟩
  rw[Tg]
  exact .int _
section
variable {F:FT}{G:Str->Option BT.W}
theorem JX {ws:List BT.W}{h:BT.HH}{ds:List BT.D} (e:(BT.rds ws h).bind (BT.dY .enu)=some ds) (ha:BT.fD ws=true):∃ xs,ws=[.p (.lst xs)]/\ds=BT.bz 0 xs:=by
 obtain ⟨qs,e1,e2⟩:=Option.bind_eq_some_iff.mp e
 match ws,e1,ha with
 | [],e1,_=>cases e1;exact ai e2
 | [.p d],e1,_ =>
  cases e1
  cases d with
  | lst xs=>rw[BT.ye] at e2;cases e2;exact ⟨xs,rfl,rfl⟩
  | _=>exact ai e2
 | .p d :: .p d2 :: r,e1,_ =>
  simp only[BT.rds,BT.rd] at e1
  simp only[QS] at e1
  obtain ⟨q,e3,e4⟩:=aC e1
  obtain ⟨q2,e5,e6⟩:=aC e3
  subst e4 e6
  cases d<;>exact ai e2
 | .r _ :: _,_,ha=>cases ha
 | .k _ :: _,_,ha=>cases ha
 | .c _ _ :: _,_,ha=>cases ha
 | .x _ :: _,_,ha=>cases ha
 | .p _ :: .r _ :: _,_,ha=>cases ha
 | .p _ :: .k _ :: _,_,ha=>cases ha
theorem CM  (O:Ok X F G sc N) {elts:List ON}{kk:Nat}{tp:Pos}{ex:ON}{sa:BT.Es}{p pos:Pos} (hg:aE sc "enumerate"=true) (hs:noStar ex=true) (hA:PA X [ex] (tDs X F G sa)) :
 PI X (.Tuple elts kk tp) (.Call (.Name "enumerate" p) [ex] [] pos) (iD X F G .enu sa):=by
 intro zt s σ H R I q
 obtain ⟨m,s',h,ws,h',ds,RR,S,e,e2,ha,zr⟩:=q
 obtain ⟨xs,rfl,rfl⟩:=JX e2 (ha.p (fun z=>by cases z))
 refine Call_ (ff (u:=.type "enumerate") I (aM O hg) (O.blt _ (by decide)) (by decide +kernel) (Pw (thn (hA pos zt s σ H (fun vs H1=>∃ a vt,vs=[.ref a]/\∃ m1,Ext m H m1 H1/\RH X.K m1 H1 h'/\((Rd H1 a (.lst vt)/\a∉m1)\/KL X.K a vt)/\RDs X.K m1 H1 vt xs) I
  ⟨m,s',h,_,h',RR,S,e,fun vs H1 m1 x1 R1 r1=>?_⟩) fun us s1 ⟨vs,H1,I1,r1,q1⟩=>?_) (aj hs) rfl))
 ·cases r1 with
  | cons ra t =>
   cases t
   cases ra with
   | p ra =>
    cases ra with
    | @lst a vt _ h1 ra=>exact ⟨a,vt,rfl,m1,x1,R1,h1,ra⟩
 ·obtain ⟨a,vt,rfl,m1,x1,R1,h1,ra⟩:=q1
  obtain ⟨u1,rfl,ru1⟩:=vals1 r1
  cases ru1
  obtain ⟨z1,its1,n1,rv1,hl1,ee1⟩:=rdL I1 (h1.elim (fun q=>.inl q.1) .inr)
  have L1:s1.heap.IsList a its1.toArray:=⟨_,ee1,rfl,_,rfl⟩
  refine call_enumerate_list L1 fun h2' y1 y2 y3 y4=>?_
  refine wpAny_pyIter_enum y1 ?_
  refine ⟨_,_,_,_,H1,rfl,I1.kept (t':=s1.toks) fun b o e=>y4 b o e,wu (Nat.succ_ne_self _),⟨⟨_,y1⟩,y2⟩,fun c hc=>?_,zr H1 m1 _ x1 R1 (GE h1 ra)⟩
  have hle:s1.heap.objs.size<=c:=by
   simp only[PY,PD,or_false] at hc
   rcases hc with rfl|rfl
   ·exact Qd _
   ·exact OX _
  exact I1.xJ hle (I1.hok.fresh hle)
end
noncomputable def kL (sc:O6) (x:Str):Bool:=match sc.names.lookup x with
 | some .local=>true
 | some .cell=>true
 | _=>false
inductive CT (sc:O6) (N:List Str):List (Nat×Str)->ON->Prop where
 | one {i:Nat}{x:Str}{p:Pos} (h1:N[i]?=some x) (h2:kL sc x=true):CT sc N [(i,x)] (.Name x p)
 | two {i j:Nat}{x y:Str}{p p1 p2:Pos}{k:Nat} (h1:N[i]?=some x) (h2:kL sc x=true) (h3:N[j]?=some y) (h4:kL sc y=true):CT sc N [(i,x),(j,y)] (.Tuple [.Name x p1,.Name y p2] k p)
section
variable {F:FT}{G:Str->Option BT.W}
theorem RS.set {P:OU}{w:Pa}{m:List OR}{H:Hp}{σ:L2.St}{s:BT.Sl}{i:Nat}{v:V}{z:BT.W} (S:RS P w K m H σ s) (r:RW P w K m H v z):RS P w K m H (σ.set i (some v)) (s.set i (some z)):=by
 refine ⟨by simp[S.len],fun j y e=>?_⟩
 by_cases c:i=j
 ·subst c
  have hl:i < s.length:=by
   rcases Pi i s.length with q|q
   ·exact q
   ·rw[O0 (by simpa using q)] at e;cases e
  rw[P0 hl] at e
  cases e
  exact ⟨v,by rw[P0 (by rw[S.len];exact hl)],r⟩
 ·rw[PM c] at e
  obtain ⟨u,h1,h2⟩:=S.get j y e
  exact ⟨u,by rw[PM c];exact h1,h2⟩
theorem jh  (O:Ok X F G sc N) {x:Str} (h:kL sc x=true):L2.Loc X.env.scope x:=by
 rw[O.hsc]
 unfold kL at h
 unfold L2.Loc
 cases e:sc.names.lookup x with
 | none=>rw[e] at h;cases h
 | some k=>rw[e] at h;cases k<;>first|(exact .inl rfl)|(exact .inr rfl)|cases h
theorem uH {e:ON}{env:Env} (h:jc e=true):∀ x,foldedSetIterable e env x=pure x:=by
 intro x
 cases e<;>first|rfl|cases h
def GOk (X:Cx) (tg:List (Nat×Str)) (g:TG):Prop:=∀ (m:List OR) (H:Hp) (σ:L2.St) (s:BT.Sl) (x:V) (d:BT.D) (ds:List BT.D) (Q:L2.St->Hp->Prop),RS X.prog X.w X.K m H σ s->RD X.K m H x d->BT.target tg.length d=some ds →
 (∀ σ',RS X.prog X.w X.K m H σ' (BT.sets tg ds s)->Q σ' H)->g x σ H Q
theorem sCT  (O:Ok X F G sc N) (hc:X.calm=true) {tg:List (Nat×Str)}{te:ON} (h:CT sc N tg te) (hf:∀ q∈tg,X.fn q.2=true\/X.env.scope.names.lookup q.2=some .local):∃ g,PG X te g/\GOk X tg g:=by
 cases h with
 | @one i x p h1 h2 =>
  refine ⟨_,oB (i:=i) O.nd (by rw[O.hN];exact h1) (jh O h2) (hf (i,x) (by simp)),?_⟩
  intro m H σ s v d ds Q S r e q
  simp only[Ph,Qv,Tg,BT.jw] at e
  cases e
  exact q _ (S.set (.p r))
 | @two i j x y p p1 p2 k h1 h2 h3 h4 =>
  refine ⟨_,E3 (n:=2) hc (pX (oB (i:=i) O.nd (by rw[O.hN];exact h1) (jh O h2) (hf (i,x) (by simp))) (pX (oB (i:=j) O.nd (by rw[O.hN];exact h3) (jh O h4) (hf (j,y) (by simp))) Bj)),?_⟩
  intro m H σ s v d ds Q S r e q
  have e:BT.unpack 2 d=some ds:=e
  cases r with
  | @tup a vs dd h r =>
   rw[BT.yf] at e
   split at e
   ·rename_i c
    cases e
    have hl:=r.length
    refine ⟨a,vs,rfl,h.elim (fun q=>.inl q.1) fun ⟨o,its,n,q,_⟩=>.inr ⟨o,its,n,q⟩,by rw[hl];exact c,?_⟩
    cases r with
    | nil=>simp at c
    | @cons v1 d1 vs' ds' ra t =>
     cases t with
     | nil=>simp at c
     | @cons v2 d2 vs2 ds2 rb t2 =>
      cases t2 with
      | cons _ _=>simp at c
      | nil =>
       refine ⟨v1,[v2],rfl,?_⟩
       show Ed (pW j) E2 [v2] (σ.set i (some v1)) H Q
       refine ⟨v2,[],rfl,?_⟩
       show E2 [] ((σ.set i (some v1)).set j (some v2)) H Q
       refine ⟨rfl,q _ ?_⟩
       show RS X.prog X.w X.K m H ((σ.set i (some v1)).set j (some v2)) ((s.set i (some (.p d1))).set j (some (.p d2)))
       exact RS.set (RS.set S (.p ra)) (.p rb)
   ·cases e
  | _=>cases e
end
end BS
end
section
namespace BC
open PySem
section
variable {prog:OU}{w:Pa}{A:PF}{s:OP}
theorem wA {elt target iter:ON}{ifs:List ON}{scope:O6}{pos:Pos}{it acc:Value}{env:Env}{R:Result->OP->Prop} (I:Nat->OP->Prop)
 (turn:∀ n s,I n s->wpAny (Pc prog w) A (pyNext it) (fun r s₁=>match r with
  | none=>R (.ok .next) s₁
  | some v=>wpAny (Pc prog w) A (SC target it v) (fun _ s₀=>wpAny (Pc prog w) A (Ug target env v) (fun _ s₂ =>
   wpAny (Pc prog w) A (forIn ifs true fun c r=>if r=true then do let ok ← isTrue c env (eval c env);pure (RM ok) else pure (RM r)) (fun ok s₃ =>
    if ok=true then wpAny (Pc prog w) A (eval elt env) (fun x s₄ =>
     wpAny (Pc prog w) A (call (.builtin "list.append") [acc,x]) (fun _ s₅=>∃ m,m < n/\I m s₅) (fun _ _=>False) s₄) (fun _ _=>False) s₃
    else ∃ m,m < n/\I m s₃) (fun _ _=>False) s₂) (fun _ _=>False) s₀) (fun _ _=>False) s₁) (fun _ _=>False) s)
 (n:Nat) (h:I n s):codeAny (Pc prog w) A (.compLoop (.ListComp elt [⟨target,iter,ifs,0⟩] scope pos) 0 it acc env) R s:=by
 refine codeAny_loop rfl I (fun n s hI=>?_) n h
 show wpAny _ A ((compTurn (.ListComp elt [⟨target,iter,ifs,0⟩] scope pos) 0 it acc env).onRaise (fun x=>do noteFrame x env;theTreesLotGoes x)) _ _ s
 refine wpAny_noted ?_
 rw[compTurn_list]
 refine OY (UM (OY (wpAny_mono (turn n s hI) (fun r s₁ h₁=>?_) fun _ _ h'=>h'.elim)))
 cases r with
 | none=>exact wpAny_pure h₁
 | some v =>
  refine OY (wpAny_mono h₁ (fun _ s₀ h₀'=>?_) fun _ _ h'=>h'.elim)
  refine OY (wpAny_mono h₀' (fun _ s₂ h₂=>OY (wpAny_mono h₂ (fun ok s₃ h₃=>?_) fun _ _ h'=>h'.elim)) fun _ _ h'=>h'.elim)
  cases ok with
  | false=>exact wpAny_pure ⟨rfl,h₃⟩
  | true =>
   exact OY (OY (wpAny_mono h₃ (fun x s₄ h₄=>OY (wpAny_mono h₄ (fun _ s₅ h₅=>wpAny_pure (wpAny_pure ⟨rfl,h₅⟩)) fun _ _ h'=>h'.elim)) fun _ _ h'=>h'.elim))
end
noncomputable def cM (cells:List (Str×OR)):List (Str×QV)->List (Str×OR)->List (Str×OR)
 | [],acc=>acc
 | (n,k) :: r,acc=>if k==.free then (match cells.lookup n with|some c=>cM cells r ((n,c) :: acc)|none=>cM cells r acc) else cM cells r acc
def sF (cells:List (Str×OR)) (names:List (Str×QV)):Prop:=∀ x∈names,x.2=.free->∃ c,cells.lookup x.1=some c
theorem mj {env:Env}:∀ (names:List (Str×QV)) (acc:List (Str×OR)),sF env.cells names →
 (forIn names acc fun x (r:List (Str×OR))=>(if x.2==.free then do let c ← cellOf env x.1;pure (RM ((x.1,c) :: r)) else pure (RM r):Sem (ForInStep (List (Str×OR)))))=pure (cM env.cells names acc)
 | [],acc,_=>rfl
 | (n,k) :: r,acc,h=>by
  have ih:=fun acc=>mj (env:=env) r acc fun x hx=>h x (O8 _ hx)
  rw[List.forIn_cons]
  by_cases c:k=.free
  ·subst c
   obtain ⟨a,e⟩:=h (n,.free) Pj rfl
   have e:env.cells.lookup n=some a:=e
   simp only[cM,e]
   show (cellOf env n >>= _) >>= _=_
   unfold cellOf
   rw[e]
   exact ih _
  ·have cb:(k==PZ)=false:=by simpa using c
   simp only[cM,cb]
   exact ih _
theorem jY {α β:Type}{m m':Sem α}{f:α->Sem β} (h:m=m'):(m >>= f)=(m' >>= f):=by rw[h]
theorem mq {scope:O6}{env:Env} (h:sF env.cells scope.names):closureFor scope env=pure (cM env.cells scope.names []):=by
 have:=mj (env:=env) scope.names [] h
 unfold closureFor
 exact (jY this).trans rfl
theorem mw {cells:List (Str×OR)}:∀ {names:List (Str×QV)}{acc:List (Str×OR)},(∀ x c,acc.lookup x=some c->cells.lookup x=some c)->∀ x c,(cM cells names acc).lookup x=some c->cells.lookup x=some c
 | [],acc,h,x,c,e=>h x c e
 | (n,k) :: r,acc,h,x,c,e=>by
  rw[cM] at e
  split at e
  ·split at e
   ·rename_i a ea
    refine mw (fun y b q=>?_) x c e
    rw[Qm] at q
    split at q
    ·rename_i hy
     have:y=n:=by simpa using hy
     subst this
     cases q;exact ea
    ·exact h y b q
   ·exact mw h x c e
  ·exact mw h x c e
theorem kZ {cells:List (Str×OR)}{x:Str}:∀ {names:List (Str×QV)}{acc:List (Str×OR)},(∃ c,acc.lookup x=some c)->∃ c,(cM cells names acc).lookup x=some c
 | [],acc,h=>h
 | (n,k) :: r,acc,h=>by
  rw[cM]
  split
  ·split
   ·refine kZ ?_
    rw[Qm]
    split
    ·exact ⟨_,rfl⟩
    ·exact h
   ·exact kZ h
  ·exact kZ h
theorem mz {cells:List (Str×OR)}{x:Str}:∀ {names:List (Str×QV)}{acc:List (Str×OR)},(x,PZ)∈names->(∃ c,cells.lookup x=some c)->∃ c,(cM cells names acc).lookup x=some c
 | [],acc,h,_=>nomatch h
 | (n,k) :: r,acc,h,q=>by
  rw[cM]
  rcases List.mem_cons.mp h with e|e
  ·cases e
   obtain ⟨c,ec⟩:=q
   rw[if_pos (by rfl),ec]
   refine kZ ?_
   exact ⟨c,by simp⟩
  ·split
   ·split
    ·exact mz e q
    ·exact mz e q
   ·exact mz e q
end BC
end
section
namespace BS
open PySem PySem.Spec PyProof.Rows L2
variable {C c:OR}{H:Hp}{N tg:List Str}{X:Cx}{a b e' elt o:BT.E}{cond sa:BT.Es}{ds:List BT.D}{e elt' iter te:ON}{fp m:List OR}{fv:List (Nat×Str)}{h:BT.HH}{ifs:List ON}{n:Nat}{pos:Pos}{sc scope:O6}{sr:BT.Sr}{x:Str}{σ:L2.St}
def mC (F:FT) (G:Str->Option BT.W) (sc:O6) (N:List Str) (cond:BT.Es) (ifs:List ON):Prop :=
 (cond=.nil/\ifs=[])\/∃ c c',cond=.cons c .nil/\ifs=[c']/\∀ X',Ok X' F G sc N->PT X' c' (tDT X' F G c)
structure qD (sc:O6) (N tg:List Str) (fv:List (Nat×Str)) (scope:O6):Prop where
 k1:scope.kind=.function
 k2:sc.kind=.function
 cell:∀ y∈scope.names,y.2≠.cell
 loc:∀ y∈scope.names,y.2=.local->scope.names.lookup y.1=some .local
 free:∀ y∈scope.names,y.2=.free->sc.names.lookup y.1=some .cell
 fvs:∀ q∈fv,N[q.1]?=some q.2/\(q.2,PZ)∈scope.names/\sc.names.lookup q.2=some .cell/\(bw scope sc).names.lookup q.2=some .cell
 nd:(tg++fv.map (·.2)).Nodup
theorem nS:∀ {l:List Str},jd l=true->l.Nodup
 | [],_=>TU
 | x :: r,h=>by
  simp only[jd,OQ,QM] at h
  refine List.nodup_cons.mpr ⟨fun z=>?_,nS h.2⟩
  have:=h.1
  simp[z] at this
theorem JY  (h:je sc N tg fv scope=true):qD sc N tg fv scope:=by
 simp only[je,OQ] at h
 obtain ⟨⟨⟨⟨⟨⟨h1,h2⟩,h3⟩,h4⟩,h5⟩,h6⟩,h7⟩:=h
 rw[Qn] at h3 h4 h5 h6
 refine ⟨eq_of_beq h1,eq_of_beq h2,fun y hy e=>?_,fun y hy e=>?_,fun y hy e=>?_,fun q hq=>?_,nS h7⟩
 ·have:=h3 y hy
  rw[e] at this;simp at this
 ·have:=h4 y hy
  rw[e] at this;simpa using this
 ·have:=h5 y hy
  rw[e] at this;simpa using this
 ·have:=h6 q hq
  simp only[OQ] at this
  obtain ⟨⟨⟨a,b⟩,c⟩,d⟩:=this
  exact ⟨by simpa using a,by simpa using b,by simpa using c,by simpa using d⟩
theorem ji {sc:O6}{x:Str}{k:QV} (hk:k=.cell\/k=.free):∀ {names:List (Str×QV)},(∀ y∈names,y.2≠.cell) →
 (names.map fun (n,k)=>if (k==PZ&&sc.kind==.function&&sc.names.lookup n==some .cell) then (n,So) else (n,k)).lookup x=some k->(x,PZ)∈names
 | [],_,h=>by simp at h
 | (n,q) :: r,hc,h=>by
  have ih:=ji (sc:=sc) (x:=x) hk (names:=r) fun y hy=>hc y (O8 _ hy)
  replace h:QX x ((if (q==PZ&&sc.kind==.function&&sc.names.lookup n==some .cell)=true then (n,So) else (n,q)) :: (r.map fun (n,k)=>if (k==PZ&&sc.kind==.function&&sc.names.lookup n==some .cell) then (n,So) else (n,k)))=some k:=h
  have go:∀ (q':QV),(q'=q\/(q'=.cell/\q=.free))->QX x ((n,q') :: (r.map fun (n,k)=>if (k==PZ&&sc.kind==.function&&sc.names.lookup n==some .cell) then (n,So) else (n,k)))=some k->(x,PZ)∈(n,q) :: r:=by
   intro q' hq gl
   rw[Qm] at gl
   split at gl
   ·rename_i hx
    have hx:x=n:=by simpa using hx
    subst hx
    have e:q'=k:=OV gl
    have hqf:q=.free:=by
     rcases hq with rfl|⟨_,e2⟩
     ·rcases hk with z|z
      ·exact absurd (e.trans z) (hc (x,q') Pj)
      ·exact e.trans z
     ·exact e2
    rw[hqf];exact Pj
   ·exact O8 _ (ih gl)
  by_cases c:(q==PZ&&sc.kind==.function&&sc.names.lookup n==some .cell)=true
  ·rw[if_pos c] at h
   refine go .cell (.inr ⟨rfl,?_⟩) h
   simp only[OQ] at c
   exact eq_of_beq c.1.1
  ·rw[if_neg c] at h
   exact go q (.inl rfl) h
noncomputable def blk (X:Cx) (N':List Str) (s2:OP) (H1:Hp) (scope:O6) (C:OR) (fp:List OR):Cx :=
 { X with N:=N',s₀:=s2,H₀:=H1,env:=UT scope (BC.cM X.env.cells scope.names []) C X.env,outer:=X.stack,stack:=X.stack,ex:=fp,fn:=fun _=>false,pn:=[],xe:=fun _ _=>False }
section
variable {X:Cx}{F:FT}{G:Str->Option BT.W}{sc:O6}{N:List Str}{zt:List (OR×Obj)}{σ:L2.St}{H1:Hp}{s2:OP}
theorem kD  (e:(BC.cM X.env.cells scope.names []).lookup x=some c):X.env.cells.lookup x=some c :=
 BC.mw (fun _ _ z=>by simp at z) x c e
theorem qE (hsc:X.env.scope=sc)  (x:Str):(UT scope (BC.cM X.env.cells scope.names []) C X.env).kindOf x=(bw scope sc).names.lookup x:=by
 subst hsc;rfl
theorem uI (I1:Inv X zt σ H1 s2) (hsc:X.env.scope=sc)  (cf:qD sc N tg fv scope)  (hx:(x,PZ)∈scope.names):∃ c,(BC.cM X.env.cells scope.names []).lookup x=some c:=by
 refine BC.mz hx (I1.ok.has x (.inl ?_))
 have:=cf.free _ hx rfl
 rw[← hsc] at this
 exact this
theorem GF (I1:Inv X zt σ H1 s2) (hsc:X.env.scope=sc)  (cf:qD sc N tg fv scope) {N':List Str} (hC:C=s2.heap.objs.size+1)
 (hf:∀ b∈fp,mZ X zt H1 b) (hlt:∀ b∈fp,b < s2.heap.objs.size):(blk X N' s2 H1 scope C fp).Ok where
 mod:=I1.ok.mod
 kind:=cf.k1
 glob:=I1.ok.glob
 blt:=I1.ok.blt
 above:=by show s2.heap.objs.size<=C;rw[hC];exact Qd _
 inj:=fun x y c a b=>I1.ok.inj x y c (kD a) (kD b)
 has:=fun x hx=>by
  refine uI I1 hsc cf ?_
  have hx':(bw scope sc).names.lookup x=some .cell\/(bw scope sc).names.lookup x=some .free:=by
   rw[← qE hsc (C:=C)];exact hx
  rcases hx' with e|e
  ·exact ji (.inl rfl) cf.cell e
  ·exact ji (.inr rfl) cf.cell e
 cab:=fun x c z=>by cases z
 hd:=I1.ok.hd
 frames:=I1.ok.frames
 stk:=.inl rfl
 exf:=fun b hb=>⟨fun z=>by
  have l:=hlt b hb
  have z:b=C:=z
  rw[z,hC] at l
  exact absurd l (Nat.not_lt.mpr (Qd _)),fun x c e=>(hf b hb).2.2.2.2.1 x c (kD e)⟩
 bs:=I1.bs
 bsz:=PL I1.ok.bsz I1.sz
 noex:=fun b o e hb=>by
  have q:=(I1.ok.bs b o e).1
  rcases (hf b hb).2.2.2.1 with z|z
  ·exact I1.ok.noex b o e z
  ·exact absurd (O2 q) (Nat.not_lt.mpr z)
 exfs:=fun b hb z=>by
  rcases List.mem_cons.mp (I1.gS b z) with e|e
  ·exact (hf b hb).2.1 e
  ·exact (hf b hb).2.2.1 e
 fW:=I1.stack
 frf:=I1.kQ
end
noncomputable def lobj (us:List Value) (n:Nat):Obj:={ cls:=.type "list",data:=.seq us.toArray n }
section
variable {X:Cx}{F:FT}{G:Str->Option BT.W}{sc:O6}{N:List Str}{zt:List (OR×Obj)}{σ:L2.St}{H1:Hp}{s2:OP}
noncomputable def jj (n:Nat) (σ:L2.St) (fv:List (Nat×Str)):L2.St:=O7 n none++fv.map fun q=>(σ[q.1]?).getD none
theorem CP (I1:Inv X zt σ H1 s2) (hsc:X.env.scope=sc) (hN:X.N=N)  (cf:qD sc N tg fv scope)  (hC:C=s2.heap.objs.size+1)
 (hf:∀ b∈fp,mZ X zt H1 b) (hlt:∀ b∈fp,b < s2.heap.objs.size) {h1:Heap}{tk:Nat}{m:Str->Option Value} (old:∀ b o,s2.heap.get? b=some o->h1.get? b=some o) (hns:h1.Ns C m) (hD:h1.get? s2.heap.objs.size=some (lobj [] 0)) :
 Inv (blk X (tg++fv.map (·.2)) s2 H1 scope C fp) [(s2.heap.objs.size,lobj [] 0)] (jj tg.length σ fv) H1 { s2 with heap:=h1,toks:=tk } where
 ok:=GF I1 hsc cf hC hf hlt
 os:=rfl
 bare:=I1.bare
 base:=Un.kept old
 loc:=by
  refine ⟨m,hns,fun i x v e1 e2 e3=>?_⟩
  have e1:(tg++fv.map (·.2))[i]?=some x:=e1
  unfold jj at e2
  by_cases c:i < tg.length
  ·rw[OW (by simpa using c),Qg,if_pos c] at e2
   cases e2
  ·rw[Pd (by simpa using c)] at e2
   rw[Pd (by simpa using c)] at e1
   simp only[Re,Pb] at e1 e2
   cases g:fv[i - tg.length]? with
   | none=>rw[g] at e1;cases e1
   | some q =>
    rw[g] at e1 e2
    simp only[RY,QB] at e1 e2
    subst e1
    obtain ⟨f1,f2,f3,f4⟩:=cf.fvs q (O5 g)
    have e2':σ[q.1]?=some (some v):=by
     cases gg:σ[q.1]? with
     | none=>rw[gg] at e2;cases e2
     | some o=>rw[gg] at e2;simp only[SZ] at e2;rw[e2]
    obtain ⟨m0,hn0,hl0⟩:=I1.loc
    obtain ⟨u,ru,lk⟩:=hl0 q.1 q.2 v (by rw[hN];exact f1) e2' (by rw[hsc];exact .inr (.inl f3))
    refine ⟨u,ru,?_⟩
    have kc:X.env.kindOf q.2=some .cell:=by
     show X.env.scope.names.lookup q.2=_
     rw[hsc];exact f3
    rcases lk with ⟨k,_⟩|⟨k,c,ec,o,ho,hd⟩
    ·rw[kc] at k;cases k
    ·obtain ⟨c',ec'⟩:=uI I1 hsc cf f2
     have:=kD ec'
     rw[ec] at this
     cases this
     refine .inr ⟨.inl ?_,c,ec',o,old c o ho,hd⟩
     show (UT scope (BC.cM X.env.cells scope.names []) C X.env).kindOf q.2=_
     rw[qE hsc];exact f4
 cell:=fun x c e=>by
  obtain ⟨v,o,ho,hd⟩:=I1.cell x c (kD e)
  exact ⟨v,o,old c o ho,hd⟩
 free:=I1.hok.fresh (by show s2.heap.objs.size<=C;rw[hC];exact Qd _)
 freeC:=fun x c e=>I1.freeC x c (kD e)
 pin:=fun p hp=>by
  have e:p=(s2.heap.objs.size,lobj [] 0):=by
   have:p∈[]++[(s2.heap.objs.size,lobj [] 0)]:=hp
   simpa using this
  subst e
  refine ⟨hD,I1.hok.fresh (OX _),?_,?_,fun v z=>by cases (show Data.seq _ _=Data.cell v from z)⟩
  ·show s2.heap.objs.size≠C
   rw[hC];exact Py (QW _)
  ·intro z
   obtain ⟨_,o,ho,_⟩:=I1.stack.mem z
   exact absurd (O2 ho) (Qh _)
 hok:=I1.hok.kept old
 len:=by
  show (jj tg.length σ fv).length=(tg++fv.map (·.2)).length
  simp[jj]
end
noncomputable def tgI:List Str->List (Nat×Str)
 | [x]=>[(0,x)]
 | [x,y]=>[(0,x),(1,y)]
 | _=>[]
theorem o9  (h:nmE te=some x):∃ p,te=.Name x p:=by
 cases te with
 | Name y p=>cases h;exact ⟨p,rfl⟩
 | _=>exact absurd (show (none:Option Str)=some _ from h) (fun z=>nomatch z)
theorem zm {a:ON}{l:List ON} (h:F3 te=a :: l):∃ k p,te=.Tuple (a :: l) k p:=by
 cases te with
 | Tuple xs k p=>cases h;exact ⟨k,p,rfl⟩
 | _=>exact absurd (show ([]:List ON)=_ :: _ from h) (fun z=>nomatch z)
theorem CQ {fs:List Str} (h:qt sc tg te=true):CT sc (tg++fs) (tgI tg) te/\(tgI tg).length=tg.length/\∀ q∈tgI tg,sc.names.lookup q.2=some .local:=by
 have st:∀ {x:Str},sc.names.lookup x=some .local->kL sc x=true:=fun e=>by unfold kL;rw[e]
 unfold qt at h
 rw[OQ,QJ,OQ,Qn] at h
 obtain ⟨h,ha⟩:=h
 have lo:∀ {x},x∈tg->sc.names.lookup x=some .local:=fun {x} hx=>eq_of_beq (ha x hx)
 rcases h with h|⟨h1,h2⟩
 ·have e:=eq_of_beq h
  cases tg with
  | nil=>exact absurd (congrArg RO e) (by simp)
  | cons x r =>
   cases r with
   | cons _ _=>exact absurd (congrArg RO e) (by simp)
   | nil =>
    obtain ⟨p,rfl⟩:=o9 (RP e).symm
    have l:sc.names.lookup x=some .local:=lo Pj
    exact ⟨.one rfl (st l),rfl,fun q hq=>by simp[tgI] at hq;subst hq;exact l⟩
 ·have e:=eq_of_beq h2
  obtain ⟨x,y,rfl⟩:∃ x y,tg=[x,y]:=by
   have h1:=eq_of_beq h1
   cases tg with
   | nil=>simp at h1
   | cons x r =>
    cases r with
    | nil=>simp at h1
    | cons y r =>
     cases r with
     | nil=>exact ⟨x,y,rfl⟩
     | cons _ _=>simp at h1
  cases g:F3 te with
  | nil=>rw[g] at e;exact absurd (congrArg RO e) (by simp)
  | cons a l =>
   rw[g] at e
   cases l with
   | nil=>exact absurd (congrArg RO e) (by simp)
   | cons b r =>
    cases r with
    | cons _ _=>exact absurd (congrArg RO e) (by simp)
    | nil =>
     have e1:some x=nmE a:=RP e
     have e2:some y=nmE b:=RP (List.tail_eq_of_cons_eq e)
     obtain ⟨p1,rfl⟩:=o9 e1.symm
     obtain ⟨p2,rfl⟩:=o9 e2.symm
     obtain ⟨k,p,rfl⟩:=zm g
     have l1:sc.names.lookup x=some .local:=lo Pj
     have l2:sc.names.lookup y=some .local:=lo (O8 _ Pj)
     exact ⟨.two rfl (st l1) rfl (st l2),rfl,fun q hq=>by
      simp[tgI] at hq
      rcases hq with rfl|rfl
      ·exact l1
      ·exact l2⟩
theorem CU {d0:BT.D}{sl fs:BT.Sl} (h:(tgI tg).length=tg.length) (h0:tg≠[]) (hd:BT.target tg.length d0=some ds) (hl:sl.length=tg.length+fs.length) (hr:sl.drop tg.length=fs) :
 BT.sets (tgI tg) ds sl=ds.map BT.dZ++fs/\(ds.map BT.dZ++fs).length=tg.length+fs.length/\(ds.map BT.dZ++fs).drop tg.length=fs:=by
 match tg,h,h0 with
 | [],_,h0=>exact absurd rfl h0
 | [x],_,_ =>
  simp only[Ph,Qv,Tg,BT.jw] at hd hl hr
  cases hd
  match sl,hl,hr with
  | a :: r,hl,hr =>
   simp only[UK,Su] at hr
   subst hr
   exact ⟨rfl,by simp[Nat.add_comm],rfl⟩
 | [x,y],_,_ =>
  have hd:BT.unpack 2 d0=some ds:=hd
  cases d0<;>simp only[BT.unpack] at hd<;>try contradiction
  split at hd
  ·rename_i c
   cases hd
   match ds,c with
   | [d1,d2],_ =>
    simp only[Ph,Qv,Tg] at hl hr
    match sl,hl,hr with
    | a :: b :: r,hl,hr =>
     simp only[UK,Su] at hr
     subst hr
     exact ⟨rfl,by simp;lia,rfl⟩
    | [a],hl,_=>simp at hl;lia
    | [],hl,_=>simp at hl;lia
  ·cases hd
 | x :: y :: z :: r,h,_=>simp[tgI] at h
theorem jZ {s:BT.Sl}:∀ {fv:List (Nat×Str)}{fs:BT.Sl},BT.frees s fv=some fs->fs.length=fv.length/\∀ (i:Nat) (q:Nat×Str),fv[i]?=some q->fs[i]?=s[q.1]?
 | [],fs,e=>by simp[BT.frees] at e;subst e;exact ⟨rfl,fun i q z=>by simp at z⟩
 | q :: r,fs,e=>by
  simp only[BT.frees] at e
  cases g:s[q.1]? with
  | none=>rw[g] at e;cases e
  | some w =>
   rw[g] at e
   obtain ⟨fs',e1,e2⟩:=aC e
   subst e2
   obtain ⟨h1,h2⟩:=jZ e1
   refine ⟨by simp[h1],fun i p z=>?_⟩
   cases i with
   | zero=>simp at z;subst z;simp[g]
   | succ i=>simpa using h2 i p (by simpa using z)
theorem wB {P:OU}{w:Pa}{K:OM}{s fs:BT.Sl} (S:RS P w K m H σ s) (hf:BT.frees s fv=some fs):RS P w K m H (jj n σ fv) (O7 n none++fs):=by
 obtain ⟨h1,h2⟩:=jZ hf
 refine ⟨by simp[jj,h1],fun i y e=>?_⟩
 by_cases c:i < n
 ·rw[OW (by simpa using c),Qg,if_pos c] at e
  cases e
 ·rw[Pd (by simpa using c)] at e
  simp only[Re] at e
  have hi:i - n < fv.length:=by
   rw[← h1]
   rcases Pi (i - n) fs.length with z|z
   ·exact z
   ·rw[O0 z] at e;cases e
  have g:=OZ hi
  rw[h2 _ _ g] at e
  obtain ⟨v,hv,r⟩:=S.get _ _ e
  refine ⟨v,?_,r⟩
  unfold jj
  rw[Pd (by simpa using c)]
  simp only[Re,Pb,g,RY,hv,SZ]
theorem CV {f:List BT.D->BT.HH->Option (Option BT.D×BT.HH)}{d:BT.D}{r rest:List BT.D}{h2:BT.HH} (e:BT.bJ f n (d :: r) h=some (rest,h2)) :
 ∃ xs o hA rest',BT.target n d=some xs/\f xs h=some (o,hA)/\BT.bJ f n r hA=some (rest',h2)/\rest=(match o with|some x=>x :: rest'|none=>rest'):=by
 rw[BT.bJ] at e
 cases g:BT.target n d with
 | none=>rw[g] at e;cases e
 | some xs =>
  rw[g] at e
  obtain ⟨o,hA,e1,e2⟩:=ak e
  unfold BT.BV at e2
  obtain ⟨rest',h3,e3,e4⟩:=ak e2
  unfold BT.tZ at e4
  cases e4
  exact ⟨xs,o,hA,rest',rfl,e1,e3,rfl⟩
theorem Un.behind {fs ex:List OR}{H' H2:Hp}{h h1 h2:Heap} (u:Un fs ex H H' h h1) (a:∀ b,b < h.objs.size->H2 b=H' b) (lt:∀ b o,H b=some o->b < h.objs.size) (k:∀ b o,b < h.objs.size->h1.get? b=some o->h2.get? b=some o):Un fs ex H H2 h h2 where
 keep:=fun b o e n c d=>k b o (O2 e) (u.keep b o e n c d)
 slot:=fun b o e n c d=>by obtain ⟨sl,q⟩:=u.slot b o e n c d;exact ⟨sl,k b _ (O2 e) q⟩
 free:=fun b o e n d=>by rw[a b (O2 e)];exact u.free b o e n d
 there:=fun b o e d=>by obtain ⟨o',q⟩:=u.there b o e d;exact ⟨o',k b o' (O2 e) q⟩
 tups:=fun b xs e=>by rw[a b (lt b _ e)];exact u.tups b xs e
 frzs:=fun b o w e=>by rw[a b (lt b _ e)];exact u.frzs b o w e
 tbls:=fun b ps e=>by rw[a b (lt b _ e)];exact u.tbls b ps e
section
variable {X:Cx}{F:FT}{G:Str->Option BT.W}{sc:O6}{N:List Str}
theorem GG (O:Ok X F G sc N) (hu:cR N=true)  (cf:qD sc N tg fv scope) {s2:OP}{H1:Hp} :
 Ok (blk X (tg++fv.map (·.2)) s2 H1 scope C fp) F G (bw scope sc) (tg++fv.map (·.2)) where
 hsc:=by have:=O.hsc;subst this;rfl
 hN:=rfl
 nd:=cf.nd
 calm:=fun _=>O.calm hu
 hu:=O.hu
 own:=Rf
 glob:=O.glob
 call:=O.call
 meth:=O.meth
 mkc:=O.mkc
 blt:=O.blt
 lam:=O.lam
 lamx:=fun h=>absurd (show false=true from h "") (by decide)
theorem zo {mu:Bool}{fs:BT.Sl}{ec:BT.Sl->BT.HH->Option (List BT.W×BT.HH)}{ee:BT.Sl->BT.EH}{ws:List BT.W}{z:BT.W×BT.HH} (e:BT.lM mu sr n (some fs) ec ee ws h=some z) (g:(BT.rds ws h).bind (BT.dY sr)=some ds) :
 uC sr ws/\∃ f',(∀ xs h r,f' xs h=some r->BT.fK ec ee fs xs h=some r/\o7 ws ds r.2)/\o7 ws ds h/\BT.bnd (BT.bJ f' n ds h) (BT.fk mu)=some z:=by
 unfold BT.lM at e
 rw[g] at e
 simp only at e
 by_cases ca:BT.fD ws=true
 ·rw[if_pos ca] at e
  exact ⟨.inl ca,_,fun xs h r q=>⟨q,mh ca⟩,mh ca,e⟩
 ·rw[if_neg ca] at e
  have two:sr=.seq/\∃ q,ws=[.r q]:=by
   unfold BT.r9 at e
   split at e
   ·exact ⟨rfl,_,rfl⟩
   ·cases e
  obtain ⟨rfl,q,rfl⟩:=two
  rw[BT.qm] at e
  have gl:BT.lat h q=some ds:=by
   simp only[BT.rds,BT.rd,RY] at g
   cases g1:BT.lat h q with
   | none=>rw[g1] at g;cases g
   | some xs=>rw[g1] at g;cases g;rfl
  refine ⟨.inr ⟨rfl,q,rfl⟩,_,fun xs h r q=>?_,fun q' e'=>by cases e';exact gl,e⟩
  unfold BT.chk at q
  cases g2:BT.fK ec ee fs xs h with
  | none=>rw[g2] at q;cases q
  | some r2 =>
   rw[g2] at q
   simp only at q
   split at q
   ·rename_i c
    cases q
    exact ⟨rfl,fun q' e'=>by cases e';exact c⟩
   ·cases q
inductive LI (X:Cx) (F:FT) (G:Str->Option BT.W) (scope:O6) (tg:List Str) (fv:List (Nat×Str)) (cond:BT.Es) (elt:BT.E) (s2:OP) (H1:Hp) (C:OR) (fp:List OR) (tn:Nat->Heap->Prop) (m1:List OR) (ds outs:List BT.D) (fs:BT.Sl) (h2:BT.HH) (f':List BT.D->BT.HH->Option (Option BT.D×BT.HH)) (Cc:BT.HH->Prop) (n:Nat) (s:OP):Prop where
 | mk (i:Nat) (σ':L2.St) (H':Hp) (m':List OR) (hh:BT.HH) (out rest:List BT.D) (vs:List V) (us:List Value) (nn:Nat) (sl:BT.Sl) (p0:i<=ds.length) (p1:n=ds.length - i) (p2:Inv (blk X (tg++fv.map (·.2)) s2 H1 scope C fp) [(s2.heap.objs.size,lobj us nn)] σ' H' s) (p3:tn i s.heap) (p4:(∀ b∈fp,H' b=none)) (p5:Ext m1 H1 m' H') (p6:RH X.K m' H' hh) (p7:RS X.prog X.w X.K m' H' σ' sl) (p8:sl.length=tg.length+fs.length) (p9:sl.drop tg.length=fs) (p10:az vs us) (p11:RDs X.K m' H' vs out) (p12:BT.bJ f' tg.length (ds.drop i) hh=some (rest,h2)) (p13:out++rest=outs) (p14:Cc hh):LI X F G scope tg fv cond elt s2 H1 C fp tn m1 ds outs fs h2 f' Cc n s
structure Apart (X:Cx) (zt:List (OR×Obj)) (H:Hp) (C:OR):Prop where
 fr:H C=none
 lo:C≠X.env.locals
 ab:X.s₀.heap.objs.size<=C
 ce:∀ x c,X.env.cells.lookup x=some c->c≠C
 pi:∀ p∈X.pn++zt,p.1≠C
theorem nT (O:Ok X F G sc N) (hu:cR N=true) {mu:Bool}
 (hk:je sc N tg fv scope=true) (ht:qt (bw scope sc) tg te=true) (hset:jc iter=true) (hI:PI X te iter (iD X F G sr sa)) (hC:mC F G (bw scope sc) (tg++fv.map (·.2)) cond ifs)
 (hE:∀ X',Ok X' F G (bw scope sc) (tg++fv.map (·.2))->PE X' elt' (tD X' F G elt)):∀ (zt:List (OR×Obj)) (s:OP) (σ:L2.St) (H:Hp) (Q:VK) (use:Option (Value->Sem Unit)) (Q':Value->OP->Prop),Inv X zt σ H s->tD X F G (.comp mu sr sa tg fv cond elt) σ H Q →
 (∀ (s6:OP) (H6:Hp) (C D:OR) (m:Str->Option Value),Inv X zt σ H6 s6->s6.heap.Ns C m->Apart X zt H6 C->Q (.ref D) H6->compPost (Pc X.prog X.w) X.A X.xe use Q' (.ref D) C (.ok .next) s6) →
 wpAny (Pc X.prog X.w) X.A (comprehension (.ListComp elt' [⟨te,iter,ifs,0⟩] scope pos) scope X.env (firstIterPos [⟨te,iter,ifs,0⟩] pos) (newList []) false (eval iter X.env) use) Q' X.xe s:=by
 have cf:=JY hk
 obtain ⟨ct,tl,tloc⟩:=CQ (fs:=fv.map (·.2)) ht
 have t0:tg≠[]:=by
  rintro rfl
  simp[qt] at ht
 intro zt s σ H Q use Q' I q hfin
 obtain ⟨m,s',h,z,h',R,S,ee,zr⟩:=q
 simp only[BT.ev] at ee
 obtain ⟨ws,h1,e1,e2⟩:=ak ee
 cases g1:(BT.rds ws h1).bind (BT.dY sr) with
 | none=>unfold BT.lM at e2;rw[g1] at e2;cases e2
 | some ds =>
  cases g2:BT.frees s' fv with
  | none=>unfold BT.lM at e2;rw[g1,g2] at e2;cases e2
  | some fs =>
   rw[g2] at e2
   obtain ⟨ca,f',hf',c1,e2⟩:=zo e2 g1
   obtain ⟨outs,h2,e3,e4⟩:=ak e2
   unfold BT.fk at e4
   by_cases cl:outs.length<=BT.lim
   case neg=>rw[if_neg cl] at e4;cases e4
   rw[if_pos cl] at e4
   have ez:BT.new mu outs h2=(z,h'):=OV e4
   have hfree:BC.sF X.env.cells scope.names:=fun x hx e=>I.ok.has x.1 (.inl (by
    have:=cf.free x hx e
    show X.env.scope.names.lookup x.1=_
    rw[O.hsc];exact this))
   refine wpAny_comprehension_free (use:=use) rfl (uH hset) (BC.mq hfree) cf.k1 cf.loc
    (thn (hI zt s σ H (fun J H1=>∃ m1,Ext m H m1 H1/\RH X.K m1 H1 h1/\qA X.K J m1 H1 ds (o7 ws ds)) I ⟨m,s',h,ws,h1,ds,R,S,e1,g1,ca,fun H1 m1 J x1 R1 it=>⟨m1,x1,R1,it⟩⟩) fun v s1 hv=>thn hv fun itv s2 h2'=>?_)
   obtain ⟨it,fp,tn,J,H1,rfl,I1,T,st,hf,m1,x1,R1,ito⟩:=h2'
   have hlt:∀ b∈fp,b < s2.heap.objs.size:=fun b hb=>by
    obtain ⟨o,ho,_⟩:=T.obj 0 _ st b hb
    exact O2 ho
   refine Ri (wpAny_newFunctionEnv cf.cell (by intro y hy;simp at hy) (fun h3 hns hsb=>?_) cf.k1)
   dsimp only at hns hsb ⊢
   generalize hH2:s2.heap.push { cls:=.type "list",dict:=none,data:=.seq ([]:List Value).toArray }=H2 at hns hsb ⊢
   have hCs:H2.objs.size=s2.heap.objs.size+1:=by rw[← hH2,Rz]
   have old:∀ b o,s2.heap.get? b=some o->h3.get? b=some o:=fun b o e=>hsb.extBut b o (by rw[hCs];exact Py (Nat.lt_succ_of_lt (O2 e))) (OS _ (hH2 ▸ OS _ e))
   have hacc:h3.get? s2.heap.objs.size=some (lobj [] 0):=hsb.extBut _ _ (by rw[hCs];exact Py (QW _)) (OS _ (hH2 ▸ Pf _ rfl))
   have I4:=CP (tk:=s2.toks+([]:List (Str×Value)).length) I1 O.hsc O.hN cf hCs hf hlt old hns hacc
   have O':=GG (s2:=s2) (H1:=H1) (C:=H2.objs.size) (fp:=fp) O hu cf
   obtain ⟨g,hg1,hg2⟩:=sCT O' (O.calm hu) ct fun q hq=>.inr (by rw[O'.hsc];exact tloc q hq)
   have hfl:fs.length=fv.length:=(jZ g2).1
   have stat:∀ {H':Hp}{o:Obj},(∀ b∈fp,H' b=none)->∀ b∈fp,mZ (blk X (tg++fv.map (·.2)) s2 H1 scope H2.objs.size fp) [(s2.heap.objs.size,o)] H' b:=fun {H' o} hn b hb=>by
    refine ⟨hn b hb,?_,?_,.inl hb,fun x c e=>(hf b hb).2.2.2.2.1 x c (kD e),fun p hp=>?_⟩
    ·show b≠H2.objs.size
     rw[hCs];exact Py (Nat.lt_succ_of_lt (hlt b hb))
    ·intro zz
     rcases List.mem_cons.mp (I1.gS b zz) with e|e
     ·exact (hf b hb).2.1 e
     ·exact (hf b hb).2.2.1 e
    ·have hp':p=(s2.heap.objs.size,o):=by
      have:p∈[]++[(s2.heap.objs.size,o)]:=hp
      simpa using this
     rw[hp']
     show s2.heap.objs.size≠b
     exact Ry (hlt b hb)
   have loop:∀ s4:OP,s4={ s2 with heap:=h3,toks:=s2.toks+([]:List (Str×Value)).length } →
    codeAny (Pc X.prog X.w) X.A (.compLoop (.ListComp elt' [⟨te,iter,ifs,0⟩] scope pos) 0 (.ref it) (.ref s2.heap.objs.size) (UT scope (BC.cM X.env.cells scope.names []) H2.objs.size X.env))
     (compPost (Pc X.prog X.w) X.A X.xe use Q' (.ref s2.heap.objs.size) H2.objs.size) s4:=by
    rintro s4 rfl
    refine BC.wA (LI X F G scope tg fv cond elt s2 H1 H2.objs.size fp tn m1 ds outs fs h2 f' (o7 ws ds)) ?_
     ds.length ⟨0,_,H1,m1,h1,[],outs,[],[],0,_,Qs _,rfl,I4,T.keep 0 _ _ st (fun b hb o e=>old b o e),fun b hb=>(hf b hb).1,.refl _ _,R1,wB (S.ext x1) g2,by simp,by simp,.nil,.nil,by rw[Su];exact e3,rfl,c1⟩
    rintro n s5 ⟨i,σ5,H5,m5,hh,out,rest,vs,us,nn,sl,hi,rfl,I5,st5,fr5,x5,R5,S5,sl1,sl2,rv5,rd5,go5,ou5,cc5⟩
    by_cases c:i < ds.length
    ·rw[TY c] at go5
     obtain ⟨xs,o,hA,rest',eT,eF,eG,eR⟩:=CV go5
     obtain ⟨eF,cA⟩:=hf' _ _ _ eF
     refine thn (T.item (blk X (tg++fv.map (·.2)) s2 H1 scope H2.objs.size fp) rfl rfl rfl (O.calm hu) i _ s5 σ5 H5 _ I5 (stat fr5) st5 (ito.go m5 H5 hh i x5 R5 cc5 c)) fun r s6 hr=>?_
     obtain ⟨u,rfl,hr⟩:=hr
     refine thn hr fun _ s7 zq=>?_
     obtain ⟨x,H7,I7,r7,y7,st7,fr7⟩:=zq
     obtain ⟨x7,k7,rd7⟩:=ito.yld m5 H5 hh i x H7 ds[i] x5 R5 cc5 (OZ c) y7
     have R7:=R5.ext x7 k7
     have I7':=I7.pinned (stat fr7) (T.obj _ _ st7)
     obtain ⟨sq1,sq2,sq3⟩:=CU tl t0 eT sl1 sl2
     refine thn (hg1 _ s7 σ5 H7 x u (fun σ8 H8=>H8=H7/\RS X.prog X.w X.K m5 H7 σ8 (xs.map BT.dZ++fs)) I7' r7 (hg2 m5 H7 σ5 sl x ds[i] xs _ (S5.ext x7) rd7 (by rw[tl];exact eT) fun σ8 S8=>⟨rfl,by rw[← sq1];exact S8⟩)) fun _ s8 h8=>?_
     obtain ⟨σ8,H8,I8,rfl,S8⟩:=h8
     have kept:∀ {s9:OP}{σ9:L2.St}{H9:Hp},Inv (blk X (tg++fv.map (·.2)) s2 H1 scope H2.objs.size fp) ([(s2.heap.objs.size,lobj us nn)]++jR fp s7.heap) σ9 H9 s9->tn (i+1) s9.heap/\∀ b∈fp,H9 b=none:=fun {s9 σ9 H9} I9=>by
      refine ⟨T.keep _ _ _ st7 fun b hb o e=>(I9.pin (b,o) (PJ _ (PJ _ (gx hb e)))).1,fun b hb=>?_⟩
      obtain ⟨o,e,_⟩:=T.obj _ _ st7 b hb
      exact (I9.pin (b,o) (PJ _ (PJ _ (gx hb e)))).2.1
     have elem:∀ {s9:OP}{H9:Hp}{m9:List OR}{h9:BT.HH}{w:BT.W}{hB:BT.HH}{d:BT.D},Inv (blk X (tg++fv.map (·.2)) s2 H1 scope H2.objs.size fp) ([(s2.heap.objs.size,lobj us nn)]++jR fp s7.heap) σ8 H9 s9->Ext m5 H8 m9 H9->RH X.K m9 H9 h9 →
      BT.ev F G elt (xs.map BT.dZ++fs) h9=some (w,hB)->BT.nh w hB=some (some d,hA)->o=some d →
      wpAny (Pc X.prog X.w) X.A (eval elt' (UT scope (BC.cM X.env.cells scope.names []) H2.objs.size X.env)) (fun x s₄ =>
       wpAny (Pc X.prog X.w) X.A (call (.builtin "list.append") [.ref s2.heap.objs.size,x]) (fun _ s₅=>∃ m,m < ds.length - i/\LI X F G scope tg fv cond elt s2 H1 H2.objs.size fp tn m1 ds outs fs h2 f' (o7 ws ds) m s₅) (fun _ _=>False) s₄) (fun _ _=>False) s9:=by
      intro s9 H9 m9 h9 w hB d I9 x9 R9 eE eK eO
      have ew:w=.p d/\hB=hA:=by
       unfold BT.nh at eK
       cases w with
       | p d'=>cases eK;exact ⟨rfl,rfl⟩
       | _=>cases eK
      obtain ⟨rfl,rfl⟩:=ew
      refine thn (hE _ O' _ s9 σ8 H9 (fun v Ha=>∃ ma,Ext m9 H9 ma Ha/\RH X.K ma Ha hB/\RD X.K ma Ha v d) I9 ⟨m9,_,h9,_,hB,R9,S8.ext x9,eE,fun v Ha ma xa Ra ra=>by
       cases ra with|p ra=>exact ⟨ma,xa,Ra,ra⟩⟩) fun u10 s10 ⟨v10,H10,I10,r10,m10,x10,R10,rd10⟩=>?_
      obtain ⟨pD,nD,neD,nfD,_⟩:=I10.pin (s2.heap.objs.size,lobj us nn) (by simp)
      have lus:=rv5.length
      have lvs:=rd5.length
      have lou:out.length<=outs.length:=by rw[← ou5];simp
      have lle:=cU
      have cl':outs.length<=BT.lim:=cl
      refine wpAny_list_append_plain ⟨nn,pD⟩ (fun h11 hp11 sb11=>?_) (by rw[OT];lia)
      obtain ⟨nn',hp11⟩:=hp11
      have hp11:h11.get? s2.heap.objs.size=some (lobj (us++[u10]) nn'):=by rw[hp11];simp[lobj]
      have sb11:Q2 s2.heap.objs.size s10.heap h11:=sb11
      obtain ⟨st10,fr10⟩:=kept I10
      have I11:Inv (blk X (tg++fv.map (·.2)) s2 H1 scope H2.objs.size fp) [] σ8 H10 { s10 with heap:=h11 } :=
       Inv.turned (t':=s10.toks) (I10.kR (fun p hp=>by cases hp)) (fun b o hb e=>(sb11.2 b hb).trans e) nD neD (.inr (OX _)) (fun x c e zz=>by
        obtain ⟨v,o,ho,_⟩:=I1.cell x c (kD e)
        have:=O2 ho
        rw[zz] at this
        exact absurd this (Qh _)) fun p hp=>by cases hp
      have I12:Inv (blk X (tg++fv.map (·.2)) s2 H1 scope H2.objs.size fp) [(s2.heap.objs.size,lobj (us++[u10]) nn')] σ8 H10 { s10 with heap:=h11 }:=I11.kR fun p hp=>by
       simp only[UZ] at hp
       subst hp
       exact ⟨hp11,nD,neD,nfD,fun v zz=>by cases (show Data.seq _ _=Data.cell v from zz)⟩
      have xt:Ext m5 H5 m10 H10:=(x7.trans x9).trans x10
      refine ⟨ds.length - (i+1),by lia,i+1,σ8,H10,m10,hB,out++[d],rest',vs++[v10],us++[u10],nn',_,c,rfl,I12,?_,fr10,x5.trans xt,R10,(S8.ext x9).ext x10,sq2,sq3,rv5.append (.cons r10 .nil),(rd5.ext xt).append (.cons rd10 .nil),eG,?_,cA⟩
      ·refine T.keep _ _ _ st10 fun b hb o' e=>(sb11.2 b ?_).trans e
       exact Py (hlt b hb)
      ·rw[← ou5,eR,eO,Qx];rfl
     unfold BT.fK at eF
     obtain ⟨cs,hc,eC,eK⟩:=ak eF
     rcases hC with ⟨rfl,rfl⟩|⟨cc,cc',rfl,rfl,hCC⟩
     ·simp only[BT.evs] at eC
      cases eC
      have eK:=(show BT.bnd _ BT.nh=_ from eK)
      obtain ⟨w,hB,eE,eL⟩:=ak eK
      refine wpAny_tests_nil ?_
      rw[if_pos rfl]
      have:∃ d,o=some d:=by
       unfold BT.nh at eL
       cases w with
       | p d'=>cases eL;exact ⟨_,rfl⟩
       | _=>cases eL
      obtain ⟨d,rfl⟩:=this
      exact elem I8 (.refl _ _) R7 eE eL rfl
     ·simp only[BT.evs] at eC
      obtain ⟨wc,hc2,eC1,eC2⟩:=ak eC
      simp only[BT.lN,BT.bR,BT.jb] at eC2
      cases eC2
      have hb:∃ b,wc=.p (.bl b):=by
       cases wc with
       | p d =>
        cases d<;>first|exact ⟨_,rfl⟩|exact ai eK
       | _=>exact ai eK
      obtain ⟨b,rfl⟩:=hb
      refine wpAny_tests_one (thn (hCC _ O' _ s8 σ8 H8 (fun b' Ha=>b'=b/\∃ ma,Ext m5 H8 ma Ha/\RH X.K ma Ha hc) I8 ⟨m5,_,hh,b,hc,R7,S8,eC1,fun Ha ma xa Ra=>⟨rfl,ma,xa,Ra⟩⟩) fun b' s9 zq=>?_)
      obtain ⟨H9,I9,hbb,m9,x9,R9⟩:=zq
      subst hbb
      cases b' with
      | false =>
       have eK:=(show some ((none:Option BT.D),hc)=some _ from eK)
       cases eK
       rw[if_neg (by decide)]
       obtain ⟨st9,fr9⟩:=kept I9
       have xt:Ext m5 H5 m9 H9:=x7.trans x9
       refine ⟨ds.length - (i+1),by lia,i+1,σ8,H9,m9,hA,out,rest',vs,us,nn,_,c,rfl,I9.jo,st9,fr9,x5.trans xt,R9,S8.ext x9,sq2,sq3,rv5,rd5.ext xt,eG,?_,cA⟩
       rw[← ou5,eR]
      | true =>
       have eK:=(show BT.bnd _ BT.nh=_ from eK)
       rw[if_pos rfl]
       obtain ⟨w,hB,eE,eL⟩:=ak eK
       have:∃ d,o=some d:=by
        unfold BT.nh at eL
        cases w with
        | p d'=>cases eL;exact ⟨_,rfl⟩
        | _=>cases eL
       obtain ⟨d,rfl⟩:=this
       exact elem I9 x9 R9 eE eL rfl
    ·have ei:i=ds.length:=by lia
     subst ei
     rw[List.drop_length,BT.bJ] at go5
     cases go5
     rw[Pr] at ou5
     subst ou5
     refine thn (T.done (blk X (tg++fv.map (·.2)) s2 H1 scope H2.objs.size fp) rfl rfl rfl (O.calm hu) _ _ s5 σ5 H5 _ I5 (stat fr5) st5 (ito.stop m5 H5 _ x5 R5 cc5)) fun r s6 zq=>?_
     obtain ⟨hr,I6⟩:=zq
     subst hr
     obtain ⟨mm,hmm,_⟩:=I6.loc
     obtain ⟨pD,nD,neD,nfD,_⟩:=I6.pin (s2.heap.objs.size,lobj us nn) (by simp)
     have neD:s2.heap.objs.size≠H2.objs.size:=neD
     have hos:s6.os=s2.os:=I6.os
     have lus:=rv5.length
     have lvs:=rd5.length
     have lle:=cU
     have cl':out.length<=BT.lim:=cl
     have hok:HOk X.prog X.w (upd H5 s2.heap.objs.size (.lst vs)) s6.heap:=fun b u e=>by
      by_cases eb:b=s2.heap.objs.size
      ·subst eb
       rw[aG] at e
       cases e
       exact ⟨by lia,us,nn,rv5,pD⟩
      ·rw[ao eb] at e
       refine (I6.hok b u e).stay (fun c v hc q=>q) (fun c q=>?_) fun c l q=>?_
       ·rw[ao (fun zz=>by rw[zz,nD] at q;cases q)];exact q
       ·rw[ao (fun zz=>by rw[zz,nD] at q;cases q)];exact q
     have u7:Un (frs X.stack) fp H1 (upd H5 s2.heap.objs.size (.lst vs)) s2.heap s6.heap:=Un.behind (h1:=s6.heap) I6.base (fun b hb=>ao (Py hb)) (fun b o e=>I1.hok.lt e) fun b o hb e=>e
     have I7:=I1.call (g':=s6.gens) (t':=s6.toks) (d':=s6.drawn) (ch:=fp) u7 hok I6.bare fun b hb=>⟨(hf b hb).2.2.2.1,(hf b hb).2.1,(hf b hb).2.2.2.2.1,(hf b hb).2.2.2.2.2⟩
     have fr6:H5 H2.objs.size=none:=I6.free
     have ltC:s2.heap.objs.size < H2.objs.size:=by rw[hCs];exact QW _
     have ap:Apart X zt (upd H5 s2.heap.objs.size (.lst vs)) H2.objs.size:=by
      refine ⟨by rw[ao (Qj neD)];exact fr6,?_,?_,fun x c e zz=>?_,fun p hp zz=>?_⟩
      ·exact Ry (UC I1.lt ltC)
      ·exact PL I1.sz (QK ltC)
      ·obtain ⟨v,o,ho,_⟩:=I1.cell x c e
       have l:=O2 ho
       rw[zz] at l
       exact absurd (UC l ltC) (Qh _)
      ·have l:=O2 (I1.pin p hp).1
       rw[zz] at l
       exact absurd (UC l ltC) (Qh _)
     refine hfin s6 _ _ _ mm ?_ hmm ap (iN (mu:=mu) R5 nD rd5 (by rw[ez];exact fun v' H' m' xx RR rr=>zr v' H' m' ((x1.trans x5).trans xx) RR rr))
     obtain ⟨hp6,g6,d6,t6,os6⟩:=s6
     have hos:os6=s2.os:=hos
     subst hos
     exact I7
   exact codeAny_compStart_list (loop _ rfl) (T.self _ 0 _ _ _ (T.keep 0 _ _ st (fun b hb o e=>old b o e)) (loop _ rfl))
theorem CW (O:Ok X F G sc N) (hu:cR N=true) {mu:Bool}
 (hk:je sc N tg fv scope=true) (ht:qt (bw scope sc) tg te=true) (hset:jc iter=true) (hI:PI X te iter (iD X F G sr sa)) (hC:mC F G (bw scope sc) (tg++fv.map (·.2)) cond ifs)
 (hE:∀ X',Ok X' F G (bw scope sc) (tg++fv.map (·.2))->PE X' elt' (tD X' F G elt)):PE X (.ListComp elt' [⟨te,iter,ifs,0⟩] scope pos) (tD X F G (.comp mu sr sa tg fv cond elt)):=by
 intro zt s σ H Q I q
 rw[eval_ListComp]
 refine nT O hu hk ht hset hI hC hE zt s σ H Q none _ I q fun s6 H6 C D m I6 hn ap hq=>?_
 refine ⟨m,hn,fun h7 sb7=>?_⟩
 have sb7:Q2 C s6.heap h7:=sb7
 exact ⟨.ref D,H6,Inv.turned (t':=s6.toks) I6 (fun b o hb e=>(sb7.2 b hb).trans e) ap.fr ap.lo (.inr ap.ab) ap.ce ap.pi,rfl,hq⟩
theorem CY (O:Ok X F G sc N) (hu:cR N=true) {i:Nat}{y:Str}{mu:Bool}{py spos:Pos}
 (hk:je sc N tg fv scope=true) (ht:qt (bw scope sc) tg te=true) (hset:jc iter=true) (hI:PI X te iter (iD X F G sr sa)) (hC:mC F G (bw scope sc) (tg++fv.map (·.2)) cond ifs)
 (hE:∀ X',Ok X' F G (bw scope sc) (tg++fv.map (·.2))->PE X' elt' (tD X' F G elt)) (hy:N[i]?=some y) (hl:sc.names.lookup y=some .local)
 (hsw:RC (.ListComp elt' [⟨te,iter,ifs,0⟩] scope pos) (some (.Name y py)) spos.line X.env=pure true) :
 PS X (.Assign [.Name y py] (.ListComp elt' [⟨te,iter,ifs,0⟩] scope pos) spos) (xF (tD X F G (.comp mu sr sa tg fv cond elt)) (pW i)):=by
 intro zt s σ H D I q
 rw[exec_Assign_Name_used _ _ _ _ hsw]
 refine OY (UM (OY ?_))
 show wpAny _ X.A (do let _ ← comprehension (.ListComp elt' [⟨te,iter,ifs,0⟩] scope pos) scope X.env _ (newList []) false (eval iter X.env) (some (Ug (.Name y py) X.env))) _ _ s
 refine OY (thn (nT O hu hk ht hset hI hC hE zt s σ H _ (some (Ug (.Name y py) X.env)) (fun _ s'=>SP X zt D .next s') I q fun s6 H6 C D' m I6 hn ap hq=>?_) fun _ s' hq=>wpAny_pure (wpAny_pure hq))
 show wpAny _ X.A (Ug (.Name y py) X.env (.ref D')) _ _ _
 refine wpAny_assign_Name (jQ I6 O.nd (by rw[O.hN];exact hy) (.inl (by rw[O.hsc];exact hl)) (v:=.ref D') rfl (fun s7 I7 hs=>?_) (.inr (by rw[O.hsc];exact hl)))
 obtain ⟨a,sb,ha⟩:=hs
 have neC:C≠a:=by
  rcases ha with rfl|ha
  ·exact ap.lo
  ·exact fun z=>ap.ce y a ha z.symm
 refine ⟨m,hn.sameBut sb neC,fun h8 sb8=>?_⟩
 have sb8:Q2 C s7.heap h8:=sb8
 exact ⟨_,H6,Inv.turned (t':=s7.toks) I7 (fun b o hb e=>(sb8.2 b hb).trans e) ap.fr ap.lo (.inr ap.ab) ap.ce ap.pi,hq⟩
end
section
variable {F:FT}{G:Str->Option BT.W}
theorem wC {v:V} (r:∀ m H,RW X.prog X.w X.K m H v (.p (.tup ds))):∃ a vs,v=.ref a/\KT X.K a vs:=by
 have z:=r [] (fun _=>none)
 cases z with
 | p z =>
  cases z with
  | @tup a vs _ h _ =>
   rcases h with ⟨h,_⟩|h
   ·rcases h with h|⟨o,h⟩<;>cases h
   ·exact ⟨a,vs,rfl,h⟩
theorem wD  (O:Ok X F G sc N) {as:BT.Es}{es:List ON}{np apos cpos:Pos} (h2:aE sc x=true) (h3:aH x=true) (hl:(apos.endLine==cpos.line)=true) (hlen:es.length < 20) (hc:CEs sc N as es) (ha:PA X es (tDs X F G as)) :
 PE X (.Call (.Attribute (.Name x np) "index" apos) es [] cpos) (tD X F G (.me .tindex (.glo x) as)):=by
 have hst:=bY hc
 intro zt s σ H Q I q
 obtain ⟨m,s',h,z,h',R,S,ee,zr⟩:=q
 simp only[BT.ev] at ee
 obtain ⟨w,g,e1,e2⟩:=ak ee
 obtain ⟨_,e2⟩:=uq e2
 obtain ⟨ws,g2,e3,e4⟩:=ak e2
 obtain ⟨w',e5,e6⟩:=aC e1
 cases e6
 obtain ⟨u,v0,hm,rv,rw0⟩:=O.glob _ _ e5
 have hT:∃ ds xs,BT.aO ws=some ds/\w=.p (.tup xs)/\ds≠[]:=by
  cases w with
  | p d =>
   rw[BT.lJ] at e4
   cases gp:BT.aO ws with
   | none=>rw[gp] at e4;cases e4
   | some ds =>
    rw[gp] at e4
    obtain ⟨b,e7,e8⟩:=aC e4
    cases d with
    | tup xs=>refine ⟨ds,xs,rfl,rfl,fun z=>?_⟩;subst z;exact ai e7
    | _=>cases ds<;>exact ai e7
  | _=>cases ws<;>(first|(cases e4;done)|simp[BT.meW] at e4)
 obtain ⟨ds,xs,gp,rfl,hne⟩:=hT
 obtain ⟨a,vt,rfl,o,its,n,⟨k1,k2,k3,k4,k5⟩,k6⟩:=wC rw0
 cases es with
 | nil =>
  cases as with
  | cons a r=>cases hc
  | nil=>simp only[BT.evs] at e3;cases e3;simp[BT.aO] at gp;exact absurd gp hne
 | cons e es =>
  simp only[aq,OQ] at hst
  have h30:decide ((e :: es).length+([]:List Te).length+(if ([]:List Te).isEmpty then 0 else 1) < 30)=true:=decide_eq_true (by
   simp only[Ph,Qv,List.isEmpty_nil,if_true] at hlen ⊢;lia)
  refine (Ek PySem.F.plainAttrs_tuple PySem.F.slot_tuple_index PySem.F.type_tuple_index (v9 O.hu) (oA (aM O h2) hm rv (bB h3).1) ha rfl (by
   rw[jG (es:=e :: es) (by simp only[aq,OQ];exact hst),h30];rfl) hl (aj hst.1) (aI hst.2)) zt s σ H Q I ?_
  refine ⟨.inr (.inl ⟨rfl,o,k1,k2,k6⟩),m,s',h,ws,g2,R,S,e3,fun vs H2 m2 x2 R2 r2=>?_⟩
  exact ⟨m2,g2,.p (.tup xs),ws,z,h',R2,rw0 m2 H2,r2,e4,fun v5 H5 m5 x5 R5 r5=>zr v5 H5 m5 (x2.trans x5) R5 r5⟩
theorem GH {me:BT.Me} (hm:me=.append\/me=.pop\/me=.extend) :∀ (m:List OR) (h h2:BT.HH) (H:Hp) (v:V) (x:BT.W) ws r,RH X.K m H h->RW X.prog X.w X.K m H v x->BT.ng x h=true->BT.meW me x ws h2=some r->(∃ σ s,RS X.prog X.w X.K m H σ s/\∃ h0,BT.ev F G o s h0=some (x,h))->tyV X.K "list" v H:=by
 intro m h h2 H v x ws r R rq ok e _
 obtain ⟨n,rfl⟩:=Nh hm e
 exact ty_list R rq ok
theorem Ni:∀ (m:List OR) (h h2:BT.HH) (H:Hp) (v:V) (x:BT.W) ws r,RH X.K m H h->RW X.prog X.w X.K m H v x->BT.ng x h=true->BT.meW .sindex x ws h2=some r->(∃ σ s,RS X.prog X.w X.K m H σ s/\∃ h0,BT.ev F G o s h0=some (x,h))->tyV X.K "str" v H:=by
 intro m h h2 H v x ws r R rq _ e _
 cases x with
 | p d =>
  rw[BT.lK] at e
  cases g:BT.aO ws with
  | none=>rw[g] at e;cases e
  | some ds =>
   rw[g] at e
   obtain ⟨b,e7,e8⟩:=aC e
   cases d with
   | str y=>cases rq with|p r=>cases r;exact rfl
   | _=>cases ds<;>exact ai e7
 | _=>cases ws<;>(first|(cases e;done)|simp[BT.meW] at e)
theorem JZ {me:BT.Me} (hm:me=.count\/me=.lindex) :∀ (m:List OR) (h h2:BT.HH) (H:Hp) (v:V) (x:BT.W) ws r,RH X.K m H h->RW X.prog X.w X.K m H v x->BT.ng x h=true->BT.meW me x ws h2=some r->(∃ σ s,RS X.prog X.w X.K m H σ s/\∃ h0,BT.ev F G o s h0=some (x,h))->tyV X.K "list" v H:=by
 intro m h h2 H v x ws r R rq _ e _
 have key:∃ xs,x=.p (.lst xs):=by
  cases x with
  | p d =>
   rw[qv] at e
   cases g:BT.aO ws with
   | none=>rw[g] at e;cases e
   | some ds =>
    rw[g] at e
    obtain ⟨b,e7,e8⟩:=aC e
    cases d with
    | lst y=>exact ⟨y,rfl⟩
    | _=>rcases hm with rfl|rfl<;>cases ds<;>exact ai e7
  | _=>rcases hm with rfl|rfl<;>cases ws<;>(first|(cases e;done)|simp[BT.meW] at e)
 obtain ⟨xs,rfl⟩:=key
 cases rq with
 | p r =>
  cases r with
  | @lst a vs _ h _=>exact .inl ⟨rfl,vs,LL.sq (h.elim (fun q=>.inl q.1) .inr)⟩
theorem Nj {e:BT.E} (σ:L2.St) (H:Hp) (Q:Bool->Hp->Prop) (q:tDT X F G e σ H Q):tB (tD X F G e) σ H Q:=by
 obtain ⟨m,s,h0,b,h',R,S,ee,zr⟩:=q
 refine ⟨m,s,h0,_,h',R,S,ee,fun v H' m' x R' r=>?_⟩
 exact ⟨b,jV r,zr H' m' x R'⟩
def XE (F:FT) (G:Str->Option BT.W) (X:Cx) (e':BT.E) (e:ON):Prop:=PE X e (tD X F G e')/\(tOK e'=true->PT X e (tDT X F G e')/\∀ op vs p,e=.BoolOp op vs p->PW X e (tDT X F G e'))
def XO (F:FT) (G:Str->Option BT.W) (X:Cx) (es':BT.Es) (o:Option ON):Prop:=∃ t,PO X o t ∧
 ∀ σ H (Q:Option Int->Hp->Prop),(∃ m s h l zs h',RH X.K m H h/\RS X.prog X.w X.K m H σ s/\BT.evs F G es' s h=some (zs,h')/\(BT.aO zs).bind BT.oK=some l/\∀ H' m',Ext m H m' H'->RH X.K m' H' h'->Q l H')->t σ H Q
theorem cy  (p:PE X e (tD X F G e')) (hb:∀ op vs q,e≠.BoolOp op vs q) (he:∀ whole,isTrue e X.env whole=(do let v ← whole;standAt e.pos;holding [v] (truthy v)):=by intro _;rfl):XE F G X e' e :=
 ⟨p,fun _=>⟨PT.weak (EU p he) Nj,fun op vs q z=>absurd z (hb op vs q)⟩⟩
theorem GI:XO F G X .nil none:=⟨_,Bx,fun σ H Q q=>by
 obtain ⟨m,s,h,l,zs,h',R,S,e1,e2,zr⟩:=q
 simp only[BT.evs] at e1
 cases e1
 simp[BT.aO,BT.oK] at e2
 subst e2
 exact zr H m (.refl _ _) R⟩
theorem GJ  (ha:PE X e (tD X F G a)):XO F G X (.cons a .nil) (some e):=by
 refine ⟨_,By ha,fun σ H Q q=>?_⟩
 obtain ⟨m,s,h,l,zs,h',R,S,e1,e2,zr⟩:=q
 simp only[BT.evs] at e1
 obtain ⟨x,h1,e3,e4⟩:=ak e1
 simp only[BT.lN,BT.bR,BT.jb] at e4
 cases e4
 refine ⟨m,s,h,x,h',R,S,e3,fun v H1 m1 x1 R1 r1=>?_⟩
 cases r1 with
 | p r =>
  cases r<;>simp[BT.aO,BT.oK] at e2
  subst e2
  exact ⟨_,rfl,zr H1 m1 x1 R1⟩
 | _=>simp[BT.aO] at e2
theorem j4  (ha:PE X e (tD X F G a)) (hs:noStar e=true):PA X [e] (tDs X F G (.cons a .nil)) :=
 PA.weak (cF ha gX (aj hs)) fun σ H Q q=>by
  obtain ⟨m,s,h,z0,h',R,S,ee,zr⟩:=cons_of σ H Q q
  exact ⟨m,s,h,z0,h',R,S,ee,fun v H1 m1 x1 R1 r1=>fM (zr v H1 m1 x1 R1 r1)⟩
theorem pq {f:ON} (ha:PE X e (tD X F G a)) (hb:PE X f (tD X F G b)) (hs:noStar e=true) (hs2:noStar f=true):PA X [e,f] (tDs X F G (.cons a (.cons b .nil))) :=
 PA.weak (cF ha (j4 hb hs2) (aj hs)) cons_of
theorem sMe  (O:Ok X F G sc N) {m:BT.Me}{as:BT.Es}{oe:ON}{name:Str}{apos cpos:Pos}{es:List ON} (h1:Cb m o=true) (h2:name=yy m) (h3:aL oe=true) (h6:(apos.endLine==cpos.line)=true) (h7:es.length < 20) (ho:CE' sc N o oe) (ha:CEs sc N as es) (hO:PE X oe (tD X F G o)) (hA:PA X es (tDs X F G as)) :
 PE X (.Call (.Attribute oe name apos) es [] cpos) (tD X F G (.me m o as)):=by
 subst h2
 cases m with
 | append=>exact jW (sc:=sc) (N:=N) Qz PySem.F.slot_list_append PySem.F.type_list_append v7 h3 h6 h7 hO ha hA (GH (.inl rfl))
 | pop=>exact jW (sc:=sc) (N:=N) Qz PySem.F.slot_list_pop PySem.F.type_list_pop Ge h3 h6 h7 hO ha hA (GH (.inr (.inl rfl)))
 | extend=>exact jW (sc:=sc) (N:=N) Qz PySem.F.slot_list_extend PySem.F.type_list_extend v8 h3 h6 h7 hO ha hA (GH (.inr (.inr rfl)))
 | sindex=>exact jW (sc:=sc) (N:=N) PySem.F.plainAttrs_str PySem.F.slot_str_index PySem.F.type_str_index we h3 h6 h7 hO ha hA Ni
 | tindex =>
  cases ho with
  | glo hg hn=>exact wD O hg hn h6 h7 ha hA
  | _=>simp[Cb,yz] at h1
 | dget=>simp[Cb] at h1
 | count=>exact jW (sc:=sc) (N:=N) Qz PySem.F.slot_list_count PySem.F.type_list_count (zf O.hu) h3 h6 h7 hO ha hA (JZ (.inl rfl))
 | lindex=>exact jW (sc:=sc) (N:=N) Qz PySem.F.slot_list_index PySem.F.type_list_index (wm O.hu) h3 h6 h7 hO ha hA (JZ (.inr rfl))
theorem sIe  (O:Ok X F G sc N) {x tg:ON}{p:Pos} (hg:aE sc "enumerate"=true) (hs:noStar x=true) (ha:PE X x (tD X F G a)) (hz:nQ .enu tg=true):PI X tg (.Call (.Name "enumerate" p) [x] [] pos) (iD X F G .enu (.cons a .nil)):=by
 cases tg with
 | Tuple elts kk tp=>exact CM O hg hs (j4 ha hs)
 | _=>cases hz
theorem J0 {x:ON}{r:List ON}{p:Pos} (pe:PE X (.BoolOp .And (x :: r) p) (tD X F G (.and a b))) (w:tOK (.and a b)=true->PW X (.BoolOp .And (x :: r) p) (tDT X F G (.and a b))):XE F G X (.and a b) (.BoolOp .And (x :: r) p) :=
 ⟨pe,fun ht=>⟨(w ht).pt,fun _ _ _ e=>by cases e;exact w ht⟩⟩
theorem sOr {x:ON}{r:List ON}{p:Pos} (pe:PE X (.BoolOp .Or (x :: r) p) (tD X F G (.or a b))) (w:tOK (.or a b)=true->PW X (.BoolOp .Or (x :: r) p) (tDT X F G (.or a b))):XE F G X (.or a b) (.BoolOp .Or (x :: r) p) :=
 ⟨pe,fun ht=>⟨(w ht).pt,fun _ _ _ e=>by cases e;exact w ht⟩⟩
theorem k8  (h:tOK (.and a b)=true):tOK a=true/\tOK b=true:=by
 have h:(tOK a&&tOK b)=true:=h
 simpa only[OQ] using h
theorem pA  (h:tOK (.or a b)=true):tOK a=true/\tOK b=true:=by
 have h:(tOK a&&tOK b)=true:=h
 simpa only[OQ] using h
theorem sX  (h:CE' sc N e' e)  (O:Ok X F G sc N):XE F G X e' e:=by
 refine @CE'.rec (fun sc N e' e _=>∀ (X:Cx),Ok X F G sc N->XE F G X e' e) (fun sc N as es _=>∀ (X:Cx),Ok X F G sc N->PA X es (tDs X F G as)) (fun sc N es' o _=>∀ (X:Cx),Ok X F G sc N->XO F G X es' o) (fun sc N cond ifs _=>mC F G sc N cond ifs) (fun sc N sr sa iter _=>∀ (X:Cx),Ok X F G sc N->∀ (tg:ON),nQ sr tg=true->PI X tg iter (iD X F G sr sa))
  (fun h1 h2 h3 X O=>cy (um O h1 h2 h3) (fun _ _ _ z=>nomatch z))
  (fun h X O=>cy (Co h) (fun _ _ _ z=>nomatch z))
  (fun h2 h3 X O=>cy (Cq O h2 h3) (fun _ _ _ z=>nomatch z))
  (fun h _ _ ia ib X O=>cy (PE.weak (Ef (opB h) (ia _ O).1 (ib _ O).1) (lX fun s h=>by simp only[BT.ev])) (fun _ _ _ z=>nomatch z))
  (fun _ ia X O=>cy (PE.weak (Eg xK (ia _ O).1) Gm) (fun _ _ _ z=>nomatch z))
  (fun _ ia X O=>⟨PE.weak (EX (ia _ O).1) Cu,fun ht=>⟨PT.weak (EW ((ia _ O).2 ht).1) Ct,fun _ _ _ e=>nomatch e⟩⟩)
  (fun _ _ ia ib X O=>J0 (PE.weak (xy (ia _ O).1 (xw (ib _ O).1)) uw) fun ht=>PW.weak (xu ((ia _ O).2 (k8 ht).1).1 (Bf ((ib _ O).2 (k8 ht).2).1)) ux)
  (fun _ _ ia ib X O=>J0 (PE.weak (xy (ia _ O).1 (ib _ O).1) uw) fun ht=>PW.weak (xu ((ia _ O).2 (k8 ht).1).1 (((ib _ O).2 (k8 ht).2).2 _ _ _ rfl)) ux)
  (fun _ _ ia ib X O=>sOr (PE.weak (Ec (ia _ O).1 (xw (ib _ O).1)) yR) fun ht=>PW.weak (D9 ((ia _ O).2 (pA ht).1).1 (EV ((ib _ O).2 (pA ht).2).1)) yS)
  (fun _ _ ia ib X O=>sOr (PE.weak (Ec (ia _ O).1 (ib _ O).1) yR) fun ht=>PW.weak (D9 ((ia _ O).2 (pA ht).1).1 (((ib _ O).2 (pA ht).2).2 _ _ _ rfl)) yS)
  (fun h _ _ hm ia ib X O=>⟨PE.weak (Bp (opC O h) (ia _ O).1 (ib _ O).1 hm) (lX fun s h=>by simp only[BT.ev]),fun _=>⟨PT.weak (Bq (opC O h) (ia _ O).1 (ib _ O).1 hm) (qx (lX fun s h=>by simp only[BT.ev])),fun _ _ _ e=>nomatch e⟩⟩)
  (fun h h' _ _ _ hm ia ib ic X O=>⟨PE.weak (xO (opC O h) (opC O h') (ia _ O).1 (ib _ O).1 (ic _ O).1 hm) qy,fun _=>⟨PT.weak (xP (opC O h) (opC O h') (ia _ O).1 (ib _ O).1 (ic _ O).1 hm) (qx qy),fun _ _ _ e=>nomatch e⟩⟩)
  (fun h _ _ _ ic ia ib X O=>⟨PE.weak (xA ((ic _ O).2 h).1 (ia _ O).1 (ib _ O).1) Gk,fun ht=>nomatch ht⟩)
  (fun _ ia X O=>⟨PE.weak (Fk (ia _ O)) Gq,fun ht=>nomatch ht⟩)
  (fun _ ia X O=>⟨PE.weak (Fo (ia _ O)) Gs,fun ht=>nomatch ht⟩)
  (fun _ _ hs ia ii X O=>cy (PE.weak (IU Gd (ia _ O).1 (ii _ O).1 (yO hs)) (lX fun s h=>by simp only[BT.ev])) (fun _ _ _ z=>nomatch z))
  (fun _ _ _ ia il iu X O=>cy (by
   obtain ⟨tl,hl1,hl2⟩:=il _ O
   obtain ⟨tu,hu1,hu2⟩:=iu _ O
   exact PE.weak (xY osl (ia _ O).1 hl1 hu1) (Gn hl2 hu2)) (fun _ _ _ z=>nomatch z))
  (fun hg hn ha ia X O=>cy (yT O hg hn ha (ia _ O)) (fun _ _ _ z=>nomatch z))
  (fun hu hg hg2 hs _ ia X O=>cy (zl O hu hg hg2 hs (j4 (ia _ O).1 hs)) (fun _ _ _ z=>nomatch z))
  (fun hu hb hg hs _ ia X O=>cy (Gp O hu hb hg (by simp[aq,hs]) (j4 (ia _ O).1 hs)) (fun _ _ _ z=>nomatch z))
  (fun hb hg hg2 hs _ ia X O=>cy (yU O hb hg hg2 hs (ia _ O).1) (fun _ _ _ z=>nomatch z))
  (fun hx hn hg hg2 hs _ ia X O=>cy (CG O hx hn hg hg2 hs (ia _ O).1) (fun _ _ _ z=>nomatch z))
  (fun h1 h2 h3 h6 h7 ho ha io ia X O=>cy (sMe O h1 h2 h3 h6 h7 ho ha (io _ O).1 (ia _ O)) (fun _ _ _ z=>nomatch z))
  (fun hu hk ht hz hs _ _ _ ii ic ie X O=>⟨CW O hu hk ht hs (ii _ O _ hz) ic fun X' O'=>(ie _ O').1,fun ht=>nomatch ht⟩)
  (fun hb hf _ ia X O=>cy (Cw (sc:=sc) (N:=N) hb hf (ia _ O).1) (fun _ _ _ z=>nomatch z))
  (fun h3 h6 h7 _ ha io ia X O=>cy (yW O h3 h6 h7 (io _ O).1 ha (ia _ O)) (fun _ _ _ z=>nomatch z))
  (fun hk _ ia X O=>cy (Cy hk (ia _ O).1) (fun _ _ _ z=>nomatch z))
  (fun hu hb hg hs1 hs2 _ _ ia ib X O=>cy (Cz O hu hb hg (by simp[aq,hs1,hs2]) (pq (ia _ O).1 (ib _ O).1 hs1 hs2)) (fun _ _ _ z=>nomatch z))
  (fun hg hn ha ia X O=>cy (yX O hg hn ha (ia _ O)) (fun _ _ _ z=>nomatch z))
  (fun h1 h2 h3 ha ia X O=>cy (zc O h1 h2 h3 ha (ia _ O)) (fun _ _ _ z=>nomatch z))
  (fun _ _ ia ib X O=>cy (PE.weak (Ef F5 (ia _ O).1 (ib _ O).1) (lX fun s h=>by simp only[BT.ev])) (fun _ _ _ z=>nomatch z))
  (fun hu hg hg2 hs hs2 _ _ ia ib X O=>cy (wo O hu hg hg2 hs hs2 (pq (ia _ O).1 (ib _ O).1 hs hs2)) (fun _ _ _ z=>nomatch z))
  (fun X O=>PA.weak gX fun σ H Q q=>fM q)
  (fun hs _ _ ia ir X O=>PA.weak (cF (ia _ O).1 (ir _ O) (aj hs)) cons_of)
  (fun X O=>GI)
  (fun _ ia X O=>GJ (ia _ O).1)
  (.inl ⟨rfl,rfl⟩)
  (fun ht _ ia=>.inr ⟨_,_,rfl,rfl,fun X' O'=>((ia _ O').2 ht).1⟩)
  (fun hg hs _ ia X O _ _=>qB O hg hs (j4 (ia _ O).1 hs))
  (fun hg hs hs2 _ _ ia ib X O _ _=>qC O hg hs hs2 (pq (ia _ O).1 (ib _ O).1 hs hs2))
  (fun hg hs _ ia X O _ _=>uF O hg hs (ia _ O).1)
  (fun hg hs _ ia X O _ hz=>sIe O hg hs (ia _ O).1 hz)
  (fun _ ia X O _ _=>uE (ia _ O).1)
  sc N e' e h X O
theorem sE  (h:CE' sc N e' e)  (O:Ok X F G sc N):PE X e (tD X F G e'):=(sX h O).1
theorem sT  (h:CE' sc N e' e)  (O:Ok X F G sc N) (ht:tOK e'=true):PT X e (tDT X F G e')/\∀ op vs p,e=.BoolOp op vs p->PW X e (tDT X F G e'):=(sX h O).2 ht
theorem sCC  (h:CC sc N cond ifs):mC F G sc N cond ifs:=by
 cases h with
 | nil=>exact .inl ⟨rfl,rfl⟩
 | one ht ha=>exact .inr ⟨_,_,rfl,rfl,fun X' O'=>(sT ha O' ht).1⟩
theorem sCI  (h:CI sc N sr sa iter)  (O:Ok X F G sc N) {tg:ON} (hz:nQ sr tg=true):PI X tg iter (iD X F G sr sa):=by
 cases h with
 | seq h=>exact uE (sE h O)
 | rng1 hg hs h=>exact qB O hg hs (j4 (sE h O) hs)
 | rng2 hg hs hs2 ha hb=>exact qC O hg hs hs2 (pq (sE ha O) (sE hb O) hs hs2)
 | rev hg hs h=>exact uF O hg hs (sE h O)
 | enu hg hs h=>exact sIe O hg hs (sE h O) hz
end
noncomputable def mk3 (H:Hp) (P c f:OR) (t c0 f0:HO):Hp:=upd (upd (upd H P t) c c0) f f0
theorem cG {P f a:OR}{t c0 f0 u:HO}{ps:Array Value} (hP:H P=some (.tbl ps)) (hc:H c=none) (hf:H f=none) (e:H a=some u) (n:yF u=false):mk3 H P c f t c0 f0 a=some u:=by
 unfold mk3
 rw[ao (aF e hf),ao (aF e hc),ao (fun z=>by subst z;rw[hP] at e;cases e;cases n)];exact e
theorem sG {a b:Int}{v0 v:Value} (l:List Value) (h:TriplesOk l) (e:RG pos (l++[RE a,RE b,v0])=some v):RG pos l=some v\/v=v0:=by
 fun_induction TriplesOk l with
 | case1 =>
  simp only[Q5,RE,RG] at e
  split at e
  ·cases e;exact .inr rfl
  ·cases e
 | case2 a' t b' u x rest ih =>
  simp only[List.cons_append,RG] at e ⊢
  split at e
  ·rename_i hc;rw[if_pos hc];exact .inl e
  ·rename_i hc;rw[if_neg hc];exact ih h e
 | case3 l h1 h2=>exact h.elim
structure Made (X:Cx) (zt:List (OR×Obj)) (σ:L2.St) (m:List OR) (H:Hp) (h:BT.HH) (q:Str) (pa:Qo) (be:ON) (sc:O6) (cl:List (Str×OR)) (f:OR) (H3:Hp) (s3:OP):Prop where
 inv:Inv X zt σ H3 s3
 ext:Ext m H m H3
 rh:RH X.K m H3 h
 ex:∃ pm ctv c' oc os t,Tr m H3 f (RT "<lambda>" q pa be sc cl pm c' ctv)/\Tr m H3 c' oc/\oc.data=.fields os/\os[1]?=some (.str q t)
theorem CZ {zt:List (OR×Obj)}{s:OP} (I:Inv X zt σ H s) (R:RH X.K m H h)  (lx:LX X x) {P:OR} (tc:PX X.K x=some (c,P)) {ps:Array Value} (hP:H P=some (.tbl ps))
 (ht:TriplesOk ps.toList) (hall:∀ pos v,RG pos ps.toList=some v->∃ c' oc os t,v=.ref c'/\H c'=some (.frz oc (.own 0))/\oc.data=.fields os/\os[1]?=some (.str (vV x) t))
 (uniq:∀ y∈BT.dH,∀ c2,PX X.K y=some (c2,P)->y=x)
  (hn:RG pos ps.toList=none) {c' f:OR}{h':Heap}{tk:Nat}{fo:Obj} (hfo:fo.isFreed=false) {oc:Obj}{os:Array Value}{t:Tok} (hx:Heap.ExtBut P s.heap h') (hge:s.heap.objs.size<=c') (hlt:c' < h'.objs.size) (ho:h'.get? c'=some oc) (hd:oc.data=.fields os) (hq:os[1]?=some (.str (vV x) t))
 (hT:h'.get? P=some (QN (ps++#[RE pos.line,RE pos.col,.ref c']))) :
 Inv X zt σ (mk3 H P c' h'.objs.size (.tbl (ps++#[RE pos.line,RE pos.col,.ref c'])) (.frz oc (.own 0)) (.frz fo (.own 0))) { s with heap:=h'.push fo,toks:=tk }/\Ext m H m (mk3 H P c' h'.objs.size (.tbl (ps++#[RE pos.line,RE pos.col,.ref c'])) (.frz oc (.own 0)) (.frz fo (.own 0))) ∧
 RH X.K m (mk3 H P c' h'.objs.size (.tbl (ps++#[RE pos.line,RE pos.col,.ref c'])) (.frz oc (.own 0)) (.frz fo (.own 0))) h:=by
 have hPs:s.heap.get? P=some (QN ps):=I.hok _ _ hP
 have szP:P < s.heap.objs.size:=O2 hPs
 have cP:c'≠P:=fun z=>by rw[z] at hge;exact absurd szP (Nat.not_lt.mpr hge)
 have fP:h'.objs.size≠P:=fun z=>by rw[← z] at szP;exact absurd (Pn szP hge) (Nat.not_lt.mpr (QK hlt))
 have fc:h'.objs.size≠c':=Ry hlt
 have fr:∀ a,s.heap.objs.size<=a->H a=none:=fun a ha=>I.hok.fresh ha
 have hc:=fr c' hge
 have hf:=fr h'.objs.size (QK (SV hge hlt))
 have at1:∀ t c0 f0,mk3 H P c' h'.objs.size t c0 f0 h'.objs.size=some f0:=fun _ _ _=>aG
 have at2:∀ t c0 f0,mk3 H P c' h'.objs.size t c0 f0 c'=some c0:=fun _ _ _=>by unfold mk3;rw[ao (Qj fc),aG]
 have at3:∀ t c0 f0,mk3 H P c' h'.objs.size t c0 f0 P=some t:=fun _ _ _=>by unfold mk3;rw[ao (Qj fP),ao (Qj cP),aG]
 have at4:∀ t c0 f0 b,b≠P->b≠c'->b≠h'.objs.size->mk3 H P c' h'.objs.size t c0 f0 b=H b:=fun _ _ _ b n1 n2 n3=>by unfold mk3;rw[ao n3,ao n2,ao n1]
 have nP:∀ b,H b=none->b≠P:=fun b e z=>by rw[z,hP] at e;cases e
 have lt:∀ b o,s.heap.get? b=some o->b≠c'/\b≠h'.objs.size:=fun b o e=>by
  have l:=O2 e
  exact ⟨fun z=>by rw[z] at l;exact absurd l (Nat.not_lt.mpr hge),fun z=>by rw[z] at l;exact absurd (Pn l hge) (Nat.not_lt.mpr (QK hlt))⟩
 have kp:∀ b o,b≠P->s.heap.get? b=some o->(h'.push fo).get? b=some o:=fun b o n e=>OS _ (hx b o n e)
 refine ⟨I.un ⟨fun b o e n _ _=>kp b o (nP b n) e,fun b o e n _ _=>⟨o.slots,kp b o (nP b n) e⟩,fun b o e n _=>?_,fun b o e _=>?_,fun b xs e=>cG hP hc hf e rfl,fun b o u e=>cG hP hc hf e rfl,fun b qs e=>?_⟩ fun b u e=>?_,?_,?_⟩
 ·rw[at4 _ _ _ b (nP b n) (lt b o e).1 (lt b o e).2];exact n
 ·by_cases z:b=P
  ·exact ⟨_,by rw[z];exact OS _ hT⟩
  ·exact ⟨o,kp b o z e⟩
 ·by_cases z:b=P
  ·subst z;rw[hP] at e;cases e;exact ⟨_,at3 _ _ _⟩
  ·exact ⟨#[],by rw[at4 _ _ _ b z (aF e hc) (aF e hf),e];simp⟩
 ·by_cases z1:b=h'.objs.size
  ·subst z1;rw[at1] at e;cases e;exact ⟨Pf _ hfo,_,Pf _ hfo⟩
  by_cases z2:b=c'
  ·subst z2;rw[at2] at e;cases e;exact ⟨OS _ ho,_,OS _ ho⟩
  by_cases z3:b=P
  ·subst z3;rw[at3] at e;cases e;exact OS _ hT
  rw[at4 _ _ _ b z3 z2 z1] at e
  refine (I.hok b u e).stay (fun d o hd q=>kp d o ?_ q) (fun d q=>cG hP hc hf q rfl) fun d xs q=>cG hP hc hf q rfl
  rcases hd with rfl|hd
  ·exact z3
  ·rintro rfl;rw[hP] at hd;cases hd
 ·refine ⟨⟨[],by simp,by simp⟩,fun a o e n t=>cG hP hc hf e t,fun a e=>?_⟩
  by_cases z1:a=h'.objs.size
  ·rw[z1];exact hf
  by_cases z2:a=c'
  ·rw[z2];exact hc
  by_cases z3:a=P
  ·subst z3;rw[at3] at e;cases e
  rw[at4 _ _ _ a z3 z2 z1] at e;exact e
 ·have sq:lY H (mk3 H P c' h'.objs.size (.tbl (ps++#[RE pos.line,RE pos.col,.ref c'])) (.frz oc (.own 0)) (.frz fo (.own 0))) :=
   ⟨fun a vs r=>r.elim (fun z=>.inl (cG hP hc hf z rfl)) fun ⟨o,z⟩=>.inr ⟨o,cG hP hc hf z rfl⟩,fun a vs r=>r.elim (fun z=>.inl (cG hP hc hf z rfl)) fun ⟨o,z⟩=>.inr ⟨o,cG hP hc hf z rfl⟩⟩
  refine R.tr sq (fun a ha=>?_) fun y hy c2 P2 e2=>?_
  ·obtain ⟨o,e,z⟩:=R.mu ha
   rw[e];exact cG hP hc hf e (by cases o<;>first|rfl|cases z)
  ·by_cases z:P2=P
   ·subst z
    obtain rfl:=uniq y hy c2 e2
    refine ⟨_,at3 _ _ _,?_,fun pos' v e=>?_⟩
    ·have:=TriplesOk_snoc pos.line pos.col (.ref c') ps.toList ht
     simpa using this
    ·have e':RG pos' (ps.toList++[RE pos.line,RE pos.col,.ref c'])=some v:=by simpa using e
     rcases sG _ ht e' with q|q
     ·obtain ⟨c3,oc3,os3,t3,q1,q2,q3⟩:=hall pos' v q
      exact ⟨c3,oc3,os3,t3,q1,cG hP hc hf q2 rfl,q3⟩
     ·subst q
      exact ⟨c',oc,os,t,rfl,at2 _ _ _,hd,hq⟩
   ·obtain ⟨qs,e3,e4,e5⟩:=R.tb y hy c2 P2 e2
    refine ⟨qs,by rw[at4 _ _ _ P2 z (aF e3 hc) (aF e3 hf)];exact e3,e4,fun pos' v e=>?_⟩
    obtain ⟨c3,oc3,os3,t3,q1,q2,q3⟩:=e5 pos' v e
    exact ⟨c3,oc3,os3,t3,q1,cG hP hc hf q2 rfl,q3⟩
theorem zu {zt:List (OR×Obj)}{s:OP} (I:Inv X zt σ H s) (R:RH X.K m H h)  (lx:LX X x) {pa:Qo}{be:ON}{lp:Pos}{ps:List Str} (hp:LPa pa ps)
 (hfree:∀ y∈scope.names,y.2=.free->X.env.scope.names.lookup y.1=some .cell) {Q:Value->OP->Prop}{E:Value->OP->Prop}
 (hQ:∀ f H3 s3,Made X zt σ m H h (vV x) pa be scope (BC.cM X.env.cells scope.names []) f H3 s3->Q (.ref f) s3):wpAny (Pc X.prog X.w) X.A (eval (.Lambda pa be scope lp) X.env) Q E s:=by
 obtain ⟨c,P,tc,hcode,chd,uniq⟩:=lx.ex
 obtain ⟨ts,hP,ht,hall⟩:=R.tb x lx.mem c P tc
 have hPs:s.heap.get? P=some (QN ts):=I.hok _ _ hP
 have hg:=I.ok.mod.glob.keeps I.bk
 obtain ⟨bm,ob,b1,b2,b3,b4,b5,b6⟩:=lx.bm
 have b3':=I.bk _ _ b3
 have hgP:O4≠P:=fun q=>by
  obtain ⟨o,es,ep,e,hd,_⟩:=hg
  rw[q,hPs] at e;cases e;cases hd
 have hbP:bm≠P:=fun q=>by
  rw[q,hPs] at b3';cases b3';cases b4
 have hbG:bm≠O4:=fun q=>by
  obtain ⟨o,es,ep,e,hd,_⟩:=hg
  rw[q,e] at b3';cases b3';rw[hd] at b6;cases b6
 have hcl:closureFor scope X.env=pure (BC.cM X.env.cells scope.names []):=BC.mq fun y hy e=>I.ok.has y.1 (.inl (hfree y hy e))
 have hB:s.heap.BuiltinsAt X.mg P:=⟨bm,ob,b1,b2,hbG,hbP,b3',b4,b5,b6⟩
 refine PySem.W.kla_eval (by cases hp<;>rfl) ?_
 rw[lx.ql]
 cases hq:RG lp ts.toList with
 | none =>
  refine PySem.W.kla_makeFunction (mg:=X.mg) hcl I.ok.glob hg hcode (chd.keeps I.bk) hPs ht hq hgP hB fun c' ctv h' tk hx hge hlt hrec htb=>?_
  obtain ⟨c2,oc,vs,t,e2,hoc,hd,hv⟩:=hrec
  cases e2
  obtain ⟨z1,z2,z3⟩:=CZ (tk:=tk) (fo:=RT "<lambda>" (vV x) pa be scope (BC.cM X.env.cells scope.names []) ((X.mg "__name__").getD .none) c' ctv) I R lx tc hP ht hall uniq (f:=h'.objs.size) hq rfl hx hge hlt hoc hd hv htb
  have nf:h'.objs.size≠c':=Ry hlt
  have e1:=I.hok.fresh (QK (SV hge hlt))
  have e2:=I.hok.fresh hge
  exact hQ _ _ _ ⟨z1,z2,z3,_,ctv,c',oc,vs,t,⟨aG,R.d9 e1⟩,⟨by unfold mk3;rw[ao (Qj nf),aG],R.d9 e2⟩,hd,hv⟩
 | some cv =>
  obtain ⟨c',oc,os,t,rfl,q2,q3,q4⟩:=hall _ _ hq
  refine PySem.W.kla_makeFunctionHit (mg:=X.mg) hcl I.ok.glob hg hcode (chd.keeps I.bk) hPs ht hq hB fun ctv h' tk hk hsz=>?_
  have e1:=I.hok.fresh hsz
  refine hQ _ _ _ ⟨I.laid (o:=.frz (RT "<lambda>" (vV x) pa be scope (BC.cM X.env.cells scope.names []) ((X.mg "__name__").getD .none) c' ctv) (.own 0)) (t':=tk) (fun b u e=>OS _ (hk b u e)) hsz ⟨Pf _ rfl,_,Pf _ rfl⟩,eg e1,R.new e1,_,ctv,c',oc,os,t,⟨aG,R.d9 e1⟩,⟨sy e1 _ _ q2,R.nin q2 rfl⟩,q3,q4⟩
end BS
end
section
namespace BS
open PySem PySem.Spec PyProof.Rows L2
variable {L:Nat}{X:Cx}{be:ON}{lp:Pos}{m:Str}{pa:Qo}{scope:O6}
open Classical in
noncomputable def d7 (cl:List (Str×OR)) (h:Heap) (H:Hp):Hp:=fun b=>if ∃ x,cl.lookup x=some b then some (.frz ((h.get? b).getD default) (.own 0)) else H b
section
variable {cl:List (Str×OR)}{h:Heap}{H:Hp}{b:OR}
theorem gB {x:Str}{o:Obj} (e:cl.lookup x=some b) (g:h.get? b=some o):d7 cl h H b=some (.frz o (.own 0)):=by
 unfold d7;rw[if_pos ⟨x,e⟩,g];rfl
theorem dR (e:¬ ∃ x,cl.lookup x=some b):d7 cl h H b=H b:=if_neg e
theorem C1 (N:∀ x c,cl.lookup x=some c->H c=none):Le H (d7 cl h H):=fun a u e=>by
 rw[dR (fun ⟨x,q⟩=>by rw[N x a q] at e;cases e)];exact e
end
theorem k9 {cells:List (Str×OR)}{y:Str}{d:OR}:∀ {names:List (Str×QV)}{acc:List (Str×OR)},(BC.cM cells names acc).lookup y=some d->acc.lookup y=some d\/(y,PZ)∈names
 | [],acc,e=>.inl e
 | (n,k) :: r,acc,e=>by
  rw[BC.cM] at e
  split at e
  ·rename_i hk
   have hk:k=.free:=eq_of_beq hk
   split at e
   ·rename_i a ea
    rcases k9 e with q|q
    ·rw[Qm] at q
     split at q
     ·rename_i hy
      have:y=n:=by simpa using hy
      subst this;subst hk
      exact .inr Pj
     ·exact .inl q
    ·exact .inr (O8 _ q)
   ·rcases k9 e with q|q
    ·exact .inl q
    ·exact .inr (O8 _ q)
  ·rcases k9 e with q|q
   ·exact .inl q
   ·exact .inr (O8 _ q)
theorem GK {cells:List (Str×OR)}{y:Str}{d:OR}{names:List (Str×QV)} (e:(BC.cM cells names []).lookup y=some d):(y,PZ)∈names:=by
 rcases k9 e with q|q
 ·simp at q
 ·exact q
theorem RWs.le {P:OU}{w:Pa}{K:OM}{m:List OR}{H H':Hp} (q:Le H H') {vs:List V}{ws:List BT.W} (r:RWs P w K m H vs ws):RWs P w K m H' vs ws:=by
 induction r with
 | nil=>exact .nil
 | cons r t ih=>exact .cons (r.le q) ih
section
variable {F:FT}{G:Str->Option BT.W}
theorem GL {P:OU}{w:Pa}{K:OM}{m:List OR}{H:Hp}{v:V}{x:BT.W}{cp:BT.Cp} (r:RW P w K m H v x) (e:BT.qh x=some cp):RA K m H v cp.w:=by
 cases r with
 | p r=>cases e;exact .p r
 | o h=>cases e;exact .o h
 | _=>cases e
theorem qF {X:Cx}{zt:List (OR×Obj)}{σ:L2.St}{H:Hp}{s:OP}{m:List OR}{g:BT.HH}{cl:List (Str×OR)}{sc:O6}{N:List Str}{sl:BT.Sl} (I:Inv X zt σ H s) (R:RH X.K m H g) (hsc:X.env.scope=sc) (hN:X.N=N) (S:RS X.prog X.w X.K m H σ sl)
 (hsub:∀ x c,cl.lookup x=some c->X.env.cells.lookup x=some c):∀ (fv:List (Nat×Str)) (cs:List BT.Cp),su sc N fv=true->(∀ q∈fv,∃ c,cl.lookup q.2=some c)->BT.caps sl fv=some cs->∃ cvs,gQ m (d7 cl s.heap H) cl (fv.map (·.2)) cvs/\RCs X.K m H cvs cs
 | [],cs,_,_,e=>by cases e;exact ⟨[],.nil,.nil⟩
 | q :: r,cs,hv,hc,e=>by
  simp only[su,Ub,OQ] at hv
  rw[BT.vS] at e
  split at e
  ·rename_i w g1
   obtain ⟨cp,e1,e2⟩:=Option.bind_eq_some_iff.mp e
   obtain ⟨cs',e3,rfl⟩:=aC e2
   obtain ⟨cvs,c1,c2⟩:=qF I R hsc hN S hsub r cs' hv.2 (fun q hq=>hc q (O8 _ hq)) e3
   obtain ⟨v,s1,rv⟩:=S.get _ _ g1
   obtain ⟨c,hcc⟩:=hc q Pj
   have hce:=hsub _ _ hcc
   obtain ⟨mm,hn,hl⟩:=I.loc
   have kc:X.env.scope.names.lookup q.2=some .cell:=by rw[hsc];exact eq_of_beq hv.1.2
   obtain ⟨u,ru,lk⟩:=hl q.1 q.2 v (by rw[hN];exact eq_of_beq hv.1.1) s1 (.inr (.inl kc))
   rcases lk with ⟨k,_⟩|⟨k,c',ec,o,ho,hd⟩
   ·have:X.env.scope.names.lookup q.2=some .local:=k
    rw[kc] at this;cases this
   ·rw[hce] at ec
    cases ec
    exact ⟨v :: cvs,.cons hcc ⟨gB hcc ho,R.d9 (I.freeC _ _ hce)⟩ hd ru c1,.cons (GL rv e1) c2⟩
  ·cases e
theorem wF {ea:BT.HH->Option (List BT.W×BT.HH)}{ocs:Option (List BT.Cp)}{x:BT.W}{h:BT.HH}{r:BT.W×BT.HH} (e:BT.sf F m ea L ocs x h=some r) :
 ∃ n c fs ws g cs,x=.o n/\BT.oat h n=some (c,fs)/\(BT.aX m fs).isNone=true/\ea h=some (ws,g)/\ocs=some cs/\F (.m c m) (.o n :: (ws++[.c (.l L) cs])) g=some r/\BT.noC [r.1]=true:=by
 cases x with
 | o n =>
  rw[BT.yl] at e
  cases g:BT.oat h n with
  | none=>rw[g] at e;cases e
  | some q =>
   obtain ⟨c,fs⟩:=q
   rw[g] at e
   simp only at e
   split at e
   ·rename_i c1
    obtain ⟨ws,g2,e1,e2⟩:=ak e
    cases ocs with
    | none=>cases e2
    | some cs =>
     rw[BT.vU] at e2
     obtain ⟨z,h2,e3,e4⟩:=ak e2
     refine ⟨n,c,fs,ws,g2,cs,rfl,g,c1,e1,rfl,?_⟩
     cases z with
     | c _ _=>cases e4
     | x _=>cases e4
     | _=>cases e4;exact ⟨e3,rfl⟩
   ·cases e
 | _=>cases e
def zw (X:Cx) (F:FT) (G:Str->Option BT.W) (as:BT.Es) (args:List ON) (lam:ON):Prop :=
 ∀ (pos:Pos) (zt:List (OR×Obj)) (s:OP) (σ:L2.St) (H:Hp) (m:List OR) (sl:BT.Sl) (h:BT.HH) (ws:List BT.W) (g:BT.HH) (Q:List Value->OP->Prop),Inv X zt σ H s->RH X.K m H h->RS X.prog X.w X.K m H σ sl->BT.evs F G as sl h=some (ws,g) →
  (∀ vs us H1 s1 m1,Inv X zt σ H1 s1->az vs us->Ext m H m1 H1->RH X.K m1 H1 g->RWs X.prog X.w X.K m1 H1 vs ws->wpAny (Pc X.prog X.w) X.A (eval lam X.env) (fun u s2=>Q (us++[u]) s2) X.xe s1) →
  wpAny (Pc X.prog X.w) X.A (Se (QA pos (Pe args X.env))) Q X.xe s
theorem EA:zw X F G .nil [.Lambda pa be scope lp] (.Lambda pa be scope lp):=by
 intro pos zt s σ H m sl h ws g Q I R S e k
 simp only[BT.evs] at e
 cases e
 show wpAny _ _ (Se ((false,eval (.Lambda pa be scope lp) X.env) :: QA pos (Pe [] X.env))) _ _ s
 exact P4 (thn (k [] [] H s m I .nil (.refl _ _) R .nil) fun u s2 q=>QL q)
theorem EB {a:BT.E}{e:ON} (hs:noStar e=true) (ha:PE X e (tD X F G a)):zw X F G (.cons a .nil) [e,.Lambda pa be scope lp] (.Lambda pa be scope lp):=by
 intro pos zt s σ H m sl h ws g Q I R S ee k
 simp only[BT.evs] at ee
 obtain ⟨z,g1,e1,e2⟩:=ak ee
 simp only[BT.lN,BT.bR,BT.jb] at e2
 cases e2
 rw[aj hs]
 show wpAny _ _ (Se ((false,eval e X.env) :: QA pos (Pe [.Lambda pa be scope lp] X.env))) _ _ s
 refine P4 (thn (ha zt s σ H (fun v H1=>∃ m1,Ext m H m1 H1/\RH X.K m1 H1 g/\RW X.prog X.w X.K m1 H1 v z) I ⟨m,sl,h,z,g,R,S,e1,fun v H1 m1 x1 R1 r1=>⟨m1,x1,R1,r1⟩⟩) fun u s1 zq=>?_)
 obtain ⟨v,H1,I1,r1,m1,x1,R1,w1⟩:=zq
 show wpAny _ _ (Se ((false,eval (.Lambda pa be scope lp) X.env) :: QA pos (Pe [] X.env))) _ _ s1
 exact P4 (thn (k [v] [u] H1 s1 m1 I1 (.cons r1 .nil) x1 R1 (.cons w1 .nil)) fun u s2 q=>QL q)
inductive zx (X:Cx) (zt:List (OR×Obj)) (σ:L2.St) (m0:List OR) (H:Hp) (n:Nat) (ws:List BT.W) (g:BT.HH) (L:Nat) (cs:List BT.Cp) (a f:OR) (us:List Value) (vs:List V) (m2:List OR) (H3:Hp) (s3:OP) (cl:List (Str×OR)):Prop where
 | mk (I3:Inv X zt σ H3 s3) (hnone:∀ y d,cl.lookup y=some d->H3 d=none) (hobj:∀ y d,cl.lookup y=some d->∃ o u,s3.heap.get? d=some o/\o.data=.cell u) (hfrm:∀ y d,cl.lookup y=some d->d∉frs X.stack) (le:Le H3 (d7 cl s3.heap H3)) (R4:RH X.K m2 (d7 cl s3.heap H3) g)
  (w4:RWs X.prog X.w X.K m2 (d7 cl s3.heap H3) (.ref a :: (vs++[.ref f])) (.o n :: (ws++[.c (.l L) cs]))) (e04:jq X.prog X.w X.K X.mg X.base X.A X.stack s3 (d7 cl s3.heap H3)) (rv4:az (V.ref a :: (vs++[.ref f])) (Pp a :: (us++[.ref f]))) (x:Ext m0 H m2 H3) (rh:RH X.K m2 H3 g):zx X zt σ m0 H n ws g L cs a f us vs m2 H3 s3 cl
theorem nU {sc:O6}{N:List Str} (O:Ok X F G sc N) (hf:∀ x,X.fn x=true) {o bt:BT.E}{as:BT.Es}{fv:List (Nat×Str)}{oe e0:ON}{rest:List ON}{apos cpos:Pos}{ns ps:List Str}
 (hl:BT.lQ L=some ⟨ns,ns,.ret bt⟩) (hp:LPa pa ps) (hn:ns=ps++fv.map (·.2)) (hk:kB ps (fv.map (·.2)) scope=true) (hv:su sc N fv=true) (ht:N.contains (BT.bA (BT.qo L))=true) (hc:CE' scope ns bt be) (h3:aL oe=true) (h6:(apos.endLine==cpos.line)=true)
 (hO:PE X oe (tD X F G o)) (hst:aq (e0 :: rest)=true) (hlen:(e0 :: rest).length < 20) (hS:zw X F G as (e0 :: rest) (.Lambda pa be scope lp))
 {zt:List (OR×Obj)}{s:OP}{σ:L2.St}{H:Hp}{Q:Value->OP->Prop}{c:Str}{C ga:OR}{n:Nat}{fs:List (Str×BT.W)}{ws:List BT.W}{g h h1:BT.HH}{cs:List BT.Cp}{m0:List OR}{s':BT.Sl} (I:Inv X zt σ H s) (R:RH X.K m0 H h) (S:RS X.prog X.w X.K m0 H σ s') (hC:jz X.K c C) (hM:pZ X.K C m ga)
 (e1:BT.ev F G o s' h=some (.o n,h1)) (e3:BT.oat h1 n=some (c,fs)) (e4:(BT.aX m fs).isNone=true) (e5:BT.evs F G as s' h1=some (ws,g)) (e6:BT.caps s' fv=some cs)
 (kk:∀ (a f:OR) (us:List Value) (vs:List V) (m2:List OR) (H3:Hp) (s3:OP) (cl:List (Str×OR)),zx X zt σ m0 H n ws g L cs a f us vs m2 H3 s3 cl->wpAny (Pc X.prog X.w) X.A (call (.ref ga) (Pp a :: (us++[Pp f]))) Q X.xe s3) :
 wpAny (Pc X.prog X.w) X.A (eval (.Call (.Attribute oe m apos) (e0 :: rest) [] cpos) X.env) Q X.xe s:=by
 have lx:=O.lamx hf _ ht
 have lf:=JU hk
 subst hn
 refine Q7 (thn (hO zt s σ H (fun v H1=>∃ m1,Ext m0 H m1 H1/\RH X.K m1 H1 h1/\RW X.prog X.w X.K m1 H1 v (.o n)) I ⟨m0,s',h,_,h1,R,S,e1,fun v H1 m1 x1 R1 r1=>⟨m1,x1,R1,r1⟩⟩) fun u s1 ⟨v,H1,I1,rv,m1,x1,R1,w1⟩=>?_) (gq h3 hst hlen h6)
 cases w1 with
 | @o a _ ha =>
 obtain rfl:u=.ref a:=rv
 obtain ⟨C',dx,vs0,q1,q2,q3⟩:=R1.lS _ _ _ _ ha e3
 cases q2.cn.inj hC.cn
 refine gy I1 q1 hC.cls hM (q3.none e4) ?_
 have hst':=hst
 simp only[aq,OQ] at hst'
 refine Qk (first:=[.ref a]) (h₀:=X.base) I.ok.mod.kin hM.kp (hS cpos zt s1 σ H1 m1 s' h1 ws g _ I1 R1 (S.ext x1) e5 fun vs us H2 s2 m2 I2 rvs x2 R2 w2=>?_) (aj hst'.1) (aI hst'.2)
 have hfree:∀ y∈scope.names,y.2=.free->X.env.scope.names.lookup y.1=some .cell:=fun y hy e=>by
  have hm:=lf.all y hy e
  obtain ⟨p,hp1,hp2⟩:=List.mem_map.mp hm
  have:=List.all_eq_true.mp hv p hp1
  simp only[OQ] at this
  rw[O.hsc,← hp2];exact eq_of_beq this.2
 refine zu I2 R2 lx hp hfree fun f H3 s3 M=>?_
 have I3:=M.inv
 have hsub:∀ y d,(BC.cM X.env.cells scope.names []).lookup y=some d->X.env.cells.lookup y=some d:=fun y d e=>BC.mw (fun _ _ z=>by simp at z) y d e
 have hfr:∀ y d,(BC.cM X.env.cells scope.names []).lookup y=some d->y∈fv.map (·.2):=fun y d e=>lf.all (y,.free) (GK e) rfl
 have hhas:∀ p∈fv,∃ d,(BC.cM X.env.cells scope.names []).lookup p.2=some d:=fun p hp'=>by
  have hm:=(lf.fre p.2 (UJ hp')).2
  exact BC.mz hm (I3.ok.has p.2 (.inl (hfree _ hm rfl)))
 generalize BC.cM X.env.cells scope.names []=cl at M hsub hfr hhas
 have hcel:∀ y d,cl.lookup y=some d->X.s₀.heap.objs.size<=d:=fun y d e=>I3.ok.cab y d (hf y) (hsub y d e)
 have hnone:∀ y d,cl.lookup y=some d->H3 d=none:=fun y d e=>I3.freeC y d (hsub y d e)
 have hobj:∀ y d,cl.lookup y=some d->∃ o u,s3.heap.get? d=some o/\o.data=.cell u:=fun y d e=>by
  obtain ⟨u,ob,g1,g2⟩:=I3.cell y d (hsub y d e)
  exact ⟨ob,u,g1,g2⟩
 have hfrm:∀ y d,cl.lookup y=some d->d∉frs X.stack:=fun y d e hb=>by
  rcases List.mem_cons.mp (I3.gS d hb) with q|q
  ·exact I3.cne y d (hsub y d e) q
  ·obtain ⟨_,ob,g1,_⟩:=I3.ok.fW.mem q
   exact absurd (O2 g1) (Nat.not_lt.mpr (hcel y d e))
 obtain ⟨cvs,cp,rc⟩:=qF I3 M.rh O.hsc O.hN ((S.ext x1).ext (x2.trans M.ext)) hsub fv cs hv hhas e6
 have le:Le H3 (d7 cl s3.heap H3):=C1 hnone
 obtain ⟨pm,ctv,c',oc,os,t,t1,t2,t3,t4⟩:=M.ex
 have la:gM m2 (d7 cl s3.heap H3) f L cvs:=⟨bt,ps,fv.map (·.2),pa,be,scope,cl,pm,ctv,c',oc,os,t,_,hl,hp,hk,hc,fun y y' d e e'=>I3.ok.inj _ _ _ (hsub _ _ e) (hsub _ _ e'),hfr,⟨le _ _ t1.1,t1.2⟩,⟨le _ _ t2.1,t2.2⟩,t3,t4,cp⟩
 have R4:RH X.K m2 (d7 cl s3.heap H3) g:=M.rh.le le
 have w4:RWs X.prog X.w X.K m2 (d7 cl s3.heap H3) (.ref a :: (vs++[.ref f])) (.o n :: (ws++[.c (.l L) cs])):=.cons (.o (x2.ix ha)) (RWs.app ((w2.ext M.ext).le le) (.cons (.c la (rc.tr le.sq)) .nil))
 have out:∀ b ob,X.base.get? b=some ob->¬ ∃ y,cl.lookup y=some b:=fun b ob e ⟨y,q⟩=>absurd (O2 (I3.ok.bs b ob e).1) (Nat.not_lt.mpr (hcel y b q))
 have e04:jq X.prog X.w X.K X.mg X.base X.A X.stack s3 (d7 cl s3.heap H3):=by
  refine ⟨I3.ok.frames,I3.ok.mod,fun b ob e=>⟨(I3.bs b ob e).1,by rw[dR (out b ob e)];exact (I3.bs b ob e).2⟩,PL I3.ok.bsz I3.sz,I3.stack,fun b hb=>?_,fun b u e=>?_,I3.bare⟩
  ·rw[dR (fun ⟨y,q⟩=>hfrm y b q hb)];exact I3.kQ b hb
  ·by_cases cc:∃ y,cl.lookup y=some b
   ·obtain ⟨y,q⟩:=cc
    obtain ⟨ob,uu,g1,g2⟩:=hobj y b q
    rw[gB q g1] at e
    cases e
    exact ⟨g1,_,g1⟩
   ·rw[dR cc] at e
    exact (I3.hok b u e).stay (fun _ _ _ z=>z) (fun d z=>le _ _ z) fun d xs z=>le _ _ z
 have rv4:az (V.ref a :: (vs++[.ref f])) (Pp a :: (us++[.ref f])):=.cons rfl (rvs.append (.cons rfl .nil))
 exact ⟨I3.kIn,kk a f us vs m2 H3 s3 cl ⟨I3,hnone,hobj,hfrm,le,R4,w4,e04,rv4,x1.trans (x2.trans M.ext),M.rh⟩⟩
section
variable {X:Cx}{cl:List (Str×OR)}{H3 H5:Hp}{s3 s5:OP}{m2 m5:List OR}
theorem zy (hnone:∀ y d,cl.lookup y=some d->H3 d=none) (b:OR) (uu:HO) (e:H3 b=some uu):¬ ∃ y,cl.lookup y=some b:=fun ⟨y,q⟩=>by rw[hnone y b q] at e;cases e
theorem zA (hnone:∀ y d,cl.lookup y=some d->H3 d=none) (hobj:∀ y d,cl.lookup y=some d->∃ o u,s3.heap.get? d=some o/\o.data=.cell u) (hfrm:∀ y d,cl.lookup y=some d->d∉frs X.stack) (le:Le H3 (d7 cl s3.heap H3)) {P:OU}{w:Pa}
 (un:Un (frs X.stack) [] (d7 cl s3.heap H3) H5 s3.heap s5.heap) (hok5:HOk P w H5 s5.heap):Un (frs X.stack) [] H3 (hid cl H5) s3.heap s5.heap:=by
 have nc:=zy hnone
 refine ⟨fun b ob e nn hb hx=>?_,fun b ob e nn hb hx=>?_,fun b ob e nn hx=>?_,fun b ob e hx=>un.there b ob e hx,fun b xs e=>?_,fun b ob uu e=>?_,fun b qs e=>?_⟩
 ·by_cases cc:∃ y,cl.lookup y=some b
  ·obtain ⟨y,q⟩:=cc
   exact (hok5 _ _ (un.frzs _ _ _ (gB q e))).1
  ·exact un.keep b ob e (by rw[dR cc];exact nn) hb hx
 ·exact un.slot b ob e (by rw[dR (fun ⟨y,q⟩=>hfrm y b q hb)];exact nn) hb hx
 ·by_cases cc:∃ y,cl.lookup y=some b
  ·obtain ⟨y,q⟩:=cc;exact sD q
  ·exact dQ (un.free b ob e (by rw[dR cc];exact nn) hx)
 ·rw[dJ (nc _ _ e)];exact un.tups b xs (le _ _ e)
 ·rw[dJ (nc _ _ e)];exact un.frzs b ob uu (le _ _ e)
 ·rw[dJ (nc _ _ e)];exact un.tbls b qs (le _ _ e)
theorem uJ {h0:Heap} (hnone:∀ y d,cl.lookup y=some d->H3 d=none) (le:Le H3 (d7 cl h0 H3)) (x5:Ext m2 (d7 cl h0 H3) m5 H5):Ext m2 H3 m5 (hid cl H5):=by
 have nc:=zy hnone
 obtain ⟨ex,hm,he⟩:=x5.pre
 have lno:∀ b,d7 cl h0 H3 b=none->H3 b=none:=fun b e=>by
  cases gg:H3 b with
  | none=>rfl
  | some uu=>rw[le _ _ gg] at e;cases e
 refine ⟨⟨ex,hm,fun b hb=>lno b (he b hb)⟩,fun b ob e nn tt=>?_,fun b e=>?_⟩
 ·rw[dJ (nc _ _ e)];exact x5.keep b ob (le _ _ e) nn tt
 ·by_cases cc:∃ y,cl.lookup y=some b
  ·obtain ⟨y,q⟩:=cc;exact hnone y b q
  ·rw[dJ cc] at e;exact lno b (x5.live b e)
end
theorem qG {sc:O6}{N:List Str} (O:Ok X F G sc N) (hf:∀ x,X.fn x=true) {o bt:BT.E}{as:BT.Es}{fv:List (Nat×Str)}{oe e0:ON}{rest:List ON}{apos cpos:Pos}{ns ps:List Str}
 (hl:BT.lQ L=some ⟨ns,ns,.ret bt⟩) (hp:LPa pa ps) (hn:ns=ps++fv.map (·.2)) (hk:kB ps (fv.map (·.2)) scope=true) (hv:su sc N fv=true) (ht:N.contains (BT.bA (BT.qo L))=true) (hc:CE' scope ns bt be) (h3:aL oe=true) (h6:(apos.endLine==cpos.line)=true)
 (hO:PE X oe (tD X F G o)) (hst:aq (e0 :: rest)=true) (hlen:(e0 :: rest).length < 20) (hS:zw X F G as (e0 :: rest) (.Lambda pa be scope lp)) :
 PE X (.Call (.Attribute oe m apos) (e0 :: rest) [] cpos) (tD X F G (.methL o m as L fv)):=by
 intro zt s σ H Q I q
 obtain ⟨m0,s',h,z,h',R,S,ee,zr⟩:=q
 simp only[BT.ev] at ee
 obtain ⟨x,h1,e1,e2⟩:=ak ee
 obtain ⟨n,c,fs,ws,g,cs,rfl,e3,e4,e5,e6,e7,e8⟩:=wF e2
 obtain ⟨C,ga,fd,ps',k,hC,hM,hB,hR,ok⟩:=O.meth _ _ _ _ _ e7
 refine nU O hf hl hp hn hk hv ht hc h3 h6 hO hst hlen hS I R S hC hM e1 e3 e4 e5 e6 fun a f us vs m2 H3 s3 cl P=>?_
 obtain ⟨I3,hnone,hobj,hfrm,le,R4,w4,e04,rv4,xx,rh⟩:=P
 have sp4:spF X.prog X.w X.K (F (.m c m)) (V.ref a :: (vs++[.ref f])) (d7 cl s3.heap H3) (fun v5 H5=>∃ m5,Ext m2 (d7 cl s3.heap H3) m5 H5/\RH X.K m5 H5 h'/\RW X.prog X.w X.K m5 H5 v5 z) E0:=⟨m2,_,g,z,h',R4,w4,e7,fun v5 H5 m5 x5 R5 r5=>⟨m5,x5,R5,r5⟩⟩
 have hl4:(Pp a :: (us++[.ref f])).length=ps'.length:=by rw[← rv4.length];exact ok.len _ _ _ _ sp4
 have hb4:=hB s3 (Pp a :: (us++[.ref f])) I3.kIn (by rw[Pr];exact hl4)
 rw[Pr] at hb4
 have run4:=ok.run X.A X.stack s3 (d7 cl s3.heap H3) ⟨Pp a :: (us++[Pp f]),[]⟩ (Pp a :: (us++[Pp f])) _ _ E0 hR e04 hb4 rv4 sp4
 refine R6 (Q6 run4 fun r s' hq=>?_)
 cases r with
 | error e=>exact Pk hq
 | ok fl =>
  cases fl with
  | ret u =>
   obtain ⟨v5,H5,os5,bare5,un,hok5,rv5,m5,x5,R5,r5⟩:=hq
   have C5:bV cl H5:=fun y d e=>by
    obtain ⟨ob,uu,g1,g2⟩:=hobj y d e
    exact ⟨ob,uu,un.frzs _ _ _ (gB e g1),g2⟩
   have un6:=zA hnone hobj hfrm le un hok5
   have I6:=I3.xr os5 un6 (kY C5 hok5 fun _ _ e=>e) bare5 (fun b zz=>absurd zz (by simp))
   have x6:=uJ hnone le x5
   have r6:RW X.prog X.w X.K m5 (hid cl H5) v5 z:=by
    have:=RWs.tr C5.sq (.cons r5 .nil) e8
    cases this with
    | cons r _=>exact r
   exact ⟨v5,hid cl H5,I6,rv5,zr v5 _ m5 (xx.trans x6) (C5.rh R5) r6⟩
  | _=>exact Pk hq
end
end BS
end
section
namespace BS
open PySem PySem.Spec PyProof.Rows L2
variable {H:Hp}{K:OM}{N:List Str}{P:OU}{X:Cx}{b:BT.S}{base:Heap}{e o:BT.E}{env:Env}{f x:Str}{fl:BT.Fl}{h:BT.HH}{k:Nat}{m:List OR}{mg:Str->Option Value}{np pos:Pos}{s:BT.Sl}{sc scope:O6}{st:O9}
noncomputable def gC:ON->Bool
 | .ListComp _ _ _ _=>false
 | .SetComp _ _ _ _=>false
 | .DictComp _ _ _ _ _=>false
 | _=>true
noncomputable def swB (sc scope:O6) (x:Str) (np pos:Pos):Bool :=
 (if sc.kind.isAnnotationScope then ScopeKind.function else sc.kind)==.function&&sc.names.lookup x==some .local&&np.line==pos.line&&!(scope.names.any fun (n,k)=>n==x&&(k==.local||k==.cell))
mutual
inductive CS (sc:O6) (N:List Str):BT.S->O9->Prop where
 | setL {i:Nat}{x m:Str}{o:BT.E}{as:BT.Es}{L:Nat}{fv:List (Nat×Str)}{call:ON}{np p:Pos} (h1:N[i]?=some x) (h2:kL sc x=true) (hl:CL sc N o m as L fv call):CS sc N (.set i x (.methL o m as L fv)) (.Assign [.Name x np] call p)
 | retL {m:Str}{o:BT.E}{as:BT.Es}{L:Nat}{fv:List (Nat×Str)}{call:ON}{p:Pos} (hl:CL sc N o m as L fv call):CS sc N (.ret (.methL o m as L fv)) (.Return (some call) p)
 | setc {i:Nat}{x:Str}{mu:Bool}{sr:BT.Sr}{sa:BT.Es}{tg:List Str}{fv:List (Nat×Str)}{cond:BT.Es}{elt:BT.E}{te iter elt':ON}{ifs:List ON}{scope:O6}{pos np p:Pos} (hu:cR N=true) (h1:N[i]?=some x) (h3:(sc.names.lookup x==some .cell||swB sc scope x np pos)=true)
  (hk:je sc N tg fv scope=true) (ht:qt (bw scope sc) tg te=true) (hz:nQ sr te=true) (hs:jc iter=true) (hi:CI sc N sr sa iter) (hc:CC (bw scope sc) (tg++fv.map (·.2)) cond ifs) (he:CE' (bw scope sc) (tg++fv.map (·.2)) elt elt') :
  CS sc N (.set i x (.comp mu sr sa tg fv cond elt)) (.Assign [.Name x np] (.ListComp elt' [⟨te,iter,ifs,0⟩] scope pos) p)
 | set {i:Nat}{x:Str}{e:BT.E}{v:ON}{np p:Pos} (h1:N[i]?=some x) (h2:kL sc x=true) (h3:gC v=true) (he:CE' sc N e v):CS sc N (.set i x e) (.Assign [.Name x np] v p)
 | put {i:Nat}{x:Str}{k e:BT.E}{ke v:ON}{np sp p:Pos} (h1:N[i]?=some x) (h2:lR sc x=true) (h3:aH x=true) (h4:gC v=true) (h5:kU ke=true) (hk:CE' sc N k ke) (he:CE' sc N e v):CS sc N (.put i x k e) (.Assign [.Subscript (.Name x np) ke sp] v p)
 | aug {i:Nat}{x:Str}{o:BT.Bin}{op:Rn}{e:BT.E}{v:ON}{np p:Pos} (h1:N[i]?=some x) (h2:kL sc x=true) (h3:yY o op=true) (he:CE' sc N e v):CS sc N (.aug i x o e) (.AugAssign (.Name x np) op v p)
 | setf {o e:BT.E}{f:Str}{oe v:ON}{np p:Pos} (h1:attrName f=true) (h2:gC v=true) (ho:CE' sc N o oe) (he:CE' sc N e v):CS sc N (.setf o f e) (.Assign [.Attribute oe f np] v p)
 | augf {o e:BT.E}{f:Str}{b:BT.Bin}{op:Rn}{oe v:ON}{np p:Pos} (h1:attrName f=true) (h3:yY b op=true) (ho:CE' sc N o oe) (he:CE' sc N e v):CS sc N (.augf o f b e) (.AugAssign (.Attribute oe f np) op v p)
 | ex {e:BT.E}{v:ON}{p:Pos} (h:gC v=true) (he:CE' sc N e v):CS sc N (.ex e) (.Expr v p)
 | ret {e:BT.E}{v:ON}{p:Pos} (he:CE' sc N e v):CS sc N (.ret e) (.Return (some v) p)
 | ife {c:BT.E}{a b:BT.S}{t:ON}{xs ys:List O9}{p:Pos} (h:tOK c=true) (hc:CE' sc N c t) (ha:CSs sc N a xs) (hb:CSs sc N b ys):CS sc N (.ife c a b) (.If t xs ys p)
 | whl {c:BT.E}{b:BT.S}{t:ON}{xs:List O9}{p:Pos} (h:tOK c=true) (hc:CE' sc N c t) (hb:CSs sc N b xs):CS sc N (.whl c b) (.While t xs [] p)
 | for {tg:List (Nat×Str)}{sr:BT.Sr}{sa:BT.Es}{b:BT.S}{te iter:ON}{xs:List O9}{p:Pos} (hu:cR N=true) (ht:CT sc N tg te) (hi:CI sc N sr sa iter) (hz:nQ sr te=true) (hs:jc iter=true) (hb:CSs sc N b xs):CS sc N (.for tg sr sa b) (.For te iter xs [] p)
 | brk {p:Pos}:CS sc N .brk (.Break p)
 | cnt {p:Pos}:CS sc N .cnt (.Continue p)
 | bad {st:O9}:CS sc N .bad st
inductive CSs (sc:O6) (N:List Str):BT.S->List O9->Prop where
 | nil:CSs sc N .nil []
 | one {s:BT.S}{st:O9} (h:CS sc N s st):CSs sc N s [st]
 | cons {a b:BT.S}{st st2:O9}{r:List O9} (h:CS sc N a st) (hr:CSs sc N b (st2 :: r)):CSs sc N (.seq a b) (st :: st2 :: r)
end
def jH (X:Cx) (m:List OR) (H:Hp) (fl:BT.Fl) (D:Ends):Prop:=match fl with
 | .nx s' h'=>∀ σ' H' m',Ext m H m' H'->RH X.K m' H' h'->RS X.prog X.w X.K m' H' σ' s'->D.nx σ' H'
 | .rt z h'=>∀ v H' m',Ext m H m' H'->RH X.K m' H' h'->RW X.prog X.w X.K m' H' v z->D.rt v H'
 | .bk s' h'=>∀ σ' H' m',Ext m H m' H'->RH X.K m' H' h'->RS X.prog X.w X.K m' H' σ' s'->D.bk σ' H'
 | .ct s' h'=>∀ σ' H' m',Ext m H m' H'->RH X.K m' H' h'->RS X.prog X.w X.K m' H' σ' s'->D.ct σ' H'
theorem jH.ext {m':List OR}{H':Hp}{D:Ends} (x:Ext m H m' H') (p:jH X m H fl D):jH X m' H' fl D:=by
 cases fl<;>exact fun a b c y=>p a b c (x.trans y)
inductive tDS (X:Cx) (F:FT) (G:Str->Option BT.W) (S:BT.S) (D:Ends) (σ:L2.St) (H:Hp):Prop where
 | mk (m:List OR) (s:BT.Sl) (h:BT.HH) (fl:BT.Fl) (R:RH X.K m H h) (r:RS X.prog X.w X.K m H σ s) (e:BT.evS F G S s h=some fl) (p:jH X m H fl D):tDS X F G S D σ H
theorem PS.weak {t t':TS} (h:PS X st t) (q:∀ D σ H,t' D σ H->t D σ H):PS X st t':=fun zt s σ H D I hw=>h zt s σ H D I (q _ _ _ hw)
theorem PSs.weak {st:List O9}{t t':TS} (h:PSs X st t) (q:∀ D σ H,t' D σ H->t D σ H):PSs X st t':=fun zt s σ H D I hw=>h zt s σ H D I (q _ _ _ hw)
section
variable {F:FT}{G:Str->Option BT.W}
theorem zB {a:BT.S} (D:Ends) (σ:L2.St) (H:Hp) (q:tDS X F G (.seq a b) D σ H):Ir (tDS X F G a) (tDS X F G b) D σ H:=by
 obtain ⟨m,s,h,fl,R,S,e,zr⟩:=q
 simp only[BT.evS] at e
 cases g:BT.evS F G a s h with
 | none=>rw[g] at e;cases e
 | some f1 =>
  rw[g] at e
  refine ⟨m,s,h,f1,R,S,g,?_⟩
  cases f1 with
  | nx s1 h1=>exact fun σ1 H1 m1 x1 R1 S1=>⟨m1,s1,h1,fl,R1,S1,e,zr.ext x1⟩
  | _=>cases e;exact zr
theorem jI {S0:BT.S}{a:BT.E}{k:BT.Sl->BT.W->BT.HH->Option BT.Fl} (he:∀ s h,BT.evS F G S0 s h=BT.bnd (BT.ev F G a s h) (k s)) {D:Ends}{σ:L2.St} (q:tDS X F G S0 D σ H) {R':V->Hp->Prop}
 (h1:∀ m s h x fl v H1,RH X.K m H1 h->RS X.prog X.w X.K m H1 σ s->RW X.prog X.w X.K m H1 v x->k s x h=some fl->jH X m H1 fl D->R' v H1):tD X F G a σ H R':=by
 obtain ⟨m,s,h,fl,R,S,ee,zr⟩:=q
 rw[he] at ee
 obtain ⟨x,g,e1,e2⟩:=ak ee
 exact ⟨m,s,h,x,g,R,S,e1,fun v H1 m1 x1 R1 r1=>h1 m1 s g x fl v H1 R1 (S.ext x1) r1 e2 (zr.ext x1)⟩
theorem uK {x:Option (BT.W×BT.HH)}{k:Bool->BT.HH->Option BT.Fl} (h:BT.tst x k=some fl):∃ b g,x=some (.p (.bl b),g)/\k b g=some fl:=by
 unfold BT.tst at h
 obtain ⟨w,g,e1,e2⟩:=ak h
 unfold BT.Jy at e2
 cases w with
 | p d =>
  cases d<;>simp only at e2<;>try contradiction
  exact ⟨_,g,e1,e2⟩
 | _=>cases e2
theorem gD {e:ON}{t:Option ON}{l:Nat} (h:gC e=true):RC e t l env=pure false:=by
 cases e<;>first|rfl|cases h
theorem C2 {e t:ON}{l:Nat} (h:gC e=true):swapsWithSole [t] e l env=pure false:=gD h
theorem sH {o i:ON} (h:kU i=true):∀ v,Ug (.Subscript o i pos) env v=(do
 let ov ← holding [v] (eval o env)
 let iv ← holding [v,ov] (eval i env)
 standAt pos
 holding [v,ov,iv] (setItem ov iv v)
 release [v,ov,iv] []):=by
 intro v
 cases i<;>first|rfl|cases h
theorem GM {c:BT.E} (D:Ends) (σ:L2.St) (H:Hp) (q:tDS X F G (.whl c b) D σ H):xG (tDT X F G c) (tDS X F G b) D σ H:=by
 obtain ⟨m0,s,h,fl,R,S,e,zr⟩:=q
 simp only[BT.evS] at e
 refine ⟨fun n σ H=>∃ m s h,RH X.K m H h/\RS X.prog X.w X.K m H σ s/\BT.b9 (BT.ev F G c) (BT.evS F G b) n s h=some fl/\jH X m H fl D,⟨BT.turns,m0,s,h,R,S,e,zr⟩,?_⟩
 rintro n σ1 H1 ⟨m,s,h,R,S,e,zr⟩
 cases n with
 | zero=>cases e
 | succ n =>
  rw[BT.b9] at e
  obtain ⟨t,g,e1,e2⟩:=uK e
  refine ⟨m,s,h,t,g,R,S,e1,fun H2 m2 x2 R2=>?_⟩
  cases t with
  | false =>
   rw[BT.lP] at e2
   cases e2
   rw[if_neg (by decide)]
   exact zr σ1 H2 m2 x2 R2 (S.ext x2)
  | true =>
   rw[BT.lO] at e2
   rw[if_pos rfl]
   refine ⟨fun σ' H'=>∃ m' s' h',RH X.K m' H' h'/\RS X.prog X.w X.K m' H' σ' s'/\BT.b9 (BT.ev F G c) (BT.evS F G b) n s' h'=some fl/\jH X m' H' fl D,fun σ' H' ⟨m',s',h',a1,a2,a3,a4⟩=>⟨n,QW n,m',s',h',a1,a2,a3,a4⟩,?_⟩
   cases gb:BT.evS F G b s g with
   | none=>rw[gb] at e2;cases e2
   | some f1 =>
    rw[gb] at e2
    refine ⟨m2,s,g,f1,R2,S.ext x2,gb,?_⟩
    cases f1 with
    | nx s1 h1=>exact fun σ3 H3 m3 x3 R3 S3=>⟨m3,s1,h1,R3,S3,e2,(zr.ext x2).ext x3⟩
    | ct s1 h1=>exact fun σ3 H3 m3 x3 R3 S3=>⟨m3,s1,h1,R3,S3,e2,(zr.ext x2).ext x3⟩
    | bk s1 h1=>cases e2;exact fun σ3 H3 m3 x3 R3 S3=>zr σ3 H3 m3 (x2.trans x3) R3 S3
    | rt z h1=>cases e2;exact fun v H3 m3 x3 R3 r3=>zr v H3 m3 (x2.trans x3) R3 r3
theorem GN {i:Nat}{o:BT.Bin} (D:Ends) (σ:L2.St) (H:Hp) (q:tDS X F G (.aug i x o e) D σ H):IB i (tD X F G e) (Gu o) D σ H:=by
 obtain ⟨m,s,h,fl,R,S,ee,zr⟩:=q
 simp only[BT.evS] at ee
 obtain ⟨y,g,e1,e2⟩:=ak ee
 unfold BT.JF at e2
 have hs:∃ d d' z,s[i]?=some (some (.p d))/\y=.p d'/\BT.lI o d d'=some z/\fl=.nx (s.set i (some (.p z))) g:=by
  cases g1:s[i]? with
  | none=>rw[g1] at e2;cases y<;>cases e2
  | some ow =>
   cases ow with
   | none=>rw[g1] at e2;cases y<;>cases e2
   | some w0 =>
    rw[g1] at e2
    cases w0<;>cases y<;>simp only at e2<;>try contradiction
    obtain ⟨z,e3,e4⟩:=aC e2
    exact ⟨_,_,z,rfl,rfl,e3,e4.symm⟩
 obtain ⟨d,d',z,g1,rfl,e3,rfl⟩:=hs
 obtain ⟨a,b,k,rfl,rfl,rfl⟩:=uA e3
 obtain ⟨v,hv,rv⟩:=S.get i _ g1
 have ev:v=.int a:=by cases rv with|p rv=>cases rv;rfl
 subst ev
 refine ⟨_,hv,m,s,h,_,g,R,S,e1,fun u H1 m1 x1 R1 r1=>?_⟩
 cases r1 with
 | p r1 =>
  cases r1
  exact ⟨a,b,k,rfl,rfl,e3,zr _ H1 m1 x1 R1 ((S.ext x1).set (.p (.int k)))⟩
theorem wG {v x:BT.W} (e:BT.oS s f v x h=some fl):∃ n c fs,x=.o n/\BT.oat h n=some (c,fs)/\BT.attrOk v=true/\fs.length < 1000/\fl=.nx s (h.set n (.o c (BT.bF f v fs))):=by
 cases x with
 | o n =>
  rw[BT.yq] at e
  cases g:BT.oat h n with
  | none=>rw[g] at e;cases e
  | some q =>
   obtain ⟨c,fs⟩:=q
   rw[g] at e
   simp only at e
   split at e
   ·rename_i c1
    cases e
    simp only[OQ,decide_eq_true_eq] at c1
    exact ⟨n,c,fs,rfl,g,c1.1,c1.2,rfl⟩
   ·cases e
 | _=>cases e
theorem qH {D:Ends}{σ:L2.St}{n:Nat}{c:Str}{fs:List (Str×BT.W)}{y:BT.W}{v:V}{a C dx:OR}{vs:List (Str×V)} (R:RH X.K m H h) (S:RS X.prog X.w X.K m H σ s) (hn:m[n]?=some a) (h1:H a=some (.ins C dx vs)) (h2:jz X.K c C) (h3:RFs X.K m H vs fs) (ra:RA X.K m H v y)
 (zr:jH X m H (.nx s (h.set n (.o c (BT.bF f y fs)))) D):D.nx σ (upd H a (.ins C dx (L2.bF f v vs))):=by
 have x:Ext m H m (upd H a (.ins C dx (L2.bF f v vs))):=lT (O5 hn)
 exact zr σ _ m x (R.setC hn ⟨C,dx,_,aG,h2,(RFs.put ra h3).ext x⟩) (S.ext x)
theorem C3  (hf:attrName f=true) (D:Ends) (σ:L2.St) (H:Hp) (q:tDS X F G (.setf o f e) D σ H):IP X.K (tD X F G o) (tD X F G e) f D σ H:=by
 refine jI (k:=fun s=>BT.yr (BT.ev F G o s) s f) (fun s h=>by simp only[BT.evS]) q fun m s h y fl v H1 R S r e1 zr=>?_
 rw[BT.yt] at e1
 obtain ⟨x,g,e2,e3⟩:=ak e1
 obtain ⟨n,c,fs,rfl,g1,ok,hl,rfl⟩:=wG e3
 refine ⟨m,s,h,.o n,g,R,S,e2,fun u H2 m2 x2 R2 r2=>?_⟩
 cases r2 with
 | @o a _ hn =>
  obtain ⟨C,dx,vs,q1,q2,q3⟩:=R2.lS _ _ _ _ hn g1
  exact ⟨a,C,dx,vs,rfl,q1,q2.cls,q2.no f hf,by rw[q3.length];exact hl,qH R2 (S.ext x2) hn q1 q2 q3 ((r.ext x2).ra ok) (zr.ext x2)⟩
theorem zC {ee:BT.EH}{op:BT.Bin}{x:BT.W} (e:BT.ud ee s f op x h=some fl):∃ n c fs d y g fs' z,x=.o n/\BT.oat h n=some (c,fs)/\BT.aX f fs=some (.p d)/\ee h=some (.p y,g)/\BT.oat g n=some (c,fs')/\BT.lI op d y=some z/\fs'.length < 1000/\fl=.nx s (g.set n (.o c (BT.bF f (.p z) fs'))):=by
 cases x with
 | o n =>
  rw[BT.B8] at e
  cases g1:BT.oat h n with
  | none=>rw[g1] at e;cases e
  | some q =>
   obtain ⟨c,fs⟩:=q
   rw[g1] at e
   simp only at e
   cases g2:BT.aX f fs with
   | none=>rw[g2] at e;cases e
   | some w0 =>
    rw[g2] at e
    cases w0 with
    | p d =>
     simp only at e
     obtain ⟨y,g,e1,e2⟩:=ak e
     cases y with
     | p y =>
      rw[BT.yu] at e2
      cases g3:BT.oat g n with
      | none=>rw[g3] at e2;cases e2
      | some q =>
       obtain ⟨c',fs'⟩:=q
       rw[g3] at e2
       simp only at e2
       cases g4:BT.lI op d y with
       | none=>rw[g4] at e2;cases e2
       | some z =>
        rw[g4] at e2
        simp only at e2
        split at e2
        ·rename_i c1
         cases e2
         obtain ⟨rfl,c1⟩:=c1
         exact ⟨n,c',fs,d,y,g,fs',z,rfl,g1,g2,e1,g3,g4,c1,rfl⟩
        ·cases e2
     | _=>cases e2
    | _=>cases e
 | _=>cases e
theorem C4 {b:BT.Bin} (hf:attrName f=true) (D:Ends) (σ:L2.St) (H:Hp) (q:tDS X F G (.augf o f b e) D σ H):tO X.K (tD X F G o) (tD X F G e) (Gu b) f D σ H:=by
 refine jI (k:=fun s=>BT.ud (BT.ev F G e s) s f b) (fun s h=>by simp only[BT.evS]) q fun m s h y fl v H1 R S r e1 zr=>?_
 obtain ⟨n,c,fs,d,y,g,fs',z,rfl,g1,g2,e2,g3,g4,hl,rfl⟩:=zC e1
 obtain ⟨i,j,k,rfl,rfl,rfl⟩:=uA g4
 cases r with
 | @o a _ hn =>
  obtain ⟨C,dx,vs,q1,q2,q3⟩:=R.lS _ _ _ _ hn g1
  obtain ⟨u,l,ra⟩:=q3.get g2
  have eu:u=.int i:=by cases ra with|p ra=>cases ra;rfl
  subst eu
  refine ⟨a,C,dx,vs,_,rfl,q1,q2.cls,q2.no f hf,l,m,s,h,_,g,R,S,e2,fun u2 H2 m2 x2 R2 r2=>?_⟩
  cases r2 with
  | p r2 =>
   cases r2
   obtain ⟨C',dx',vs',p1,p2,p3⟩:=R2.lS _ _ _ _ (x2.ix hn) g3
   cases p2.cn.inj q2.cn
   exact ⟨i,j,k,rfl,rfl,g4,dx',vs',p1,by rw[p3.length];exact hl,qH R2 (S.ext x2) (x2.ix hn) p1 p2 p3 (.p (.int k)) (zr.ext x2)⟩
theorem GO {i:Nat}{k:BT.E} (D:Ends) (σ:L2.St) (H:Hp) (q:tDS X F G (.put i x k e) D σ H):xF (tD X F G e) (IA (tD X F G (.var i x)) (tD X F G k) Ej) D σ H:=by
 refine jI (k:=fun s=>BT.FZ (BT.ev F G k s) s i) (fun s h=>by simp only[BT.evS]) q fun m s h y fl v H1 R S r e1 zr=>?_
 unfold BT.FZ at e1
 cases y with
 | p d =>
  cases g:s[i]? with
  | none=>rw[g] at e1;cases e1
  | some o =>
   cases o with
   | none=>rw[g] at e1;cases e1
   | some wz =>
    cases wz with
    | r n =>
     rw[g] at e1
     simp only at e1
     obtain ⟨q,h2,e2,e3⟩:=ak e1
     refine ⟨m,s,h,.r n,h,R,S,by simp only[BT.ev,g],fun o H2 m2 x2 R2 r2=>⟨m2,s,h,q,h2,R2,S.ext x2,e2,fun ki H3 m3 x3 R3 r3=>?_⟩⟩
     unfold BT.Et at e3
     cases q with
     | p dk =>
      cases g2:BT.lat h2 n with
      | none=>rw[g2] at e3;cases dk<;>cases e3
      | some xs =>
       rw[g2] at e3
       cases dk with
       | int j =>
        simp only at e3
        cases g3:BT.place xs.length j with
        | none=>rw[g3] at e3;cases e3
        | some mm =>
         rw[g3] at e3
         cases e3
         have r2':=r2.ext x3
         cases r2' with
         | @r a _ hn =>
          cases r3 with
          | p r3 =>
           cases r3
           obtain ⟨us,hH,ru⟩:=R3.cell n a xs hn g2
           refine ⟨a,us,j,mm,rfl,rfl,hH,by rw[ru.length];exact g3,?_⟩
           have x4:Ext m3 H3 m3 (upd H3 a (.lst (us.set mm v))):=gk (O5 hn) hH
           cases r with
           | p r=>exact zr σ _ m3 ((x2.trans x3).trans x4) (R3.set hn hH (RDs.set ((r.ext x2).ext x3) mm ru)) (((S.ext x2).ext x3).ext x4)
       | _=>cases e3
     | _=>cases e3
    | _=>rw[g] at e1;cases e1
 | _=>cases e1
end
section
variable {F:FT}{G:Str->Option BT.W}
theorem GP {tg:List (Nat×Str)}{sr:BT.Sr}{sa:BT.Es}{g:TG} (hg:GOk X tg g) (D:Ends) (σ:L2.St) (H:Hp) (q:tDS X F G (.for tg sr sa b) D σ H):IF (iD X F G sr sa) g (tDS X F G b) D σ H:=by
 obtain ⟨m,s,h,fl,R,S,e,zr⟩:=q
 simp only[BT.evS] at e
 obtain ⟨ws,h1,e1,e2⟩:=ak e
 unfold BT.kFor at e2
 cases g1:(BT.rds ws h1).bind (BT.dY sr) with
 | none=>rw[g1] at e2;cases e2
 | some ds =>
  rw[g1] at e2
  simp only at e2
  split at e2
  ·rename_i ca
   refine ⟨m,s,h,ws,h1,ds,R,S,e1,g1,.inl ca,fun H1 m1 J x1 R1 it=>?_⟩
   refine ⟨fun i n σ H=>i<=ds.length/\n=ds.length - i/\∃ m s h,Ext m1 H1 m H/\RH X.K m H h/\RS X.prog X.w X.K m H σ s/\BT.bM (BT.evS F G b) tg (ds.drop i) s h=some fl/\jH X m H fl D,
    ⟨ds.length,Qs _,rfl,m1,s,h1,.refl _ _,R1,S.ext x1,by rw[Su];exact e2,zr.ext x1⟩,?_⟩
   rintro i n σ2 H2 ⟨hi,rfl,m2,s2,h2,x2,R2,S2,e3,post2⟩
   by_cases c:i < ds.length
   ·refine .inr ⟨it.go m2 H2 h2 i x2 R2 (mh ca) c,_,fun σ' H' z=>⟨ds.length - (i+1),by lia,c,rfl,z⟩,fun x H3 y=>?_⟩
    obtain ⟨x3,k3,r3⟩:=it.yld m2 H2 h2 i x H3 ds[i] x2 R2 (mh ca) (OZ c) y
    rw[TY c,BT.bM] at e3
    cases g2:BT.target tg.length ds[i] with
    | none=>rw[g2] at e3;cases e3
    | some dd =>
     rw[g2] at e3
     simp only at e3
     have R3:=R2.ext x3 k3
     refine hg m2 H3 σ2 s2 x ds[i] dd _ (S2.ext x3) r3 g2 fun σ4 S4=>?_
     cases g3:BT.evS F G b (BT.sets tg dd s2) h2 with
     | none=>rw[g3] at e3;cases e3
     | some f1 =>
      rw[g3] at e3
      refine ⟨m2,_,h2,f1,R3,S4,g3,?_⟩
      cases f1 with
      | nx s5 h5=>exact fun σ5 H5 m5 x5 R5 S5=>⟨m5,s5,h5,(x2.trans x3).trans x5,R5,S5,e3,(post2.ext x3).ext x5⟩
      | ct s5 h5=>exact fun σ5 H5 m5 x5 R5 S5=>⟨m5,s5,h5,(x2.trans x3).trans x5,R5,S5,e3,(post2.ext x3).ext x5⟩
      | bk s5 h5=>cases e3;exact fun σ5 H5 m5 x5 R5 S5=>post2 σ5 H5 m5 (x3.trans x5) R5 S5
      | rt z h5=>cases e3;exact fun v H5 m5 x5 R5 r5=>post2 v H5 m5 (x3.trans x5) R5 r5
   ·have ei:i=ds.length:=by lia
    subst ei
    refine .inl ⟨it.stop m2 H2 h2 x2 R2 (mh ca),?_⟩
    rw[List.drop_length,BT.bM] at e3
    cases e3
    exact post2 σ2 H2 m2 (.refl _ _) R2 S2
  ·cases e2
theorem J1  (O:Ok X F G sc N) {p:Pos}{elt':ON}{gs:List Comprehension} (h:swB sc scope x np pos=true):RC (.ListComp elt' gs scope pos) (some (.Name x np)) p.line X.env=pure true:=by
 have e:RC (.ListComp elt' gs scope pos) (some (.Name x np)) p.line X.env=pure (swB X.env.scope scope x np pos):=rfl
 rw[e,O.hsc,h]
theorem C6  (c:(sc.names.lookup x==some .cell)=true):kL sc x=true:=by
 unfold kL
 rw[eq_of_beq c]
theorem zD  (h:swB sc scope x np pos=true):sc.names.lookup x=some .local:=by
 unfold swB at h
 simp only[OQ] at h
 exact eq_of_beq h.1.1.2
theorem J2  (O:Ok X F G sc N) {p:Pos}{elt':ON}{gs:List Comprehension} (c:(sc.names.lookup x==some .cell)=true):RC (.ListComp elt' gs scope pos) (some (.Name x np)) p.line X.env=pure false:=by
 have e:RC (.ListComp elt' gs scope pos) (some (.Name x np)) p.line X.env=pure (swB X.env.scope scope x np pos):=rfl
 have z:swB sc scope x np pos=false:=by
  cases h:swB sc scope x np pos with
  | false=>rfl
  | true =>
   have:=zD h
   rw[eq_of_beq c] at this
   cases this
 rw[e,O.hsc,z]
theorem sCL  (O:Ok X F G sc N) (hf:∀ x,X.fn x=true) {m:Str}{as:BT.Es}{L:Nat}{fv:List (Nat×Str)}{call:ON} (h:CL sc N o m as L fv call):PE X call (tD X F G (.methL o m as L fv))/\gC call=true:=by
 cases h with
 | zero hl hp hn hk hv ht hc h3 h6 ho=>exact ⟨qG O hf hl hp hn hk hv ht hc h3 h6 (sE ho O) rfl (by simp) EA,rfl⟩
 | one hl hp hn hk hv ht hc h3 h6 ho hs ha=>exact ⟨qG O hf hl hp hn hk hv ht hc h3 h6 (sE ho O) (by simp only[aq,hs];rfl) (by simp) (EB hs (sE ha O)),rfl⟩
theorem zE:PSs X [] (tDS X F G .nil):=PSs.weak Bg fun D σ H q=>by
 obtain ⟨m,s,h,fl,R,S,e,zr⟩:=q
 simp only[BT.evS] at e
 cases e
 exact zr σ H m (.refl _ _) R S
theorem sS  (O:Ok X F G sc N) (hf:∀ x,X.fn x=true) {s:BT.S} (hh:CS sc N s st):PS X st (tDS X F G s) :=
 CS.rec (motive_1:=fun s st _=>PS X st (tDS X F G s)) (motive_2:=fun s sts _=>PSs X sts (tDS X F G s))
  (@fun i x m o as L fv call np p h1 h2 hl=>PS.weak (rH (i:=i) O.nd (by rw[O.hN];exact h1) (jh O h2) (sCL O hf hl).1 (gD (sCL O hf hl).2) (.inl (hf x))) fun D σ H q =>
   jI (k:=fun s=>BT.sj s i) (fun s h=>by simp only[BT.evS]) q fun m s h y fl v H1 R S r e1 zr=>by
    simp only[BT.sj] at e1
    cases e1
    exact zr _ H1 m (.refl _ _) R (S.set r))
  (fun hl=>PS.weak (rG (sCL O hf hl).1) fun D σ H q =>
   jI (k:=fun s=>BT.yv) (fun s h=>by simp only[BT.evS]) q fun m s h y fl v H1 R S r e1 zr=>by
    simp only[BT.yv] at e1
    cases e1
    exact zr v H1 m (.refl _ _) R r)
  (@fun i x mu sr sa tg fv cond elt te iter elt' ifs scope pos np p hu h1 h3 hk ht hz hs hi hc he=>by
   have K:∀ (D:Ends) (σ:L2.St) (H:Hp),tDS X F G (.set i x (.comp mu sr sa tg fv cond elt)) D σ H->xF (tD X F G (.comp mu sr sa tg fv cond elt)) (pW i) D σ H:=fun D σ H q =>
    jI (k:=fun s=>BT.sj s i) (fun s h=>by rw[BT.evS]) q fun m s h y fl v H1 R S r e1 zr=>by
     simp only[BT.sj] at e1
     cases e1
     exact zr _ H1 m (.refl _ _) R (S.set r)
   by_cases c:(sc.names.lookup x==some .cell)=true
   ·exact PS.weak (rH (i:=i) O.nd (by rw[O.hN];exact h1) (jh O (C6 c)) (sE (CE'.comp hu hk ht hz hs hi hc he) O) (J2 O c) (.inl (hf x))) K
   ·have h4:swB sc scope x np pos=true:=by
     rw[QJ] at h3
     exact h3.resolve_left c
    exact PS.weak (CY O hu hk ht hs (sCI hi O hz) (sCC hc) (fun X' O'=>sE he O') h1 (zD h4) (J1 O h4)) K)
  (@fun i x e v np p h1 h2 h3 he=>PS.weak (rH (i:=i) O.nd (by rw[O.hN];exact h1) (jh O h2) (sE he O) (gD h3) (.inl (hf x))) fun D σ H q =>
   jI (k:=fun s=>BT.sj s i) (fun s h=>by simp only[BT.evS]) q fun m s h y fl v H1 R S r e1 zr=>by
    simp only[BT.sj] at e1
    cases e1
    exact zr _ H1 m (.refl _ _) R (S.set r))
  (fun h1 h2 h3 h4 h5 hk he=>PS.weak (E5 (sE he O) (E4 (um O h1 h2 h3) (sE hk O) set_list (sH h5)) (C2 h4) rfl) GO)
  (fun h1 h2 h3 he=>PS.weak (E6 O.nd (by rw[O.hN];exact h1) (jh O h2) (sE he O) (uz h3) (.inl (hf _))) GN)
  (fun h1 h2 ho he=>PS.weak (Fj (sE ho O) (sE he O) (gD h2)) (C3 h1))
  (fun h1 h3 ho he=>PS.weak (vI (sE ho O) (sE he O) (uz h3)) (C4 h1))
  (fun h he=>PS.weak (Bh (sE he O) (gD h)) fun D σ H q =>
   jI (k:=fun s=>BT.kEx s) (fun s h=>by simp only[BT.evS]) q fun m s h y fl v H1 R S r e1 zr=>by
    simp only[BT.kEx] at e1
    cases e1
    exact zr σ H1 m (.refl _ _) R S)
  (fun he=>PS.weak (rG (sE he O)) fun D σ H q =>
   jI (k:=fun s=>BT.yv) (fun s h=>by simp only[BT.evS]) q fun m s h y fl v H1 R S r e1 zr=>by
    simp only[BT.yv] at e1
    cases e1
    exact zr v H1 m (.refl _ _) R r)
  (fun h hc ha hb ia ib=>PS.weak (Iw (sT hc O h).1 ia ib) fun D σ H q=>by
   obtain ⟨m,s,h,fl,R,S,e,zr⟩:=q
   simp only[BT.evS] at e
   obtain ⟨t,g,e1,e2⟩:=uK e
   refine ⟨m,s,h,t,g,R,S,e1,fun H1 m1 x1 R1=>?_⟩
   simp only[BT.kIf] at e2
   cases t with
   | true=>exact ⟨m1,s,g,fl,R1,S.ext x1,e2,zr.ext x1⟩
   | false=>exact ⟨m1,s,g,fl,R1,S.ext x1,e2,zr.ext x1⟩)
  (fun h hc hb ib=>PS.weak (xH O.own (sT hc O h).1 ib) GM)
  (fun hu ht hi hz hs hb ib=>by
   obtain ⟨g,hg1,hg2⟩:=sCT O (O.calm hu) ht (fun q _=>.inl (hf q.2))
   exact PS.weak (E8 O.own (O.calm hu) (sCI hi O hz) hg1 ib (uH hs)) (GP hg2))
  (PS.weak xE fun D σ H q=>by
   obtain ⟨m,s,h,fl,R,S,e,zr⟩:=q
   simp only[BT.evS] at e
   cases e
   exact zr σ H m (.refl _ _) R S)
  (PS.weak pV fun D σ H q=>by
   obtain ⟨m,s,h,fl,R,S,e,zr⟩:=q
   simp only[BT.evS] at e
   cases e
   exact zr σ H m (.refl _ _) R S)
  (fun zt s σ H D I q=>by
   obtain ⟨m,s,h,fl,R,S,e,zr⟩:=q
   simp only[BT.evS] at e
   cases e)
  zE
  (fun _ ih=>kT ih)
  (fun _ _ ih ir=>PSs.weak (pU ih ir) zB)
  hh
theorem sSs  (O:Ok X F G sc N) (hf:∀ x,X.fn x=true) {s:BT.S}{sts:List O9} (hh:CSs sc N s sts):PSs X sts (tDS X F G s):=by
 refine CSs.rec (motive_1:=fun _ _ _=>True) (motive_2:=fun s sts _=>PSs X sts (tDS X F G s)) ?_ ?_ ?_ ?_ ?_ ?_ ?_ ?_ ?_ ?_ ?_ ?_ ?_ ?_ ?_ ?_ zE (fun h _=>kT (sS O hf h)) (fun h _ _ ir=>PSs.weak (pU (sS O hf h) ir) zB) hh<;>(intros;trivial)
end
section
variable {P:OU}{w:Pa}{K:OM}{m m':List OR}{H:Hp}
mutual
theorem RD.shrink (x:∀ a∈m,a∈m'):∀ {v:V}{d:BT.D},RD K m' H v d->RD K m H v d
 | _,_,.non=>.non
 | _,_,.bl b=>.bl b
 | _,_,.int i=>.int i
 | _,_,.str y h=>.str y h
 | _,_,.tup h r=>.tup (h.elim (fun q=>.inl ⟨q.1,fun z=>q.2 (x _ z)⟩) .inr) (RDs.shrink x r)
 | _,_,.lst h r=>.lst (h.elim (fun q=>.inl ⟨q.1,fun z=>q.2 (x _ z)⟩) .inr) (RDs.shrink x r)
theorem RDs.shrink (x:∀ a∈m,a∈m'):∀ {vs:List V}{ds:List BT.D},RDs K m' H vs ds->RDs K m H vs ds
 | _,_,.nil=>.nil
 | _,_,.cons r t=>.cons (RD.shrink x r) (RDs.shrink x t)
end
end
theorem RFs.shrink {K:OM}{m ex:List OR}{H H':Hp}:∀ {vs0 vs:List (Str×V)}{fs:List (Str×BT.W)},RFs K m H vs0 fs->RFs K (m++ex) H' vs fs->RFs K m H' vs fs
 | _,_,_,.nil,.nil=>.nil
 | _,_,_,.cons r0 t0,.cons r t=>by
  refine .cons ?_ (RFs.shrink t0 t)
  have back:∀ {n:Nat}{a b:OR},m[n]?=some b->(m++ex)[n]?=some a->m[n]?=some a:=fun {n a b} h1 h2=>by
   rw[OW (getD_some h1)] at h2
   exact h2
  cases r with
  | p r=>exact .p (r.shrink fun a ha=>Qt _ ha)
  | r h=>cases r0 with|r h0=>exact .r (back h0 h)
  | o h=>cases r0 with|o h0=>exact .o (back h0 h)
theorem RKs.shrink {K:OM}{m m':List OR}{H:Hp} (sub:∀ a∈m,a∈m') {vs:List (Key×V)}{kvs:List (BT.Ky×BT.D)} (r:RKs K m' H vs kvs):RKs K m H vs kvs:=by
 induction r with
 | nil=>exact .nil
 | cons hk r t ih=>exact .cons (hk.shrink sub) (r.shrink sub) ih
theorem bZ {w:Pa}{m':List OR}{H':Hp}{g h':BT.HH}{y z:BT.W}{v:V} (e:BT.fin h y g=some (z,h')) (R:RH K m H h) (x:Ext m H m' H') (R':RH K m' H' g) (r:RW P w K m' H' v y) :
 ∃ m2,Ext m H m2 H'/\RH K m2 H' h'/\RW P w K m2 H' v z:=by
 unfold BT.fin at e
 split at e
 ·cases e;exact ⟨m',x,R',r⟩
 ·split at e
  ·rename_i c1 c2
   obtain ⟨ex,rfl,hx⟩:=x.pre
   have sub:∀ a∈m,a∈m++ex:=fun a ha=>Qt _ ha
   have x2:Ext m H m H':=⟨⟨[],by simp,by simp⟩,x.keep,x.live⟩
   have R2:RH K m H' h:=by
    refine ⟨R.nd,R.len,fun i a xs e1 e2=>?_,R'.tb⟩
    have hi:i < m.length:=getD_some e1
    have hi2:i < h.length:=by rw[← R.len];exact hi
    have e3:g[i]?=some xs:=by
     rw[← c2,Q0 hi2] at e2
     exact e2
    have z:=R'.cl i a xs (by rw[OW hi];exact e1) e3
    cases xs with
    | o c fs =>
     obtain ⟨C0,dx0,vs0,_,_,q0⟩:=R.cl i a _ e1 e2
     obtain ⟨C,dx,vs,q1,q2,q3⟩:=z
     exact ⟨C,dx,vs,q1,q2,q0.shrink q3⟩
    | _=>obtain ⟨vs,q1,q2⟩:=z;exact ⟨vs,q1,q2.shrink sub⟩
   cases r with
   | p r=>cases e;exact ⟨m,x2,R2,.p (r.shrink sub)⟩
   | @o a n hn =>
    simp only at e
    split at e
    ·rename_i c3
     cases e
     refine ⟨m,x2,R2,.o ?_⟩
     rw[OW (by rw[R.len];exact c3)] at hn
     exact hn
    ·cases e;exact ⟨m++ex,x,R',.o hn⟩
   | @r a n hn =>
    simp only at e
    split at e
    ·rename_i c3
     cases e
     refine ⟨m,x2,R2,.r ?_⟩
     rw[OW (by rw[R.len];exact c3)] at hn
     exact hn
    ·rename_i c3
     obtain ⟨xs,e4,e5⟩:=aC e
     cases e5
     obtain ⟨vs,q1,q2⟩:=R'.cell n a xs hn e4
     refine ⟨m,x2,R2,.p (.lst (.inl ⟨.inl q1,fun z=>?_⟩) (q2.shrink sub))⟩
     obtain ⟨j,hj⟩:=Qu z
     have hjl:=getD_some hj
     have ej:(m++ex)[j]?=some a:=by rw[OW hjl];exact hj
     have:=nR R'.nd ej hn
     rw[R.len] at hjl
     lia
   | _=>cases e
  ·cases e;exact ⟨m',x,R',r⟩
theorem fq {w:Pa}{vs:List V}{ws:List BT.W} (r:RWs P w K m H vs ws):RS P w K m H (L2.start N vs) (BT.br N.length ws):=by
 have hl:=r.length
 refine ⟨by simp[L2.start,BT.br,hl],fun i y e=>?_⟩
 simp only[BT.br] at e
 by_cases c:i < ws.length
 ·rw[OW (by simpa using c),Pb] at e
  obtain ⟨z,e1,e2⟩:=aC e
  cases e2
  have:∀ {vs:List V}{ws:List BT.W}{i:Nat},RWs P w K m H vs ws->ws[i]?=some y->∃ v,vs[i]?=some v/\RW P w K m H v y:=by
   intro vs ws i r
   induction r generalizing i with
   | nil=>intro e;simp at e
   | cons r t ih =>
    intro e
    cases i with
    | zero=>simp at e;subst e;exact ⟨_,rfl,r⟩
    | succ i=>simpa using ih (by simpa using e)
  obtain ⟨v,h1,h2⟩:=this r e1
  refine ⟨v,?_,h2⟩
  unfold L2.start
  rw[OW (by simp;lia),Pb,h1];rfl
 ·rw[Pd (by simpa using c),Qg] at e
  split at e<;>cases e
theorem GQ {w:Pa}{L:Nat}{F:FT}{G:Str->Option BT.W}{bt:BT.E}{ns:List Str}{g:List BT.W->BT.HH->Option (BT.W×BT.HH)} (hT:BT.lQ L=some ⟨ns,ns,.ret bt⟩)
 (hg:∀ ws h r,g ws h=some r->ws.length=ns.length/\BT.jy (BT.evS F G (.ret bt) (BT.br ns.length ws) h) (BT.fin h)=some r)
 (hO:∀ (q:Str) (sc:O6) (cl:List (Str×OR)) (f c':OR) (A:PF) (outer:List Env) (s:OP) (H:Hp),ns.Nodup->bx k (A.deeper (Rp q sc s.heap.objs.size f (.ref c') cl))->Ok (zb P w K mg base ns q sc cl f c' A outer s H) F G sc ns):qw P w K mg base (k+1) L g:=by
 intro A outer s H f us vs cvs m ws cs h z h' Q E hr e0 rv R rw nc la rc e zr
 obtain ⟨bt',ps,fs,pa,be,sc,cl,pm,ctv,c',oc,os,t,q,l0,l1,l2,l3,l4,l5,l6,l7,l8,l9,l10⟩:=la
 rw[hT] at l0
 cases l0
 have lf:=JU l2
 obtain ⟨hwl,e1⟩:=hg _ _ _ e
 have C:=l10.cells l5
 have DR:=rv.length
 have AU:=rw.length
 have xm:=l10.len
 have AV:cvs.length=cs.length:=by
  clear e e1 hwl l10 xm
  induction rc with
  | nil=>rfl
  | cons _ _ ih=>simp[ih]
 have hu:us.length=ps.length:=by
  simp only[PK,Pq] at hwl
  lia
 refine PySem.W.kla_callFunE hr.depth (e0.hok _ _ l6.1).1 rfl lf.co lf.ge rfl ⟨c',oc,os,t,rfl,(e0.hok _ _ l7.1).1,l8,l9⟩ ?_
 rw[CA l1 hu]
 refine wpAny_pure (wpAny_newFunctionEnv lf.cell (fun y hy=>lf.loc y.1 (Rq hy).1) (fun h1 hns hsb=>?_) lf.kd)
 have hk1:∀ b o,s.heap.get? b=some o->h1.get? b=some o:=fun b o e=>hsb.extBut b o (Py (O2 e)) (OS _ e)
 refine ⟨e0.mod.nolimit.keeps fun b o e=>hk1 b o (e0.bs b o e).1,?_⟩
 show codeAny _ _ (.expr be (Rp q sc s.heap.objs.size f (.ref c') cl)) _ _
 refine PySem.W.kla_codeExpr ?_
 have I:=CB (q:=q) (f:=f) (c':=c') (tk:=s.toks+(ps.zip us).length) l1 lf l4 l5 l10 hr.hd e0 rv hu hns hk1
 have hr1:bx k (A.deeper (Rp q sc s.heap.objs.size f (.ref c') cl)):=hr.deeper _
 have O:=hO q sc cl f c' A outer s H lf.nd hr1
 simp only[BT.evS] at e1
 cases g1:BT.ev F G bt (BT.br (ps++fs).length (ws++cs.map BT.Cp.w)) h with
 | none=>rw[g1] at e1;cases e1
 | some yg =>
  obtain ⟨y,gh⟩:=yg
  rw[g1] at e1
  have e2:BT.fin h y gh=some (z,h'):=e1
  have hs:RS P w K m (hid cl H) (vs.map some++cvs.map some) (BT.br (ps++fs).length (ws++cs.map BT.Cp.w)):=by
   have r0:=fq (N:=ps++fs) ((rw.tr C.sq nc).app (RCs.ws (P:=P) (w:=w) (rc.tr C.sq)))
   have e3:L2.start (ps++fs) (vs++cvs)=vs.map some++cvs.map some:=by
    unfold L2.start
    simp only[PK]
    rw[show ps.length+fs.length - (vs.length+cvs.length)=0 by lia]
    simp
   rw[e3] at r0;exact r0
  refine wpAny_mono (sE l3 O [] _ _ _ (fun v H'=>∃ m',Ext m (hid cl H) m' H'/\RH K m' H' gh/\RW P w K m' H' v y) I ⟨m,_,h,y,gh,C.rh R,hs,g1,fun v H' m' x' R' r'=>⟨m',x',R',r'⟩⟩) (fun u s' ⟨v,H',I',rv',m',x',R',r'⟩=>?_) (fun e s' hx=>Pk hx)
  have N':∀ x c,cl.lookup x=some c->H' c=none:=fun x c e=>I'.freeC x c e
  have le:Le H' (ret cl H H'):=Gx N'
  obtain ⟨m2,x2,R2,r2⟩:=bZ e2 (C.rh R) x' R' r'
  have B:Un (frs outer) [] (hid cl H) H' s.heap s'.heap:=I'.base
  have nc':∀ b,H b=none->¬ ∃ y,cl.lookup y=some b:=fun b n ⟨y,qq⟩=>by
   obtain ⟨o,uu,k1,_⟩:=C y b qq
   rw[n] at k1;cases k1
  refine ⟨v,ret cl H H',I'.os,I'.bare,⟨fun b o e n hb hx=>B.keep b o e (dQ n) hb hx,fun b o e n hb hx=>B.slot b o e (dQ n) hb hx,fun b o e n hx=>?_,fun b o e hx=>B.there b o e hx,fun b xs e=>?_,fun b o uu e=>?_,fun b qs e=>?_⟩,fun b uu e=>?_,rv',zr v _ m2 (C.Gy N' x2 R2) (R2.le le) (r2.le le)⟩
  ·rw[fN (nc' b n)];exact B.free b o e (dQ n) hx
  ·rw[fN (C.out e rfl)];exact B.tups b xs (C.hid e rfl)
  ·by_cases cc:∃ y,cl.lookup y=some b
   ·obtain ⟨y,qq⟩:=cc;rw[o6 qq];exact e
   ·rw[fN cc];exact B.frzs b o uu (by rw[dJ cc];exact e)
  ·rw[fN (C.out e rfl)];exact B.tbls b qs (C.hid e rfl)
  ·by_cases cc:∃ y,cl.lookup y=some b
   ·obtain ⟨y,qq⟩:=cc
    rw[o6 qq] at e
    obtain ⟨o,u2,k1,k2⟩:=C y b qq
    rw[k1] at e
    cases e
    have k3:=B.keep b o (e0.hok _ _ k1).1 (sD qq) (fun hb=>by rw[e0.frf b hb] at k1;cases k1) (by simp)
    exact ⟨k3,_,k3⟩
   ·rw[fN cc] at e
    exact (I'.hok b uu e).stay (fun _ _ _ q=>q) (fun d q=>le _ _ q) fun d xs q=>le _ _ q
def gr (K:OM) (q:Str) (fd:PN) (fn:BT.Fn):Prop:=∀ y,fn.ns.contains (BT.bA y)=true->q=y/\y∈BT.dH ∧
 (∃ c P,PX K y=some (c,P)/\fd.code=.ref c/\RJ K c P=true/\∀ z∈BT.dH,∀ c2,PX K z=some (c2,P)->z=y) ∧
 ∃ bm ob,PB K O4 "__builtins__"=some (some (.ref bm))/\bm≠QF/\K.lookup bm=some ob/\ob.cls=.type "module"/\ob.dict=some QF/\ob.data=.plain
inductive J3 (K:OM) (mg:Str->Option Value) (x:Str) (fn:BT.Fn):Prop where
 | mk (f:OR) (fd:PN) (st:O9) (h1:mg x=some (.ref f)) (h2:Fun K x x st f fd) (h3:aN fn.ns fn.ps (aa st)) (h4:Binds K fd fn.ps []) (h5:CSs (aa st) fn.ns fn.body (ay st)) (h6:gr K x fd fn):J3 K mg x fn
structure Def (K:OM) (mg:Str->Option Value) (x:Str) (fn:BT.Fn):Prop where
 ex:J3 K mg x fn
inductive EC (K:OM) (mg:Str->Option Value) (c m:Str) (fn:BT.Fn):Prop where
 | mk (C f:OR) (fd:PN) (x qual:Str) (st:O9) (h1:jz K c C) (h2:mg c=some (.ref C)) (h3:pZ K C m f) (h4:(m="__init__"->Mk K C f)) (h5:Fun K x qual st f fd) (h6:aN fn.ns fn.ps (aa st)) (h7:Binds K fd fn.ps []) (h8:CSs (aa st) fn.ns fn.body (ay st)) (h9:gr K qual fd fn):EC K mg c m fn
structure zF (K:OM) (mg:Str->Option Value) (c m:Str) (fn:BT.Fn):Prop where
 ex:EC K mg c m fn
structure Txt (P:OU) (w:Pa) (K:OM) (mg:Str->Option Value) (T:BT.FK->Option BT.Fn) (G:Str->Option BT.W):Prop where
 defs:∀ x fn,T (.f x)=some fn->Def K mg x fn
 meths:∀ c m fn,T (.m c m)=some fn->zF K mg c m fn
 lams:∀ L fn,T (.l L)=some fn->BT.lQ L=some fn/\∃ ns bt,fn=⟨ns,ns,.ret bt⟩/\∀ y,ns.contains (BT.bA y)=false
 glob:∀ x z,G x=some z->∃ u v,mg x=some u/\RelV v u/\∀ m H,RW P w K m H v z
 blt:∀ x∈Ck,mg x=none
theorem uL {T:BT.FK->Option BT.Fn}{G:Str->Option BT.W}{x:BT.FK}{ws:List BT.W}{r:BT.W×BT.HH} (e:BT.runN T G k x ws h=some r):∃ fn,T x=some fn:=by
 cases k with
 | zero=>cases e
 | succ k =>
  rw[BT.runN] at e
  cases q:T x with
  | none=>rw[q] at e;cases e
  | some fn=>exact ⟨fn,rfl⟩
theorem uM {w:Pa}{qual:Str}{f:OR}{fd:PN}{ps:List Str}{sp:Sp} (F:Fun K x qual st f fd) (S:aN N ps (aa st)) (len:∀ vs H Q E,sp vs H Q E->vs.length=ps.length)
 (hbody:∀ (cdv:Value) (A:PF) (outer:List Env) (s:OP) (H:Hp) (vs:List V) (Q:VK) (E:XK),fd.code=cdv->bx k (A.deeper (Q4 qual (aa st) s.heap.objs.size f cdv))->Mod K mg base->sp vs H Q E →
  ∃ t,PSs (aJ CX0 P w K mg base N qual (aa st) f cdv A outer s H E).nox (ay st) t/\t { nx:=fun _ H'=>Q .non H',rt:=Q } (L2.start N vs) H):cK P w K mg base CX0 (k+1) f fd ps sp:=by
 obtain ⟨oc,od,kV,doc,pm,an,cdv,ct,osl,rfl,lk,hcd⟩:=F.ex
 refine ⟨len,fun A outer s H args us vs Q E hr e0 hb r hs=>?_⟩
 have F1:cK P w K mg base CX0 (k+1) f (P5 x qual (cE st) (ay st) (aa st) .none kV doc pm an cdv ct) ps sp:=xW lk hcd S len fun A outer s H vs Q E hr hsp=>by
  obtain ⟨t,h,q⟩:=hbody cdv A outer s H vs Q E rfl hr e0.mod hsp
  exact ⟨t,h.nox,q⟩
 exact F1.run A outer s H args us vs Q E hr e0 hb r hs
theorem qI {w:Pa}{T:BT.FK->Option BT.Fn}{G:Str->Option BT.W} (X:Txt P w K mg T G) 
 (ih:∀ (x:BT.FK) (fn:BT.Fn),T x=some fn->∀ (f:OR) (fd:PN) (nm qual:Str) (st:O9),Fun K nm qual st f fd->aN fn.ns fn.ps (aa st)->CSs (aa st) fn.ns fn.body (ay st)->gr K qual fd fn->cK P w K mg base CX0 (2*k) f fd fn.ps (spF P w K (BT.runN T G k x)))
 (il:∀ L,(∃ fn,T (.l L)=some fn)->qw P w K mg base (2*k) L (BT.runN T G k (.l L)))
 {Y:Cx} (e1:Y.prog=P) (e2:Y.w=w) (e3:Y.K=K) (e4:Y.mg=mg) (e5:Y.base=base) (hsc:Y.env.scope=sc) (hN:Y.N=N) (nd:Y.N.Nodup) (ca:Y.calm=true) (hr:bx (2*k+1) Y.A) (own:Uk (Pc Y.prog Y.w) Y.A Y.env Y.xe)
 (lx:(∀ x,Y.fn x=true)->∀ x,N.contains (BT.bA x)=true->LX Y x):Ok Y (BT.runN T G k) G sc N:=by
 subst e1 e2 e3 e4 e5
 refine ⟨hsc,hN,nd,fun _=>ca,?_,own,X.glob,fun g ws h r e=>?_,fun c g ws h r e=>?_,fun c ws h r e=>?_,X.blt,fun L ws h r e=>⟨2*k,hr.mono (Qd _),il L (uL e)⟩,lx⟩
 ·have:=hr.un
  lia
 ·obtain ⟨fn',hTg⟩:=uL e
  obtain ⟨f',fd',st',a1,a2,a3,a4,a5,a6⟩:=(X.defs g fn' hTg).ex
  exact ⟨f',fd',fn'.ps,2*k,a1,a2.kp,a4,hr.mono (Qd _),ih _ fn' hTg f' fd' g g st' a2 a3 a5 a6⟩
 ·obtain ⟨fn',hTg⟩:=uL e
  obtain ⟨C,f',fd',x',q',st',b1,b2,b3,b4,a2,a3,a4,a5,a6⟩:=(X.meths c g fn' hTg).ex
  exact ⟨C,f',fd',fn'.ps,2*k,b1,b3,a4,hr.mono (Qd _),ih _ fn' hTg f' fd' x' q' st' a2 a3 a5 a6⟩
 ·obtain ⟨fn',hTg⟩:=uL e
  obtain ⟨C,f',fd',x',q',st',b1,b2,b3,b4,a2,a3,a4,a5,a6⟩:=(X.meths c _ fn' hTg).ex
  exact ⟨C,f',fd',fn'.ps,2*k,b1,b2,b4 rfl,a4,hr,ih _ fn' hTg f' fd' x' q' st' a2 a3 a5 a6⟩
theorem iT {w:Pa}{T:BT.FK->Option BT.Fn}{G:Str->Option BT.W} (X:Txt P w K mg T G) :
 ∀ (k:Nat),(∀ (x:BT.FK) (fn:BT.Fn),T x=some fn->∀ (f:OR) (fd:PN) (nm qual:Str) (st:O9),Fun K nm qual st f fd->aN fn.ns fn.ps (aa st)->CSs (aa st) fn.ns fn.body (ay st)->gr K qual fd fn->cK P w K mg base CX0 (2*k) f fd fn.ps (spF P w K (BT.runN T G k x))) ∧
  ∀ L,(∃ fn,T (.l L)=some fn)->qw P w K mg base (2*k) L (BT.runN T G k (.l L)):=by
 intro k
 induction k with
 | zero =>
  refine ⟨fun x fn hT f fd nm qual st h2 h3 h5 h6=>?_,fun L hL=>?_⟩
  ·have no:∀ vs H Q E,¬ spF P w K (BT.runN T G 0 x) vs H Q E:=fun vs H Q E h=>by
    obtain ⟨m,ws,h,z,h',_,_,e,_⟩:=h
    cases e
   exact ⟨fun vs H Q E h=>absurd h (no vs H Q E),fun A outer s H args us vs Q E _ _ _ _ h=>absurd h (no vs H Q E)⟩
  ·intro A outer s H f us vs cvs m ws cs h z h' Q E hr e0 rv R rw nc la rc e zr
   cases e
 | succ k ihk =>
  obtain ⟨ih,il⟩:=ihk
  refine ⟨fun x fn hT f fd nm qual st h2 h3 h5 h6=>?_,fun L hL=>?_⟩
  ·show cK P w K mg base CX0 (2*k+1+1) f fd fn.ps (spF P w K (BT.runN T G (k+1) x))
   refine uM h2 h3 (fun vs H Q E h=>?_) fun cdv A outer s H vs Q E hcd hr hM h=>?_
   ·obtain ⟨m,ws,h,z,h',R,r,e,zr⟩:=h
    rw[BT.runN,hT] at e
    simp only at e
    split at e
    ·rename_i c;rw[r.length];exact c
    ·cases e
   ·obtain ⟨m,ws,h,z,h',R,r,e,zr⟩:=h
    rw[BT.runN,hT] at e
    simp only at e
    split at e
    ·have O:Ok (aJ CX0 P w K mg base fn.ns qual (aa st) f cdv A outer s H E).nox (BT.runN T G k) G (aa st) fn.ns:=by
      refine qI X ih il rfl rfl rfl rfl rfl rfl rfl h3.nd rfl hr Rf fun _ y hy=>?_
      obtain ⟨t1,t2,⟨c,Pt,t3,t4,t5,t6⟩,bm,ob,t7,t8,t9,t10,t11,t12⟩:=h6 y hy
      exact ⟨t2,⟨c,Pt,t3,hcd.symm.trans t4,Rl hM.kin t5,t6⟩,by show qual++".<locals>."=_;rw[t1],bm,ob,PR hM.kin hM.glob t7,t8,hM.kin _ _ t9,t10,t11,t12⟩
     refine ⟨_,sSs O (fun _=>rfl) h5,?_⟩
     cases gg:BT.evS (BT.runN T G k) G fn.body (BT.br fn.ns.length ws) h with
     | none=>rw[gg] at e;cases e
     | some fl =>
      rw[gg] at e
      refine ⟨m,_,h,fl,R,fq r,gg,?_⟩
      cases fl with
      | rt y g =>
       intro v H' m' x' R' r'
       obtain ⟨m2,y1,y2,y3⟩:=bZ e R x' R' r'
       exact zr v H' m2 y1 y2 y3
      | nx s' g =>
       intro σ' H' m' x' R' _
       obtain ⟨m2,y1,y2,y3⟩:=bZ (v:=.non) e R x' R' (.p .non)
       exact zr .non H' m2 y1 y2 y3
      | _=>cases e
    ·cases e
  ·obtain ⟨fn,hT⟩:=hL
   obtain ⟨hl,ns,bt,rfl,nt⟩:=X.lams L fn hT
   show qw P w K mg base (2*k+1+1) L (BT.runN T G (k+1) (.l L))
   refine GQ (F:=BT.runN T G k) (G:=G) hl (fun ws h r e=>?_) fun q sc cl f c' A outer s H nd hr=>qI X ih il rfl rfl rfl rfl rfl rfl rfl nd rfl hr Rf fun _ y hy=>absurd hy (by rw[nt y];decide)
   rw[BT.runN,hT] at e
   simp only at e
   split at e
   ·rename_i c;exact ⟨c,e⟩
   ·cases e
end BS
end
section
end
section
namespace BS
open PySem PySem.Spec PyProof.Rows L2
variable {B h h':Heap}{C:OR}{H H1:Hp}{P:OU}{zt:List (OR×Obj)}{s1:OP}{σ:L2.St}
inductive CX1 (P:OU) (w:Pa) (outer:List Env) (H:Hp) (s:OP) (E:XK) (e:Value) (s':OP):Prop where
 | mk (x C:OR) (H':Hp) (B G:Heap) (a0:Value) (he:e=.ref x) (os:s'.os=s.os) (bare:Tf s'.gens) (un:Un (frs outer) [] H H' s.heap s'.heap) (hk:HOk P w H' s'.heap) (fl:Heap.FlyingW B outer x (.ref C) a0 s'.heap)
  (cov:∀ b o,s.heap.get? b=some o->b∉frs outer->∃ o',B.get? b=some o'/\(H b=none->o'=o)) (hg:HOk P w H' G) (cv:∀ b o,H' b≠none->G.get? b=some o->B.get? b=some o) (q:E (.ref C) none H'):CX1 P w outer H s E e s'
theorem sI {w:Pa}{G:Heap} (x:HOk P w H G) (k:∀ b o,H b≠none->G.get? b=some o->B.get? b=some o) (st:B.StaysIn h):HOk P w H h:=fun b u e =>
 (x b u e).stay (fun c v hc q=>st c v (k c v (by rcases hc with rfl|hc<;>simp[*]) q)) (fun _ q=>q) fun _ _ q=>q
section
variable {CX:CXT}{P:OU}{w:Pa}{K:OM}{mg:Str->Option Value}{base:Heap}{N:List Str}{qual:Str}{scope:O6}{f:OR}{cd:Value}{A:PF}{outer:List Env}{s:OP}{H:Hp}{E:XK}
theorem sJ  (I:Inv (aJ CX P w K mg base N qual scope f cd A outer s H E) zt σ H1 s1)
 (cov:∀ b o,s.heap.get? b=some o->b∉frs outer->∃ o',B.get? b=some o'/\(H b=none->o'=o)) (st:B.StaysIn h') (up:s1.heap.UpToSlots h'):Un (frs outer) [] H H1 s.heap h':=by
 have fr:∀ b o,s.heap.get? b=some o->H b=none->b∈frs outer->∃ sl,h'.get? b=some { o with slots:=sl }:=fun b o e n hb=>by
  obtain ⟨sl,q⟩:=I.base.slot b o e n hb (by simp[aJ])
  obtain ⟨_,o2,ho,hd⟩:=I.ok.fW.mem hb
  have ho:s.heap.get? b=some o2:=ho
  rw[e] at ho
  cases ho
  obtain ⟨sl2,q2⟩:=up b _ q hd
  exact ⟨sl2,q2⟩
 refine ⟨fun b o e n hb _=>?_,fun b o e n hb _=>fr b o e n hb,fun b o e n _=>I.base.free b o e n (by simp[aJ]),fun b o e _=>?_,I.base.tups,I.base.frzs,I.base.tbls⟩
 ·obtain ⟨o',q,r⟩:=cov b o e hb
  rw[r n] at q
  exact st b o q
 ·by_cases hb:b∈frs outer
  ·obtain ⟨sl,q⟩:=fr b o e (I.ok.frf b hb) hb
   exact ⟨_,q⟩
  ·obtain ⟨o',q,_⟩:=cov b o e hb
   exact ⟨o',st b o' q⟩
theorem fO  (I:Inv (aJ CX P w K mg base N qual scope f cd A outer s H E) zt σ H1 s1) {b:OR}{o:Obj} (e:s.heap.get? b=some o) (hb:b∉frs outer) :
 b∉frs (aJ CX P w K mg base N qual scope f cd A outer s H E).stack:=fun z=>by
 rcases List.mem_cons.mp (I.gS b z) with q|q
 ·have:s.heap.objs.size<=b:=by rw[q];exact I.ok.above
  exact absurd (O2 e) (Nat.not_lt.mpr this)
 ·exact hb q
end
section
variable {P:OU}{w:Pa}{K:OM}{mg:Str->Option Value}{base:Heap}{N:List Str}{qual:Str}{scope:O6}{f:OR}{cd:Value}{A:PF}{outer:List Env}{s:OP}{H:Hp}{E:XK}
theorem C7 {x:OR}{args:List Value}{h2:Heap} (I:Inv (aJ (CX1 P w) P w K mg base N qual scope f cd A outer s H E) zt σ H1 s1)
 (hx:Sv s1.heap h2 x (.ref C) args) (hE:E (.ref C) none H1):(aJ (CX1 P w) P w K mg base N qual scope f cd A outer s H E).xe (.ref x) { s1 with heap:=h2 }:=by
 show wpAny (Pc P w) (A.deeper (Q4 qual scope s.heap.objs.size f cd)) (leaving (Q4 qual scope s.heap.objs.size f cd) (.ref x)) _ _ _
 have hin:∀ env∈(Q4 qual scope s.heap.objs.size f cd :: outer),∀ b,env.frame=some b->b∈frs (Q4 qual scope s.heap.objs.size f cd :: outer):=fun env he b hb=>List.mem_filterMap.mpr ⟨env,he,hb⟩
 refine wpAny_leaves_madeW (s:={ s1 with heap:=h2 }) (base:=RU s1.heap (frs (Q4 qual scope s.heap.objs.size f cd :: outer))) (h:=s1.heap) I.ok.frames rfl (fun b o q=>Ut _ q) (PySem.W.funFrames_hide I.stack hin) hx fun h' t x1 x2 x3 x4=>?_
 have cov:∀ b o,s.heap.get? b=some o->b∉frs outer->∃ o',(RU s1.heap (frs (Q4 qual scope s.heap.objs.size f cd :: outer))).get? b=some o'/\(H b=none->o'=o):=fun b o e hb=>by
  obtain ⟨o',q⟩:=I.base.there b o e (by simp[aJ])
  refine ⟨o',Si _ q (fO I e hb),fun n=>?_⟩
  have:=I.base.keep b o e n hb (by simp[aJ])
  rw[q] at this
  exact OV this
 have cv2:∀ b o,H1 b≠none->s1.heap.get? b=some o->(RU s1.heap (frs (Q4 qual scope s.heap.objs.size f cd :: outer))).get? b=some o:=fun b o n e=>Si _ e fun z=>n (I.kQ b z)
 exact ⟨x,C,H1,_,s1.heap,.ref t,rfl,I.os,I.bare,sJ I cov x1.1 ((Heap.UpToSlots.of_keeps hx.keeps).trans x4),sI I.hok cv2 x1.1,x1,cov,I.hok,cv2,hE⟩
theorem J4 {E1:XK} (hE:∀ C H',E1 (.ref C) none H'->E (.ref C) none H'):dW (CX1 P w) (aJ (CX1 P w) P w K mg base N qual scope f cd A outer s H E) E1:=by
 intro zt σ H1 s1 e s' I h
 obtain ⟨x,C,H',B,G,a0,rfl,e1,e2,un,ho,fl,cov,hg,cv2,hE1⟩:=h
 show wpAny (Pc P w) (A.deeper (Q4 qual scope s.heap.objs.size f cd)) (leaving (Q4 qual scope s.heap.objs.size f cd) (.ref x)) _ _ _
 have J:Inv (aJ (CX1 P w) P w K mg base N qual scope f cd A outer s H E) zt σ H' s':=I.xr (ch:=[]) e1 un ho e2 (fun b z=>absurd z (by simp))
 refine wpAny_leaves_onW (Q:=fun _ s''=>CX1 P w outer H s E (.ref x) s'') I.ok.frames rfl fl fun h' x1 x2=>?_
 have cov':∀ b o,s.heap.get? b=some o->b∉frs outer->∃ o',B.get? b=some o'/\(H b=none->o'=o):=fun b o e hb=>by
  obtain ⟨o1,q⟩:=I.base.there b o e (by simp[aJ])
  obtain ⟨o2,q2,r2⟩:=cov b o1 q (fO I e hb)
  refine ⟨o2,q2,fun n=>?_⟩
  have k:=I.base.keep b o e n hb (by simp[aJ])
  rw[q] at k
  rw[r2 (I.base.free b o e n (by simp[aJ]))]
  exact OV k
 exact ⟨x,C,H',B,G,a0,rfl,J.os,J.bare,sJ J cov' x1.1 x2,sI hg cv2 x1.1,x1,cov',hg,cv2,hE C H' hE1⟩
end
theorem nV {i:Int} (h:i.natAbs < 2 ^ 64):i.natAbs.log2 < 1920:=by
 by_cases z:i.natAbs=0
 ·rw[z];decide
 ·have:=(Nat.log2_lt z).mpr h
  lia
structure mD (K:OM) (C:OR):Prop where
 ok:TN K C [.type "ValueError",.type "Exception",.type "BaseException",.type "object"] "ValueError.__new__"=true
inductive Ka (K:OM) (C:OR) (h:Heap):Prop where
 | mk (bm:List Value) (N:OR) (nm qn:Str) (bs:List Value) (hdct:Bool) (sn:List Str) (sub:List Value) (ab:Bool) (col:Option Bool) (dd:Option OR) (k0 k1 k2 k3 k5:Option Value) (mN:Str->Option Value) (hC:h.get? C=some (S9 nm qn C N bs bm hdct sn sub ab col dd k0 k1 k2 k3 k5 "ValueError.__new__"))
  (hN:h.Ns N mN) (hni:mN "__init__"=none) (T:OwnTail h [.type "ValueError",.type "Exception",.type "BaseException",.type "object"] bm) (lC:K.lookup C=some (S9 nm qn C N bs bm hdct sn sub ab col dd k0 k1 k2 k3 k5 "ValueError.__new__")):Ka K C h
theorem mD.obj {K:OM} (X:K.In h) (q:mD K C):Ka K C h:=by
 have q:=q.ok
 unfold TN at q
 split at q
 ·rename_i dd cd sl ho
  split at q
  ·rename_i C' bm k0 k1 k2 k3 n k5 hm hs
   simp only[OQ,beq_iff_eq,QM] at q
   obtain ⟨⟨⟨⟨⟨rfl,rfl⟩,hdel⟩,ht⟩,hok⟩,hni⟩:=q
   obtain ⟨nm,bs,mro,ns,qn,hd,sn,sub,ab,col,del⟩:=cd
   dsimp only at hm hdel hok hni
   subst hm hdel
   have hsl:sl=#[k0,k1,k2,k3,some (.builtin "ValueError.__new__"),k5]:=by
    obtain ⟨l⟩:=sl
    simp only at hs
    rw[hs]
   subst hsl
   exact ⟨bm,ns,nm,qn,bs,hd,sn,sub,ab,col,dd,k0,k1,k2,k3,k5,_,X _ _ ho,.of_isNs (PySem.W.isNs_of_in X hok),PySem.W.nsMap_none_of_in X hok hni,PySem.W.tail_of_in X ht,ho⟩
  ·cases q
 ·cases q
inductive wH:V->Prop where
 | int {i:Int} (h:i.natAbs < 2 ^ 64):wH (.int i)
 | str {x:Str} (h:(reprText x).length<=1921):wH (.str x)
 | non:wH .non
 | bl {b:Bool}:wH (.bl b)
theorem GR {w:Pa}{v:V}{u:Value} (h:wH v) (r:RelV v u):∃ x:Str,x.length<=1921/\∀ {A:PF}{E:Value->OP->Prop}{s:OP}{Q:Value->OP->Prop},Q (.str x s.toks) { s with toks:=s.toks+1 }->wpAny (Pc P w) A (pyReprObj u) Q E s:=by
 have lz:(1921:Nat)<=sizeLine:=by decide
 cases h with
 | @int i hi =>
  obtain ⟨tk,rfl⟩:=r
  have li:(O3 (toString i)).length<=1921:=by
   rw[PySem.ofString_length]
   exact int_text_length_le (by decide) (nV hi)
  exact ⟨_,li,fun q=>SB (T:="int") rfl PySem.F.slot_int_repr PySem.F.entry_int_repr (PySem.F.args_int_repr_1 _) (gives_int_repr i tk (nV hi)) q rfl (PL li lz)⟩
 | @str x hx =>
  obtain ⟨tk,rfl⟩:=r
  exact ⟨_,hx,fun q=>wpAny_pyReprObj_str q (PL hx lz)⟩
 | non =>
  obtain rfl:=r
  exact ⟨_,by decide,fun q=>SB (T:="NoneType") rfl PySem.F.slot_NoneType_repr PySem.F.entry_NoneType_repr (PySem.F.args_NoneType_repr_1 _) gives_none_repr q rfl (by decide)⟩
 | @bl b =>
  obtain rfl:=r
  exact ⟨_,by cases b<;>decide,fun q=>SB (T:="bool") rfl PySem.F.slot_bool_repr PySem.F.entry_bool_repr (PySem.F.args_bool_repr_1 _) (gives_bool_repr b) q rfl (by cases b<;>decide)⟩
theorem zG {X:Cx}{x:Str}{c:Str}{e:ON}{t:TE}{j:Nat}{np p1 p2 p3 cpos pos:Pos} (hg:Gl X x) (hn:aH x=true) (hm:X.mg x=some (.ref C)) (hq:mD X.K C) (hc:X.calm=true) (hl:c.length<=1000) (he:PE X e t)
 {s:OP}{Q:Flow->OP->Prop} (I:Inv X zt σ H s)
 (h:t σ H fun v H1=>wH v/\∀ s1 h2 a args,Inv X zt σ H1 s1->Sv s1.heap h2 a (.ref C) args->X.xe (.ref a) { s1 with heap:=h2 }) :
 wpAny (Pc X.prog X.w) X.A (exec (.Raise (some (.Call (.Name x np) [.JoinedStr [.Constant (.str c) j p1,.FormattedValue e 114 none p2] p3] [] cpos)) none pos) X.env) Q X.xe s:=by
 obtain ⟨bm,N,nm,qn,bs,hdct,sn,sub,ab,col,dd,k0,k1,k2,k3,k5,mN,hC,hN,hni,T,_⟩:=hq.obj I.mod.kin
 have hdb:(x==("__debug__":Str))=false:=by
  unfold aH at hn
  simp only[OQ] at hn
  simpa using hn.1.1
 refine wpAny_Raise_call_subT (C:=C) (nm:=nm) (q:=qn) (N:=N) (bs:=bs) (bm:=bm) (hdct:=hdct) (sn:=sn) (sub:=sub) (ab:=ab) (col:=col) (dd:=dd) (k0:=k0) (k1:=k1) (k2:=k2) (k3:=k3) (k5:=k5)
  PySem.F.excBase_ValueError (mN:=mN) (T.hasType PySem.F.excBase_ValueError.hasBase) (I.ok.hd hc) rfl hni (fE I hg hm ⟨rfl,?_⟩ hdb)
 refine Ux (P4 (wpAny_JoinedStr (pos:=p3) ?_))
 show wpAny _ _ (eval (.Constant (.str c) j p1) X.env) _ _ s
 have lz:(1000:Nat)+1921<=sizeLine:=by decide
 have l0:(SR++c).length<=1000:=by rw[strLen_append];show 0+c.length<=1000;lia
 refine UL ⟨_,_,rfl,PL l0 (by lia),?_⟩
 show wpAny _ _ (eval (.FormattedValue e 114 none p2) X.env) _ _ _
 refine wpAny_FormattedValue_repr (thn (he zt _ σ H _ (I.tok _) h) fun u s1 zq=>?_)
 obtain ⟨v,H1,I1,r1,hv,zr⟩:=zq
 obtain ⟨tx,li,wr⟩:=GR (P:=X.prog) (w:=X.w) hv r1
 refine wr ?_
 have l1:((SR++c)++tx).length<=sizeLine:=by rw[strLen_append];lia
 have fin:∀ (tt:Tok) (s2:OP),Inv X zt σ H1 s2->∃ y t,(R8 (tx) tt)=.str y t/\(SR++c++y).length<=sizeLine/\Joins (Pc X.prog X.w) X.A X.xe [] (SR++c++y) (fun out s₁=>out.length<=sizeLine/\wpAny (Pc X.prog X.w) X.A (Se (QA cpos (Pe [] X.env))) (fun vs s₂=>(⟨R8 out s₁.toks :: vs,[]⟩:Args).kw=[]/\(⟨R8 out s₁.toks :: vs,[]⟩:Args).pos.length<=sizeLine/\s₂.heap.get? C=some (S9 nm qn C N bs bm hdct sn sub ab col dd k0 k1 k2 k3 k5 "ValueError.__new__")/\s₂.heap.Ns N mN/\OwnTail s₂.heap [.type "ValueError",.type "Exception",.type "BaseException",.type "object"] bm ∧
  ∀ h' e,Sv s₂.heap h' e (.ref C) (⟨R8 out s₁.toks :: vs,[]⟩:Args).pos->X.xe (.ref e) { s₂ with heap:=h' }) X.xe { s₁ with toks:=s₁.toks+1 }) s2:=fun tt s2 J=>by
  refine ⟨_,tt,rfl,l1,l1,QL ?_⟩
  exact ⟨rfl,by show 1<=sizeLine;decide,J.bk _ _ hC,hN.keeps J.bk,T.keeps J.bk,fun h' a hx=>zr _ h' a _ (J.tok _) hx⟩
 refine wpAny_formatField_str (fin _ _ (I1.tok _)) (fin _ _ ((I1.tok _).tok _)) (PL li (by lia))
section
variable {CX:CXT}{P:OU}{w:Pa}{K:OM}{mg:Str->Option Value}{base:Heap}{N:List Str}{qual:Str}{scope:O6}{f:OR}{cd:Value}{A:PF}{outer:List Env}{s:OP}{H:Hp}{E:XK}
theorem uN {c:OR}{v:Option Value} (x:h.IsCell c v) (u:h.UpToSlots h'):h'.IsCell c v:=by
 obtain ⟨o,ho,hd⟩:=x
 obtain ⟨sl,q⟩:=u c o ho fun vs z=>by rw[hd] at z;cases z
 exact ⟨_,q,hd⟩
theorem uO {H2:Hp}{s2:OP}{G:Heap} (I:Inv (aJ CX P w K mg base N qual scope f cd A outer s H E) zt σ H1 s1) (J:Inv (aJ CX P w K mg base N qual scope f cd A outer s H E) zt σ H2 s2)
 (cov:∀ b o,s1.heap.get? b=some o->b∉frs (aJ CX P w K mg base N qual scope f cd A outer s H E).stack->∃ o',B.get? b=some o'/\(H1 b=none->o'=o)) (hg:HOk P w H2 G) (cv2:∀ b o,H2 b≠none->G.get? b=some o->B.get? b=some o)
 (st:B.StaysIn h') (up:s2.heap.UpToSlots h'):Inv (aJ CX P w K mg base N qual scope f cd A outer s H E) zt σ H2 { s2 with heap:=h' }:=by
 have cov':∀ b o,s.heap.get? b=some o->b∉frs outer->∃ o',B.get? b=some o'/\(H b=none->o'=o):=fun b o e hb=>by
  obtain ⟨o1,q⟩:=I.base.there b o e (by simp[aJ])
  obtain ⟨o2,q2,r2⟩:=cov b o1 q (fO I e hb)
  refine ⟨o2,q2,fun n=>?_⟩
  have k:=I.base.keep b o e n hb (by simp[aJ])
  rw[q] at k
  rw[r2 (I.base.free b o e n (by simp[aJ]))]
  exact OV k
 refine ⟨J.ok,J.os,J.bare,sJ J cov' st up,?_,fun x c e=>?_,J.free,J.freeC,fun p hp=>?_,sI hg cv2 st,J.len⟩
 ·obtain ⟨m,hn,hl⟩:=J.loc
  refine ⟨m,up.ns hn,fun i x v h1 h2 h3=>?_⟩
  obtain ⟨u,r,q⟩:=hl i x v h1 h2 h3
  refine ⟨u,r,?_⟩
  rcases q with q|⟨k,c,e,z⟩
  ·exact .inl q
  ·exact .inr ⟨k,c,e,uN z up⟩
 ·obtain ⟨v,z⟩:=J.cell x c e
  exact ⟨v,uN z up⟩
 ·obtain ⟨e,n,ne,nf,d⟩:=J.pin p hp
  obtain ⟨e1,n1,ne1,nf1,d1⟩:=I.pin p hp
  have ns:p.1∉frs (aJ CX P w K mg base N qual scope f cd A outer s H E).stack:=fun z=>by
   rcases List.mem_cons.mp (I.gS p.1 z) with q|q
   ·exact ne1 q
   ·exact nf1 q
  obtain ⟨o',q,r⟩:=cov p.1 p.2 e1 ns
  rw[r n1] at q
  exact ⟨st _ _ q,n,ne,nf,d⟩
end
section
variable {M:Model}{A:PF}{E:Value->OP->Prop}
variable {nm q nm2 q2:Str}{C N D N2:OR}{bs bm bs2 bm2:List Value}{hdct hdct2:Bool}{sn sn2:List Str}{sub sub2:List Value}{ab ab2:Bool}{col col2:Option Bool}{dd dd2:Option OR}{k0 k1 k2 k3 k5 j0 j1 j2 j3 j5:Option Value}{newId newId2:String}
theorem mE {g:Array GenState}{d:Drawn}{t:Nat}{os:OsState}{e:OR}{oe:Obj}{Q:Bool->OP->Prop}
 (hC:h.get? C=some (S9 nm q C N bs bm hdct sn sub ab col dd k0 k1 k2 k3 k5 newId)) (hD:h.get? D=some (S9 nm2 q2 D N2 bs2 bm2 hdct2 sn2 sub2 ab2 col2 dd2 j0 j1 j2 j3 j5 newId2)) (he:h.get? e=some oe) (hcls:oe.cls=.ref C) (hbase:bm2.contains (.type "BaseException")=true)
 (hcD:(Pp C :: bm).contains (.ref D)=true) (hq:Q true ⟨h,g,d,t,os⟩):wpAny M A (excMatches (.ref e) (.ref D)) Q E ⟨h,g,d,t,os⟩:=by
 have hcB:(Pp D :: bm2).contains (.type "BaseException")=true:=by rw[U0,hbase,Bool.or_true]
 have f:=tc_notTuple
 unfold excMatches
 repeat (first|(with_reducible refine wpAny_loadPart_at he ?_;rw[hcls])|with_reducible refine wpAny_loadPart_at hD ?_|(with_reducible refine wpAny_isSubtype_exc hD ?_;rw[hcB])|(with_reducible refine wpAny_isSubtype_exc hC ?_;rw[hcD])|wp_step)
 exact hq
end
theorem zH {X:Cx}{s:OP}{m':Str->Option Value}{tk:Nat} (I:Inv X zt σ H s) (hn:h'.Ns X.env.locals m') (sb:Q2 X.env.locals s.heap h') :
 Inv X zt (O7 X.N.length none) H { s with heap:=h',toks:=tk }:=by
 have ne:∀ b o,X.s₀.heap.get? b=some o->b≠X.env.locals:=fun b o e z=>by
  have:=I.ok.above
  rw[← z] at this
  exact absurd (O2 e) (Nat.not_lt.mpr this)
 have nf:∀ b u,H b=some u->b≠X.env.locals:=fun b u e z=>by rw[z,I.free] at e;cases e
 refine ⟨I.ok,I.os,I.bare,⟨fun b o e n hb hx=>(sb.2 b (ne b o e)).trans (I.base.keep b o e n hb hx),fun b o e n hb hx=>?_,I.base.free,fun b o e hx=>?_,I.base.tups,I.base.frzs,I.base.tbls⟩,⟨m',hn,fun i x v h1 h2 h3=>?_⟩,fun x c e=>?_,I.free,I.freeC,fun p hp=>?_,fun b u e=>?_,by simp⟩
 ·obtain ⟨sl,q⟩:=I.base.slot b o e n hb hx
  exact ⟨sl,(sb.2 b (ne b o e)).trans q⟩
 ·obtain ⟨o',q⟩:=I.base.there b o e hx
  exact ⟨o',(sb.2 b (ne b o e)).trans q⟩
 ·rw[Qg] at h2
  split at h2<;>cases h2
 ·obtain ⟨v,o,ho,hd⟩:=I.cell x c e
  exact ⟨v,o,(sb.2 c (I.cne x c e)).trans ho,hd⟩
 ·obtain ⟨e,n,n1,n2,d⟩:=I.pin p hp
  exact ⟨(sb.2 p.1 n1).trans e,n,n1,n2,d⟩
 ·exact (I.hok b u e).stay (fun c v hc q=>(sb.2 c (by rcases hc with rfl|hc;exact nf _ _ e;exact nf _ _ hc)).trans q) (fun _ q=>q) fun _ _ q=>q
noncomputable def sL (K:OM) (C D:OR):Bool:=match K.lookup C with
 | some ⟨_,_,.cls cd,_⟩=>cd.mro.contains (.ref D)
 | _=>false
theorem obj_some {w:Pa}{a:OR}{o:HO} (x:d8 P w H h a o):∃ q,h.get? a=some q:=by
 cases o with
 | lst xs=>obtain ⟨_,_,_,_,e⟩:=x;exact ⟨_,e⟩
 | tup xs=>obtain ⟨_,_,_,ob,e,_⟩:=x;exact ⟨_,e⟩
 | set S n=>obtain ⟨o,_,_,_,e,_⟩:=x;exact ⟨_,e⟩
 | ins C dx fs=>obtain ⟨_,_,_,e,_⟩:=x;exact ⟨_,e⟩
 | own y=>exact x
 | xd fs=>obtain ⟨_,⟨_,_,_,e,_⟩,_⟩:=x;exact ⟨_,e⟩
 | rng lo hi=>obtain ⟨_,_,_,e⟩:=x;exact ⟨_,e⟩
 | frz ob u=>obtain ⟨e,_⟩:=x;exact ⟨_,e⟩
 | tbl ps=>exact ⟨_,show h.get? a=some _ from x⟩
 | met f y=>exact ⟨_,show h.get? a=some _ from x⟩
 | ext φ=>exact x.2.1
 | _=>obtain ⟨_,_,_,_,o,_,_,e,_⟩:=x;exact ⟨_,e⟩
section
variable {CX:CXT}{P:OU}{w:Pa}{K:OM}{mg:Str->Option Value}{base:Heap}{N:List Str}{qual:Str}{scope:O6}{f:OR}{cd:Value}{A:PF}{outer:List Env}{s0:OP}{H0:Hp}{E E1:XK}
end
end BS
end
section
namespace BT
open PySem
noncomputable abbrev XF:=FK->List W->HH->Option (Str×HH)
noncomputable def rsM (R:XF) (m:Str) (ea:HH->Option (List W×HH)) (x:W) (h:HH):Option (Str×HH):=match x with
 | .o n=>(match oat h n with
  | some (c,fs)=>(match aX m fs with
   | none=>bnd (ea h) fun ws h2=>R (.m c m) (.o n :: ws) h2
   | some _=>none)
  | none=>none)
 | _=>none
noncomputable def GS (R:XF) (m:Str) (ea:HH->Option (List W×HH)) (L:Nat) (ocs:Option (List Cp)) (x:W) (h:HH):Option (Str×HH):=match x with
 | .o n=>(match oat h n with
  | some (c,fs)=>(match aX m fs with
   | none=>bnd (ea h) fun ws h2=>(match ocs with
    | some cs=>R (.m c m) (.o n :: (ws++[.c (.l L) cs])) h2
    | none=>none)
   | some _=>none)
  | none=>none)
 | _=>none
noncomputable def rsI (x:Option (W×HH)) (a b:HH->Option (Str×HH)):Option (Str×HH):=match x with
 | some (.p (.bl true),h)=>a h
 | some (.p (.bl false),h)=>b h
 | _=>none
noncomputable def rsC (x:Option (List W×HH)) (k:List W->HH->Option (Str×HH)) (d:Option (Str×HH)):Option (Str×HH):=match x with
 | some (ws,g)=>k ws g
 | none=>d
noncomputable def rsA (x:Option (W×HH)) (k:HH->Option (Str×HH)) (d:Option (Str×HH)):Option (Str×HH):=match x with
 | some (_,g)=>k g
 | none=>d
noncomputable def nW:D->Bool
 | .int i=>big i
 | .str x=>decide ((reprText x).length<=1921)
 | .non=>true
 | .bl _=>true
 | _=>false
@[simp] theorem LN (i:Int):nW (.int i)=big i:=rfl
@[simp] theorem LP:nW .non=true:=rfl
@[simp] theorem LQ (b:Bool):nW (.bl b)=true:=rfl
@[simp] theorem LR (x:Str):nW (.str x)=decide ((reprText x).length<=1921):=rfl
section
variable (F:FK->List W->HH->Option (W×HH)) (R:XF) (D:Str->Bool) (G:Str->Option W)
mutual
noncomputable def rsE:E->Sl->HH->Option (Str×HH)
 | .meth o m as,s,h=>bnd (ev F G o s h) (rsM R m (evs F G as s))
 | .methL o m as L fv,s,h=>bnd (ev F G o s h) (GS R m (evs F G as s) L (caps s fv))
 | .bi _ _ as,s,h=>qJ as s h
 | .call f as,s,h=>rsC (evs F G as s h) (R (.f f)) (if D f then qJ as s h else none)
 | .idx a _,s,h=>rsE a s h
 | .bin _ a _,s,h=>rsE a s h
 | .cmp _ a _,s,h=>rsE a s h
 | .ite c a b,s,h=>rsI (ev F G c s h) (rsE a s) (rsE b s)
 | _,_,_=>none
noncomputable def qJ:Es->Sl->HH->Option (Str×HH)
 | .cons a r,s,h=>rsA (ev F G a s h) (qJ r s) (rsE a s h)
 | .nil,_,_=>none
end
noncomputable def rsS:S->Sl->HH->Option (Str×HH)
 | .rai c e,s,h=>(match ev F G e s h with
  | some (.p d,h')=>if nW d then some (c,h') else none
  | _=>none)
 | .seq a b,s,h=>(match evS F G a s h with
  | some (.nx s' h')=>rsS b s' h'
  | some _=>none
  | none=>rsS a s h)
 | .ife c a b,s,h=>rsI (ev F G c s h) (rsS a s) (rsS b s)
 | .ex e,s,h=>rsE F R D G e s h
 | .ret e,s,h=>rsE F R D G e s h
 | .set _ _ e,s,h=>rsE F R D G e s h
 | .whl c _,s,h=>rsE F R D G c s h
 | _,_,_=>none
end
noncomputable def dk (T:FK->Option Fn) (f:Str):Bool:=(T (.f f)).isSome
noncomputable def dw (T TX:FK->Option Fn) (G:Str->Option W):Nat->FK->List W->HH->Option (Str×HH)
 | 0,_,_,_=>none
 | k+1,f,ws,h=>match TX f with
  | some fn=>if ws.length=fn.ps.length then rsS (runN T G k) (dw T TX G k) (dk T) G fn.body (br fn.ns.length ws) h else none
  | none=>none
theorem gE {T TX:FK->Option Fn}{G:Str->Option W}{f:FK}{fn:Fn}{ws:List W}{h:HH}{k:Nat} (hT:TX f=some fn) (hl:ws.length=fn.ps.length) :
 dw T TX G (k+1) f ws h=rsS (runN T G k) (dw T TX G k) (dk T) G fn.body (br fn.ns.length ws) h:=by
 rw[dw,hT];exact if_pos hl
end BT
end
section
namespace BS
open PySem PySem.Spec PyProof.Rows L2
variable {F:FT}{H:Hp}{K:OM}{L k:Nat}{N ps:List Str}{P:OU}{X:Cx}{as:BT.Es}{base:Heap}{c m nm qual tn:Str}{cpos p1 p2 p3 pos:Pos}{es:List ON}{f:OR}{fd:PN}{fn:BT.Fn}{h:BT.HH}{mg:Str->Option Value}{o:BT.E}{zt:List (OR×Obj)}{r:Str×BT.HH}{s:OP}{sc scope:O6}{sp:Sp}{st:O9}{xe':Value->OP->Prop}{σ:L2.St}
def XW (K:OM) (E:XK) (m:List OR) (H:Hp) (c:Str) (h':BT.HH):Prop:=∀ H' m',Ext m H m' H'->RH K m' H' h'->∀ C,CN K c C->E (.ref C) none H'
theorem XW.ext {E:XK}{m m1:List OR}{H1:Hp}{h':BT.HH} (w:XW K E m H c h') (x:Ext m H m1 H1):XW K E m1 H1 c h':=fun H' m' y R C hC=>w H' m' (x.trans y) R C hC
inductive spX (P:OU) (w:Pa) (K:OM) (g:List BT.W->BT.HH->Option (Str×BT.HH)) (vs:List V) (H:Hp) (Q:VK) (E:XK):Prop where
 | mk (m:List OR) (ws:List BT.W) (h:BT.HH) (c:Str) (h':BT.HH) (R:RH K m H h) (r:RWs P w K m H vs ws) (e:g ws h=some (c,h')) (p:XW K E m H c h'):spX P w K g vs H Q E
inductive Kc (P:OU) (w:Pa) (K:OM) (mg:Str->Option Value) (base:Heap) (A:PF) (f:Str) (sp:Sp):Prop where
 | mk (fa:OR) (fd:PN) (ps:List Str) (k:Nat) (h1:mg f=some (.ref fa)) (h2:Po K (.ref fa)=true) (h3:Binds K fd ps []) (h4:bx k A) (h5:cK P w K mg base (CX1 P w) k fa fd ps sp):Kc P w K mg base A f sp
structure OkX (X:Cx) (R:BT.XF) (D:Str->Bool) (E:XK):Prop where
 meth:∀ (c m:Str) ws h r,R (.m c m) ws h=some r->OkM X.prog X.w X.K X.mg X.base X.A (CX1 X.prog X.w) c m (spX X.prog X.w X.K (R (.m c m)))
 call:∀ (f:Str) ws h r,R (.f f) ws h=some r->Kc X.prog X.w X.K X.mg X.base X.A f (spX X.prog X.w X.K (R (.f f)))
 glo:∀ f,D f=true->∃ fa,X.mg f=some (.ref fa)/\Po X.K (.ref fa)=true
 pass:dW (CX1 X.prog X.w) X E
def PXE (X:Cx) (e:ON) (t:L2.St->Hp->Prop):Prop:=∀ (zt:List (OR×Obj)) (s:OP) (σ:L2.St) (H:Hp) (Q:Value->OP->Prop),Inv X zt σ H s->t σ H->wpAny (Pc X.prog X.w) X.A (eval e X.env) Q X.xe s
def PXS (X:Cx) (st:O9) (t:L2.St->Hp->Prop):Prop:=∀ (zt:List (OR×Obj)) (s:OP) (σ:L2.St) (H:Hp) (Q:Flow->OP->Prop),Inv X zt σ H s->t σ H->wpAny (Pc X.prog X.w) X.A (exec st X.env) Q X.xe s
def PXA (X:Cx) (es:List ON) (t:L2.St->Hp->Prop):Prop:=∀ (pos:Pos) (zt:List (OR×Obj)) (s:OP) (σ:L2.St) (H:Hp) (Q:List Value->OP->Prop),Inv X zt σ H s->t σ H->wpAny (Pc X.prog X.w) X.A (Se (QA pos (Pe es X.env))) Q X.xe s
def Nk (X:Cx) (st:List O9) (t:L2.St->Hp->Prop):Prop:=∀ (zt:List (OR×Obj)) (s:OP) (σ:L2.St) (H:Hp) (Q:Flow->OP->Prop),Inv X zt σ H s->t σ H->wpAny (Pc X.prog X.w) X.A (execs st X.env) Q X.xe s
inductive xD (X:Cx) (E:XK) (g:BT.Sl->BT.HH->Option (Str×BT.HH)) (σ:L2.St) (H:Hp):Prop where
 | mk (m:List OR) (s:BT.Sl) (h:BT.HH) (c:Str) (h':BT.HH) (R:RH X.K m H h) (S:RS X.prog X.w X.K m H σ s) (e:g s h=some (c,h')) (p:XW X.K E m H c h'):xD X E g σ H
section
variable {F:FT}{R:BT.XF}{D:Str->Bool}{G:Str->Option BT.W}{E:XK}
theorem C8 {ea:BT.HH->Option (List BT.W×BT.HH)}{x:BT.W} (e:BT.rsM R m ea x h=some r) :
 ∃ n c fs ws g,x=.o n/\BT.oat h n=some (c,fs)/\(BT.aX m fs).isNone=true/\ea h=some (ws,g)/\R (.m c m) (.o n :: ws) g=some r:=by
 unfold BT.rsM at e
 cases x with
 | o n =>
  simp only at e
  cases g1:BT.oat h n with
  | none=>rw[g1] at e;cases e
  | some q =>
   obtain ⟨c,fs⟩:=q
   rw[g1] at e
   simp only at e
   cases g2:BT.aX m fs with
   | some _=>rw[g2] at e;cases e
   | none =>
    rw[g2] at e
    simp only at e
    obtain ⟨ws,g,e1,e2⟩:=ak e
    exact ⟨n,c,fs,ws,g,rfl,g1,by rw[g2];rfl,e1,e2⟩
 | _=>cases e
theorem zI  (O:Ok X F G sc N) (O1:OkX X R D E) {oe:ON}{apos:Pos} (hb:aL oe=true) (hl:(apos.endLine==cpos.line)=true) (hlen:es.length < 20) (ho:PE X oe (tD X F G o)) (hc:CEs sc N as es) (ha:PA X es (tDs X F G as)) :
 PXE X (.Call (.Attribute oe m apos) es [] cpos) (xD X E (BT.rsE F R D G (.meth o m as))):=by
 have hst:=bY hc
 intro zt s σ H Q I q
 obtain ⟨m0,s',h,c0,h',RR,S,ee,zr⟩:=q
 simp only[BT.rsE] at ee
 obtain ⟨x,h1,e1,e2⟩:=ak ee
 obtain ⟨n,c,fs,ws,g,rfl,e3,e4,e5,e6⟩:=C8 e2
 obtain ⟨C,ga,fd,ps,k,hC,hM,hB,hR,ok⟩:=O1.meth _ _ _ _ _ e6
 have key:tQ C m (spX X.prog X.w X.K (R (.m c m))) [] E (tD X F G o) (tDs X F G as) σ H (fun _ _=>False):=by
  refine ⟨m0,s',h,.o n,h1,RR,S,e1,fun v H1 m1 x1 R1 r1=>?_⟩
  cases r1 with
  | @o a _ hn =>
   obtain ⟨C',dx,vs,q1,q2,q3⟩:=R1.lS _ _ _ _ hn e3
   cases q2.cn.inj hC.cn
   refine ⟨a,dx,vs,rfl,q1,q3.none e4,m1,s',h1,ws,g,R1,S.ext x1,e5,fun us H2 m2 x2 R2 r2=>?_⟩
   show spX X.prog X.w X.K (R (.m c m)) (V.ref a :: (us++[])) H2 _ E
   rw[Pr]
   exact ⟨m2,.o n :: ws,g,c0,h',R2,.cons (.o (x2.ix hn)) r2,e6,zr.ext (x1.trans x2)⟩
 have fin:∀ u s2,EP X zt σ (fun _ _=>False) u s2->Q u s2:=fun u s2 ⟨_,_,_,_,z⟩=>z.elim
 cases es with
 | nil =>
  cases as with
  | cons a r=>cases hc
  | nil =>
   refine thn (qb ho hC.cls hM ok hR hB .nil O1.pass (gq hb hst hlen hl) zt s σ H (fun _ _=>False) I ?_) fin
   obtain ⟨m,s,h,z,h',R,S,ee,zr⟩:=key
   refine ⟨m,s,h,z,h',R,S,ee,fun v H1 m1 x1 R1 r1=>?_⟩
   obtain ⟨a,dx,fs,q1,q2,q3,q4⟩:=zr v H1 m1 x1 R1 r1
   exact ⟨a,dx,fs,q1,q2,q3,fM q4⟩
 | cons e es =>
  have hst':=hst
  simp only[aq,OQ] at hst'
  exact thn (tS ho hC.cls hM ok hR hB .nil O1.pass ha (aj hst'.1) (aI hst'.2) (gq hb hst hlen hl) zt s σ H (fun _ _=>False) I key) fin
end
noncomputable def noX:BT.E->Bool
 | .var _ _=>true
 | .cst _=>true
 | .lst _ _=>true
 | .tup _=>true
 | .lsr _ _ _=>true
 | _=>false
section
variable {F:FT}{R:BT.XF}{D:Str->Bool}{G:Str->Option BT.W}{E:XK}
theorem GT {a:BT.E} (h:noX a=true) (s:BT.Sl) (g:BT.HH):BT.rsE F R D G a s g=none:=by
 cases a<;>first|(cases h;done)|rfl
theorem zJ {ea:BT.HH->Option (List BT.W×BT.HH)}{ocs:Option (List BT.Cp)}{x:BT.W} (e:BT.GS R m ea L ocs x h=some r) :
 ∃ n c fs ws g cs,x=.o n/\BT.oat h n=some (c,fs)/\(BT.aX m fs).isNone=true/\ea h=some (ws,g)/\ocs=some cs/\R (.m c m) (.o n :: (ws++[.c (.l L) cs])) g=some r:=by
 unfold BT.GS at e
 cases x with
 | o n =>
  simp only at e
  cases g1:BT.oat h n with
  | none=>rw[g1] at e;cases e
  | some q =>
   obtain ⟨c,fs⟩:=q
   rw[g1] at e
   simp only at e
   cases g2:BT.aX m fs with
   | some _=>rw[g2] at e;cases e
   | none =>
    rw[g2] at e
    simp only at e
    obtain ⟨ws,g,e1,e2⟩:=ak e
    cases ocs with
    | none=>cases e2
    | some cs=>exact ⟨n,c,fs,ws,g,cs,rfl,g1,by rw[g2];rfl,e1,rfl,e2⟩
 | _=>cases e
theorem nX  (O:Ok X F G sc N) (O1:OkX X R D E) (hf:∀ x,X.fn x=true) {bt:BT.E}{fv:List (Nat×Str)}{oe be e0:ON}{rest:List ON}{apos lp:Pos}{pa:Qo}{ns:List Str}
 (hl:BT.lQ L=some ⟨ns,ns,.ret bt⟩) (hp:LPa pa ps) (hn:ns=ps++fv.map (·.2)) (hk:kB ps (fv.map (·.2)) scope=true) (hv:su sc N fv=true) (ht:N.contains (BT.bA (BT.qo L))=true) (hc:CE' scope ns bt be) (h3:aL oe=true) (h6:(apos.endLine==cpos.line)=true)
 (hO:PE X oe (tD X F G o)) (hst:aq (e0 :: rest)=true) (hlen:(e0 :: rest).length < 20) (hS:zw X F G as (e0 :: rest) (.Lambda pa be scope lp)) :
 PXE X (.Call (.Attribute oe m apos) (e0 :: rest) [] cpos) (xD X E (BT.rsE F R D G (.methL o m as L fv))):=by
 intro zt s σ H Q I q
 obtain ⟨m0,s',h,c0,h',RR,S,ee,zr⟩:=q
 simp only[BT.rsE] at ee
 obtain ⟨x,h1,e1,e2⟩:=ak ee
 obtain ⟨n,c,fs,ws,g,cs,rfl,e3,e4,e5,e6,e7⟩:=zJ e2
 obtain ⟨C,ga,fd,ps',k,hC,hM,hB,hR,ok⟩:=O1.meth _ _ _ _ _ e7
 refine nU O hf hl hp hn hk hv ht hc h3 h6 hO hst hlen hS I RR S hC hM e1 e3 e4 e5 e6 fun a f us vs m2 H3 s3 cl P=>?_
 obtain ⟨I3,hnone,hobj,hfrm,le,R4,w4,e04,rv4,xx,rh⟩:=P
 have C5:∀ {m5:List OR}{H5:Hp},Ext m2 (d7 cl s3.heap H3) m5 H5->bV cl H5:=fun x5 y d e=>by
  obtain ⟨ob,uu,g1,g2⟩:=hobj y d e
  exact ⟨ob,uu,x5.keep _ _ (gB e g1) (rh.d9 (hnone y d e)) rfl,g2⟩
 have sp4:spX X.prog X.w X.K (R (.m c m)) (V.ref a :: (vs++[.ref f])) (d7 cl s3.heap H3) (fun _ _=>False) (fun cv d H5=>E cv d (hid cl H5)):=by
  exact ⟨m2,_,g,c0,h',R4,w4,e7,fun H5 m5 x5 R5 C hC=>zr (hid cl H5) m5 (xx.trans (uJ hnone le x5)) ((C5 x5).rh R5) C hC⟩
 have hl4:(Pp a :: (us++[.ref f])).length=ps'.length:=by rw[← rv4.length];exact ok.len _ _ _ _ sp4
 have hb4:=hB s3 (Pp a :: (us++[.ref f])) I3.kIn (by rw[Pr];exact hl4)
 rw[Pr] at hb4
 have run4:=ok.run X.A X.stack s3 (d7 cl s3.heap H3) ⟨Pp a :: (us++[Pp f]),[]⟩ (Pp a :: (us++[Pp f])) _ _ _ hR e04 hb4 rv4 sp4
 refine R6 (Q6 run4 fun r s' hq=>?_)
 cases r with
 | ok fl =>
  cases fl with
  | ret u=>obtain ⟨_,_,_,_,_,_,_,z⟩:=hq;exact Pk z
  | _=>exact Pk hq
 | error e =>
  obtain ⟨x,C,H5,B,Gh,a0,rfl,os5,bare5,un,hok5,fl,cov,hg5,cv2,hE⟩:=hq
  have CT:bV cl H5:=fun y d e=>by
   obtain ⟨ob,uu,g1,g2⟩:=hobj y d e
   exact ⟨ob,uu,un.frzs _ _ _ (gB e g1),g2⟩
  refine O1.pass zt σ H3 s3 _ s' I3 ⟨x,C,hid cl H5,B,Gh,a0,rfl,os5,bare5,zA hnone hobj hfrm le un hok5,kY CT hok5 fun _ _ e=>e,fl,fun b o e hb=>?_,kY CT hg5 fun _ _ e=>e,fun b o nn e=>?_,hE⟩
  ·obtain ⟨o',q1,q2⟩:=cov b o e hb
   refine ⟨o',q1,fun nn=>?_⟩
   by_cases cc:∃ y,cl.lookup y=some b
   ·obtain ⟨y,q⟩:=cc
    have z:=un.frzs _ _ _ (gB q e)
    have z2:=cv2 b o (by rw[z];exact fun w=>nomatch w) (hg5 _ _ z).1
    rw[q1] at z2
    exact OV z2
   ·exact q2 (by rw[dR cc];exact nn)
  ·refine cv2 b o (fun z=>nn (dQ z)) e
theorem zK  (O:Ok X F G sc N) (O1:OkX X R D E) {f:Str}{p:Pos} (hg:aE sc f=true) (hn:aH f=true) (hc:CEs sc N as es) (ha:PA X es (tDs X F G as)) (hx:PXA X es (xD X E (BT.qJ F R D G as))) :
 PXE X (.Call (.Name f p) es [] cpos) (xD X E (BT.rsE F R D G (.call f as))):=by
 have hst:=bY hc
 intro zt s σ H Q I q
 obtain ⟨m0,s',h,c0,h',RR,S,ee,zr⟩:=q
 simp only[BT.rsE] at ee
 cases es with
 | nil =>
  cases as with
  | cons a r=>cases hc
  | nil =>
   simp only[BT.evs,BT.rsC] at ee
   obtain ⟨fa,fd,ps,k,hm,hk,hb,hr,ok⟩:=O1.call _ _ _ _ ee
   exact thn (qa ok hr (aM O hg) hm hk hb .nil O1.pass (bB hn).1 zt s σ H (fun _ _=>False) I ⟨m0,[],h,c0,h',RR,.nil,ee,zr⟩) fun u s2 ⟨_,_,_,_,z⟩=>z.elim
 | cons e es =>
  simp only[aq,OQ] at hst
  cases g:BT.evs F G as s' h with
  | some q =>
   obtain ⟨ws,g1⟩:=q
   rw[g] at ee
   simp only[BT.rsC] at ee
   obtain ⟨fa,fd,ps,k,hm,hk,hb,hr,ok⟩:=O1.call _ _ _ _ ee
   refine thn (tR ok hr (aM O hg) hm hk hb .nil O1.pass ha (bB hn).1 (aj hst.1) (aI hst.2) zt s σ H (fun _ _=>False) I ?_) fun u s2 ⟨_,_,_,_,z⟩=>z.elim
   refine ⟨m0,s',h,ws,g1,RR,S,g,fun us H2 m2 x2 R2 r2=>?_⟩
   show spX X.prog X.w X.K (R (.f f)) (us++[]) H2 _ E
   rw[Pr]
   exact ⟨m2,ws,g1,c0,h',R2,r2,ee,zr.ext x2⟩
  | none =>
   rw[g] at ee
   simp only[BT.rsC] at ee
   split at ee
   ·rename_i hd
    obtain ⟨fa,hm,hk⟩:=O1.glo _ hd
    refine P6 (fE I (aM O hg) hm ?_ (bB hn).1)
    exact Qk (h₀:=X.base) I.ok.mod.kin hk (hx cpos zt s σ H _ I ⟨m0,s',h,c0,h',RR,S,ee,zr⟩) (aj hst.1) (aI hst.2)
   ·cases ee
end
mutual
inductive CXE (sc:O6) (N:List Str):BT.E->ON->Prop where
 | meth {o:BT.E}{m:Str}{as:BT.Es}{oe:ON}{apos cpos:Pos}{es:List ON} (h3:aL oe=true) (h6:(apos.endLine==cpos.line)=true) (h7:es.length < 20) (ho:CE' sc N o oe) (ha:CEs sc N as es):CXE sc N (.meth o m as) (.Call (.Attribute oe m apos) es [] cpos)
 | call {f:Str}{as:BT.Es}{es:List ON}{np p:Pos} (hg:aE sc f=true) (hn:aH f=true) (ha:CEs sc N as es) (hx:wI sc N as es):CXE sc N (.call f as) (.Call (.Name f np) es [] p)
 | ite {c a b:BT.E}{t x y:ON}{p:Pos} (h:tOK c=true) (hc:CE' sc N c t) (ha:CXE sc N a x) (hb:CXE sc N b y):CXE sc N (.ite c a b) (.IfExp t x y p)
 | no {a:BT.E}{x:ON} (h:noX a=true):CXE sc N a x
inductive wI (sc:O6) (N:List Str):BT.Es->List ON->Prop where
 | nil:wI sc N .nil []
 | cons {a:BT.E}{as:BT.Es}{e:ON}{es:List ON} (hs:noStar e=true) (hc:CE' sc N a e) (ha:CXE sc N a e) (hr:wI sc N as es):wI sc N (.cons a as) (e :: es)
end
mutual
inductive CXS (sc:O6) (N:List Str) (ra:Bool):BT.S->O9->Prop where
 | rai {c t:Str}{e:BT.E}{v:ON}{j:Nat}{np p1 p2 p3 cpos pos:Pos} (hu:cR N=true) (hr:ra=true) (hx:fm c=true) (hg:aE sc c=true) (hn:aH c=true) (hl:t.length<=1000) (he:CE' sc N e v) :
  CXS sc N ra (.rai c e) (.Raise (some (.Call (.Name c np) [.JoinedStr [.Constant (.str t) j p1,.FormattedValue v 114 none p2] p3] [] cpos)) none pos)
 | bad {st:O9}:CXS sc N ra .bad st
 | ex {e:BT.E}{v:ON}{p:Pos} (h:gC v=true) (he:CXE sc N e v):CXS sc N ra (.ex e) (.Expr v p)
 | ret {e:BT.E}{v:ON}{p:Pos} (he:CXE sc N e v):CXS sc N ra (.ret e) (.Return (some v) p)
 | setx {i:Nat}{x:Str}{e:BT.E}{v:ON}{np p:Pos} (h:gC v=true) (he:CXE sc N e v):CXS sc N ra (.set i x e) (.Assign [.Name x np] v p)
 | retL {m:Str}{o:BT.E}{as:BT.Es}{L:Nat}{fv:List (Nat×Str)}{call:ON}{p:Pos} (hl:CL sc N o m as L fv call):CXS sc N ra (.ret (.methL o m as L fv)) (.Return (some call) p)
 | ife {c:BT.E}{a b:BT.S}{t:ON}{xs ys:List O9}{p:Pos} (h:tOK c=true) (hc:CE' sc N c t) (ha:eB sc N ra a xs) (hb:eB sc N ra b ys):CXS sc N ra (.ife c a b) (.If t xs ys p)
inductive eB (sc:O6) (N:List Str) (ra:Bool):BT.S->List O9->Prop where
 | nil {sts:List O9}:eB sc N ra .nil sts
 | bads {sts:List O9}:eB sc N ra .bad sts
 | one {s:BT.S}{st:O9}{r:List O9} (h:CXS sc N ra s st):eB sc N ra s (st :: r)
 | cons {a b:BT.S}{st:O9}{r:List O9} (hn:CS sc N a st) (h:CXS sc N ra a st) (hr:eB sc N ra b r):eB sc N ra (.seq a b) (st :: r)
end
structure MadeX (X:Cx) (E:XK):Prop where
 made:∀ zt σ H s1 h2 a args C,Inv X zt σ H s1->Sv s1.heap h2 a (.ref C) args->E (.ref C) none H->X.xe (.ref a) { s1 with heap:=h2 }
 cls:∀ c,fm c=true->∃ C,CN X.K c C/\X.mg c=some (.ref C)/\mD X.K C
section
variable {F:FT}{R:BT.XF}{D:Str->Bool}{G:Str->Option BT.W}{E:XK}{X:Cx}{sc:O6}{N:List Str}{ra:Bool}
theorem sEs {as:BT.Es}{es:List ON} (h:CEs sc N as es) (O:Ok X F G sc N):PA X es (tDs X F G as):=by
 match as,es,h with
 | _,_,.nil=>exact PA.weak gX fun σ H Q q=>fM q
 | _,_,.cons hs ha hr=>exact PA.weak (cF (sE ha O) (sEs hr O) (aj hs)) cons_of
mutual
theorem sXE (O:Ok X F G sc N) (O1:OkX X R D E):∀ {e:BT.E}{v:ON},CXE sc N e v->PXE X v (xD X E (BT.rsE F R D G e))
 | _,_,.meth h3 h6 h7 ho ha=>zI O O1 h3 h6 h7 (sE ho O) ha (sEs ha O)
 | _,_,.call hg hn ha hx=>zK O O1 hg hn ha (sEs ha O) (Kd O O1 hx)
 | _,_,@CXE.ite _ _ c a b t x y p h hc ha hb=>fun zt s σ H Q I q=>by
  obtain ⟨m,s',h0,c0,h',RR,S,ee,zr⟩:=q
  simp only[BT.rsE] at ee
  unfold BT.rsI at ee
  split at ee
  ·rename_i h1 e1
   refine wpAny_IfExp (thn ((sT hc O h).1 zt s σ H (fun d H1=>d=true/\xD X E (BT.rsE F R D G a) σ H1) I ⟨m,s',h0,true,h1,RR,S,e1,fun H1 m1 x1 R1=>⟨rfl,m1,s',h1,c0,h',R1,S.ext x1,ee,zr.ext x1⟩⟩) fun d s1 zq=>?_)
   obtain ⟨H1,I1,q1,q2⟩:=zq
   subst q1
   exact sXE O O1 ha zt s1 σ H1 Q I1 q2
  ·rename_i h1 e1
   refine wpAny_IfExp (thn ((sT hc O h).1 zt s σ H (fun d H1=>d=false/\xD X E (BT.rsE F R D G b) σ H1) I ⟨m,s',h0,false,h1,RR,S,e1,fun H1 m1 x1 R1=>⟨rfl,m1,s',h1,c0,h',R1,S.ext x1,ee,zr.ext x1⟩⟩) fun d s1 zq=>?_)
   obtain ⟨H1,I1,q1,q2⟩:=zq
   subst q1
   exact sXE O O1 hb zt s1 σ H1 Q I1 q2
  ·cases ee
 | _,_,.no h=>fun zt s σ H Q I q=>by
  obtain ⟨m,s',h0,c0,h',RR,S,ee,zr⟩:=q
  rw[GT h] at ee
  cases ee
theorem Kd (O:Ok X F G sc N) (O1:OkX X R D E):∀ {as:BT.Es}{es:List ON},wI sc N as es->PXA X es (xD X E (BT.qJ F R D G as))
 | _,_,.nil=>fun pos zt s σ H Q I q=>by
  obtain ⟨m,s',h0,c0,h',RR,S,ee,zr⟩:=q
  simp only[BT.qJ] at ee
  cases ee
 | _,_,@wI.cons _ _ a as e es hs hc ha hr=>fun pos zt s σ H Q I q=>by
  obtain ⟨m,s',h0,c0,h',RR,S,ee,zr⟩:=q
  simp only[BT.qJ] at ee
  rw[aj hs]
  show wpAny _ _ (Se ((false,eval e X.env) :: QA pos (Pe es X.env))) _ _ s
  unfold BT.rsA at ee
  split at ee
  ·rename_i z g1 e1
   refine P4 (thn (sE hc O zt s σ H (fun v H1=>xD X E (BT.qJ F R D G as) σ H1) I ⟨m,s',h0,z,g1,RR,S,e1,fun v H1 m1 x1 R1 r1=>⟨m1,s',g1,c0,h',R1,S.ext x1,ee,zr.ext x1⟩⟩) fun u s1 zq=>?_)
   obtain ⟨v,H1,I1,rv,q1⟩:=zq
   exact Kd O O1 hr pos zt s1 σ H1 _ I1 q1
  ·exact P4 (sXE O O1 ha zt s σ H _ I ⟨m,s',h0,c0,h',RR,S,ee,zr⟩)
end
theorem sXL (O:Ok X F G sc N) (O1:OkX X R D E) (hf:∀ x,X.fn x=true) {fv:List (Nat×Str)}{call:ON} (h:CL sc N o m as L fv call):PXE X call (xD X E (BT.rsE F R D G (.methL o m as L fv))):=by
 cases h with
 | zero hl hp hn hk hv ht hc h3 h6 ho=>exact nX O O1 hf hl hp hn hk hv ht hc h3 h6 (sE ho O) rfl (by simp) EA
 | one hl hp hn hk hv ht hc h3 h6 ho hs ha=>exact nX O O1 hf hl hp hn hk hv ht hc h3 h6 (sE ho O) (by simp only[aq,hs];rfl) (by simp) (EB hs (sE ha O))
theorem GU (O:Ok X F G sc N) (hu:cR N=true) (M:MadeX X E) {t:Str}{e:BT.E}{v:ON}{j:Nat}{np:Pos} (hx:fm c=true) (hg:aE sc c=true) (hn:aH c=true) (hl:t.length<=1000) (he:CE' sc N e v) :
 PXS X (.Raise (some (.Call (.Name c np) [.JoinedStr [.Constant (.str t) j p1,.FormattedValue v 114 none p2] p3] [] cpos)) none pos) (xD X E (BT.rsS F R D G (.rai c e))):=by
 intro zt s σ H Q I q
 obtain ⟨C,hC,hm,xc⟩:=M.cls c hx
 obtain ⟨m,s',h,c0,h',RR,S,ee,zr⟩:=q
 simp only[BT.rsS] at ee
 split at ee
 ·rename_i d h2 e1
  split at ee
  ·rename_i hb
   cases ee
   refine zG (aM O hg) hn hm xc (O.calm hu) hl (sE he O) I ⟨m,s',h,_,_,RR,S,e1,fun v H1 m1 x1 R1 r1=>?_⟩
   cases r1 with
   | p r1 =>
    refine ⟨?_,fun s1 h2 a args I1 hx=>M.made _ _ _ _ _ _ _ _ I1 hx (zr H1 m1 x1 R1 C hC)⟩
    cases r1 with
    | int i=>exact .int (by simpa [BT.big] using hb)
    | str x hx=>exact .str (by simpa using hb)
    | non=>exact .non
    | bl b=>exact .bl
    | _=>cases hb
  ·cases ee
 ·cases ee
mutual
theorem sXS (O:Ok X F G sc N) (O1:OkX X R D E) (M:ra=true->MadeX X E) (hf:∀ x,X.fn x=true):∀ {s:BT.S}{st:O9},CXS sc N ra s st->PXS X st (xD X E (BT.rsS F R D G s))
 | _,_,.rai hu hr hx hg hn hl he=>GU O hu (M hr) hx hg hn hl he
 | _,_,.bad=>fun zt s σ H Q I q=>by
  obtain ⟨m,s',h,c0,h',RR,S,ee,zr⟩:=q
  simp only[BT.rsS] at ee
  cases ee
 | _,_,.ex h he=>fun zt s σ H Q I q=>by
  refine wpAny_Expr_any (sXE O O1 he zt s σ H _ I ?_) I.quiet (gD h)
  obtain ⟨m,s',h,c0,h',RR,S,ee,zr⟩:=q
  exact ⟨m,s',h,c0,h',RR,S,by simpa only[BT.rsS] using ee,zr⟩
 | _,_,.ret he=>fun zt s σ H Q I q=>by
  refine TF (sXE O O1 he zt s σ H _ I ?_)
  obtain ⟨m,s',h,c0,h',RR,S,ee,zr⟩:=q
  exact ⟨m,s',h,c0,h',RR,S,by simpa only[BT.rsS] using ee,zr⟩
 | _,_,.setx h he=>fun zt s σ H Q I q=>by
  obtain ⟨m,s',h0,c0,h',RR,S,ee,zr⟩:=q
  simp only[BT.rsS] at ee
  exact wpAny_Assign_Name (sXE O O1 he zt s σ H _ I ⟨m,s',h0,c0,h',RR,S,ee,zr⟩) (gD h)
 | _,_,.retL hl=>fun zt s σ H Q I q=>by
  refine TF (sXL O O1 hf hl zt s σ H _ I ?_)
  obtain ⟨m,s',h,c0,h',RR,S,ee,zr⟩:=q
  exact ⟨m,s',h,c0,h',RR,S,by simpa only[BT.rsS] using ee,zr⟩
 | _,_,@CXS.ife _ _ _ c a b t xs ys p h hc ha hb=>fun zt s σ H Q I q=>by
  obtain ⟨m,s',h0,c0,h',RR,S,ee,zr⟩:=q
  simp only[BT.rsS] at ee
  unfold BT.rsI at ee
  split at ee
  ·rename_i h1 e1
   refine wpAny_If (thn ((sT hc O h).1 zt s σ H (fun d H1=>d=true/\xD X E (BT.rsS F R D G a) σ H1) I ⟨m,s',h0,true,h1,RR,S,e1,fun H1 m1 x1 R1=>⟨rfl,m1,s',h1,c0,h',R1,S.ext x1,ee,zr.ext x1⟩⟩) fun d s1 zq=>?_)
   obtain ⟨H1,I1,q1,q2⟩:=zq
   subst q1
   exact zL O O1 M hf ha zt s1 σ H1 Q I1 q2
  ·rename_i h1 e1
   refine wpAny_If (thn ((sT hc O h).1 zt s σ H (fun d H1=>d=false/\xD X E (BT.rsS F R D G b) σ H1) I ⟨m,s',h0,false,h1,RR,S,e1,fun H1 m1 x1 R1=>⟨rfl,m1,s',h1,c0,h',R1,S.ext x1,ee,zr.ext x1⟩⟩) fun d s1 zq=>?_)
   obtain ⟨H1,I1,q1,q2⟩:=zq
   subst q1
   exact zL O O1 M hf hb zt s1 σ H1 Q I1 q2
  ·cases ee
theorem zL (O:Ok X F G sc N) (O1:OkX X R D E) (M:ra=true->MadeX X E) (hf:∀ x,X.fn x=true):∀ {s:BT.S}{sts:List O9},eB sc N ra s sts->Nk X sts (xD X E (BT.rsS F R D G s))
 | _,_,.nil=>fun zt s σ H Q I q=>by
  obtain ⟨m,s',h,c0,h',RR,S,ee,zr⟩:=q
  simp only[BT.rsS] at ee
  cases ee
 | _,_,.bads=>fun zt s σ H Q I q=>by
  obtain ⟨m,s',h,c0,h',RR,S,ee,zr⟩:=q
  simp only[BT.rsS] at ee
  cases ee
 | _,_,.one h=>fun zt s σ H Q I q=>Rt (sXS O O1 M hf h zt s σ H _ I q)
 | _,_,@eB.cons _ _ _ a b st r hn h hr=>fun zt s σ H Q I q=>by
  obtain ⟨m,s',h0,c0,h',RR,S,ee,zr⟩:=q
  simp only[BT.rsS] at ee
  cases g:BT.evS F G a s' h0 with
  | none =>
   rw[g] at ee
   exact Rt (sXS O O1 M hf h zt s σ H _ I ⟨m,s',h0,c0,h',RR,S,ee,zr⟩)
  | some fl =>
   rw[g] at ee
   cases fl with
   | nx s2 h2 =>
    simp only at ee
    refine Rt (thn (sS O hf hn zt s σ H { nx:=fun σ' H'=>xD X E (BT.rsS F R D G b) σ' H',rt:=fun _ _=>False } I ⟨m,s',h0,.nx s2 h2,RR,S,g,fun σ' H1 m1 x1 R1 S1=>⟨m1,s2,h2,c0,h',R1,S1,ee,zr.ext x1⟩⟩) fun f s1 q=>?_)
    cases f with
    | next =>
     obtain ⟨σ',H1,I1,q1⟩:=q
     exact zL O O1 M hf hr zt s1 σ' H1 Q I1 q1
    | ret u=>obtain ⟨_,_,_,_,_,z⟩:=q;exact z.elim
    | _=>obtain ⟨_,_,_,z⟩:=q;exact z.elim
   | _=>cases ee
end
end
inductive zM (K:OM) (c m:Str) (fn:BT.Fn):Prop where
 | mk (C f:OR) (fd:PN) (x qual:Str) (st:O9) (h1:jz K c C) (h2:pZ K C m f) (h3:Fun K x qual st f fd) (h4:aN fn.ns fn.ps (aa st)) (h5:Binds K fd fn.ps []) (h6:eB (aa st) fn.ns true fn.body (ay st)) (h7:gr K qual fd fn):zM K c m fn
structure qK (K:OM) (c m:Str) (fn:BT.Fn):Prop where
 ex:zM K c m fn
inductive ED (K:OM) (mg:Str->Option Value) (x:Str) (fn:BT.Fn):Prop where
 | mk (f:OR) (fd:PN) (st:O9) (h1:mg x=some (.ref f)) (h2:Fun K x x st f fd) (h3:aN fn.ns fn.ps (aa st)) (h4:Binds K fd fn.ps []) (h5:eB (aa st) fn.ns true fn.body (ay st)) (h6:gr K x fd fn):ED K mg x fn
structure zN (K:OM) (mg:Str->Option Value) (x:Str) (fn:BT.Fn):Prop where
 ex:ED K mg x fn
structure wJ (K:OM) (mg:Str->Option Value) (TX:BT.FK->Option BT.Fn):Prop where
 defs:∀ x fn,TX (.f x)=some fn->zN K mg x fn
 meths:∀ c m fn,TX (.m c m)=some fn->qK K c m fn
 cls:∀ c,fm c=true->∃ C,CN K c C/\mg c=some (.ref C)/\mD K C
theorem zO {T TX:BT.FK->Option BT.Fn}{G:Str->Option BT.W}{x:BT.FK}{ws:List BT.W} (e:BT.dw T TX G k x ws h=some r):∃ fn,TX x=some fn:=by
 cases k with
 | zero=>cases e
 | succ k =>
  rw[BT.dw] at e
  cases q:TX x with
  | none=>rw[q] at e;cases e
  | some fn=>exact ⟨fn,rfl⟩
theorem Ke {CX:CXT}{w:Pa}{T:BT.FK->Option BT.Fn}{G:Str->Option BT.W} (X:Txt P w K mg T G) {ps:List Str}{cdv:Value}{A:PF}{outer:List Env}{E:XK}
 (nd:N.Nodup) (nt:∀ x,N.contains (BT.bA x)=false) (hr:bx (2*k+1) (A.deeper (Q4 qual (aa st) s.heap.objs.size f cdv))):Ok (aJ CX P w K mg base N qual (aa st) f cdv A outer s H E) (BT.runN T G k) G (aa st) N :=
 qI X (iT X k).1 (iT X k).2 rfl rfl rfl rfl rfl rfl rfl nd rfl hr Uj fun _ x hx=>by rw[nt x] at hx;cases hx
theorem zP {w:Pa}{T TX:BT.FK->Option BT.Fn}{G:Str->Option BT.W}{E:XK}{Z:Cx} (X:Txt P w K mg T G) (Y:wJ K mg TX)
 (ih:∀ (x:BT.FK) (fn:BT.Fn),TX x=some fn->∀ (f:OR) (fd:PN) (nm qual:Str) (st:O9),Fun K nm qual st f fd->aN fn.ns fn.ps (aa st)->eB (aa st) fn.ns true fn.body (ay st)->gr K qual fd fn->cK P w K mg base (CX1 P w) (2*k) f fd fn.ps (spX P w K (BT.dw T TX G k x)))
 (e1:Z.prog=P) (e2:Z.w=w) (e3:Z.K=K) (e4:Z.mg=mg) (e5:Z.base=base) (hr:bx (2*k+1) Z.A) (ps:dW (CX1 P w) Z E):OkX Z (BT.dw T TX G k) (BT.dk T) E:=by
 subst e1 e2 e3 e4 e5
 refine ⟨fun c g ws h r e=>?_,fun g ws h r e=>?_,fun f hf=>?_,ps⟩
 ·obtain ⟨fn',hTg⟩:=zO e
  obtain ⟨C,f',fd',x',q',st',b1,b3,a2,a3,a4,a5,a6⟩:=(Y.meths c g fn' hTg).ex
  exact ⟨C,f',fd',fn'.ps,2*k,b1,b3,a4,hr.mono (Qd _),ih _ fn' hTg f' fd' x' q' st' a2 a3 a5 a6⟩
 ·obtain ⟨fn',hTg⟩:=zO e
  obtain ⟨f',fd',st',b1,a2,a3,a4,a5,a6⟩:=(Y.defs g fn' hTg).ex
  exact ⟨f',fd',fn'.ps,2*k,b1,a2.kp,a4,hr.mono (Qd _),ih _ fn' hTg f' fd' g g st' a2 a3 a5 a6⟩
 ·obtain ⟨fn,hT⟩:=Option.isSome_iff_exists.mp hf
  obtain ⟨fa,fd,st,a1,a2,_⟩:=(X.defs f fn hT).ex
  exact ⟨fa,a1,a2.kp⟩
theorem C9 {CX:CXT}{w:Pa}{x:Str} (F:Fun K x qual st f fd) (S:aN N ps (aa st)) (len:∀ vs H Q E,sp vs H Q E->vs.length=ps.length)
 (hbody:∀ (cdv:Value) (A:PF) (outer:List Env) (s:OP) (H:Hp) (vs:List V) (Q:VK) (E:XK),fd.code=cdv->bx k (A.deeper (Q4 qual (aa st) s.heap.objs.size f cdv))->Mod K mg base->sp vs H Q E →
  ∃ t,PSs (aJ CX P w K mg base N qual (aa st) f cdv A outer s H E) (ay st) t/\t { nx:=fun _ H'=>Q .non H',rt:=Q } (L2.start N vs) H):cK P w K mg base CX (k+1) f fd ps sp:=by
 obtain ⟨oc,od,kV,doc,pm,an,cdv,ct,osl,rfl,lk,hcd⟩:=F.ex
 refine ⟨len,fun A outer s H args us vs Q E hr e0 hb r hs=>?_⟩
 have F1:cK P w K mg base CX (k+1) f (P5 x qual (cE st) (ay st) (aa st) .none kV doc pm an cdv ct) ps sp:=xW lk hcd S len fun A outer s H vs Q E hr hsp=>hbody cdv A outer s H vs Q E rfl hr e0.mod hsp
 exact F1.run A outer s H args us vs Q E hr e0 hb r hs
theorem Dc {w:Pa}{T TX:BT.FK->Option BT.Fn}{G:Str->Option BT.W} (X:Txt P w K mg T G) (Y:wJ K mg TX) :
 ∀ (k:Nat) (x:BT.FK) (fn:BT.Fn),TX x=some fn->∀ (f:OR) (fd:PN) (nm qual:Str) (st:O9),Fun K nm qual st f fd->aN fn.ns fn.ps (aa st)->eB (aa st) fn.ns true fn.body (ay st)->gr K qual fd fn->cK P w K mg base (CX1 P w) (2*k) f fd fn.ps (spX P w K (BT.dw T TX G k x)):=by
 intro k
 induction k with
 | zero =>
  intro x fn hT f fd nm qual st h2 h3 h5 h6
  have no:∀ vs H Q E,¬ spX P w K (BT.dw T TX G 0 x) vs H Q E:=fun vs H Q E h=>by
   obtain ⟨m,ws,h,z,h',_,_,e,_⟩:=h
   cases e
  exact ⟨fun vs H Q E h=>absurd h (no vs H Q E),fun A outer s H args us vs Q E _ _ _ _ h=>absurd h (no vs H Q E)⟩
 | succ k ih =>
  intro x fn hT f fd nm qual st h2 h3 h5 h6
  show cK P w K mg base (CX1 P w) (2*k+1+1) f fd fn.ps (spX P w K (BT.dw T TX G (k+1) x))
  have inv:∀ {ws:List BT.W}{h:BT.HH}{r:Str×BT.HH},BT.dw T TX G (k+1) x ws h=some r->ws.length=fn.ps.length/\BT.rsS (BT.runN T G k) (BT.dw T TX G k) (BT.dk T) G fn.body (BT.br fn.ns.length ws) h=some r:=fun {ws h r} e=>by
   rw[BT.dw,hT] at e
   simp only at e
   split at e
   ·rename_i c;exact ⟨c,e⟩
   ·cases e
  refine C9 h2 h3 (fun vs H Q E h=>?_) fun cdv A outer s H vs Q E hcd hr hM h=>?_
  ·obtain ⟨m,ws,h,c,h',R,r,e,zr⟩:=h
   rw[r.length];exact (inv e).1
  ·obtain ⟨m,ws,h,c,h',R,r,e,zr⟩:=h
   have O:Ok (aJ (CX1 P w) P w K mg base fn.ns qual (aa st) f cdv A outer s H E) (BT.runN T G k) G (aa st) fn.ns:=by
    refine qI X (iT X k).1 (iT X k).2 rfl rfl rfl rfl rfl rfl rfl h3.nd rfl hr Uj fun _ y hy=>?_
    obtain ⟨t1,t2,⟨c,Pt,t3,t4,t5,t6⟩,bm,ob,t7,t8,t9,t10,t11,t12⟩:=h6 y hy
    exact ⟨t2,⟨c,Pt,t3,hcd.symm.trans t4,Rl hM.kin t5,t6⟩,by show qual++".<locals>."=_;rw[t1],bm,ob,PR hM.kin hM.glob t7,t8,hM.kin _ _ t9,t10,t11,t12⟩
   have O1:OkX (aJ (CX1 P w) P w K mg base fn.ns qual (aa st) f cdv A outer s H E) (BT.dw T TX G k) (BT.dk T) E:=zP (base:=base) X Y ih rfl rfl rfl rfl rfl hr (J4 fun _ _ z=>z)
   have M:MadeX (aJ (CX1 P w) P w K mg base fn.ns qual (aa st) f cdv A outer s H E) E:=⟨fun zt σ H s1 h2 a args C I hx hE=>C7 I hx hE,Y.cls⟩
   exact ⟨fun D σ H'=>xD (aJ (CX1 P w) P w K mg base fn.ns qual (aa st) f cdv A outer s H E) E (BT.rsS (BT.runN T G k) (BT.dw T TX G k) (BT.dk T) G fn.body) σ H',
    fun zt s σ H D I q=>zL O O1 (fun _=>M) (fun _=>rfl) h5 zt s σ H _ I q,m,_,h,c,h',R,fq r,(inv e).2,zr⟩
noncomputable def jJ (tn:Str) (told:List BT.W->BT.HH->Option (BT.W×BT.HH)) (F:FT):FT:=fun x=>match x with
 | .f y=>if y=tn then told else F (.f y)
 | .m c m=>F (.m c m)
 | .l L=>F (.l L)
theorem qL {told:List BT.W->BT.HH->Option (BT.W×BT.HH)}:jJ tn told F (.f tn)=told:=if_pos rfl
theorem uP {y:Str}{told:List BT.W->BT.HH->Option (BT.W×BT.HH)} (h:¬ y=tn):jJ tn told F (.f y)=F (.f y):=if_neg h
theorem De {G:Str->Option BT.W} (O:Ok X F G sc N) {told:List BT.W->BT.HH->Option (BT.W×BT.HH)}{fa:OR}
 (h1:X.mg tn=some (.ref fa)) (h2:Po X.K (.ref fa)=true) (h3:Binds X.K fd ps []) (h4:bx k X.A) (h5:cK X.prog X.w X.K X.mg X.base CX0 k fa fd ps (spF X.prog X.w X.K told)):Ok X (jJ tn told F) G sc N :=
 ⟨O.hsc,O.hN,O.nd,O.calm,O.hu,O.own,O.glob,fun f ws h r e=>by
  by_cases c:f=tn
  ·subst c
   rw[qL]
   exact ⟨fa,fd,ps,k,h1,h2,h3,h4,h5⟩
  ·rw[uP c] at e ⊢
   exact O.call f ws h r e,O.meth,O.mkc,O.blt,O.lam,O.lamx⟩
noncomputable def j6 (F:FT) (G:Str->Option BT.W) (fn:BT.Fn) (ws:List BT.W) (h:BT.HH):Option (BT.W×BT.HH):=if ws.length=fn.ps.length then BT.jy (BT.evS F G fn.body (BT.br fn.ns.length ws) h) (BT.fin h) else none
section
variable {P:OU}{w:Pa}{K:OM}{mg:Str->Option Value}{base:Heap}{T:BT.FK->Option BT.Fn}{G:Str->Option BT.W}
theorem zQ (X:Txt P w K mg T G) (k:Nat)  (h2:Fun K nm qual st f fd) (h3:aN fn.ns fn.ps (aa st)) (h5:CSs (aa st) fn.ns fn.body (ay st)) (h6:gr K qual fd fn)
 {told:List BT.W->BT.HH->Option (BT.W×BT.HH)}{fa:OR}{fd':PN} (q1:mg tn=some (.ref fa)) (q2:Po K (.ref fa)=true) (q3:Binds K fd' ps []) (q5:cK P w K mg base CX0 (2*k) fa fd' ps (spF P w K told)) :
 cK P w K mg base CX0 (2*k+1+1) f fd fn.ps (spF P w K (j6 (jJ tn told (BT.runN T G k)) G fn)):=by
 refine uM h2 h3 (fun vs H Q E h=>?_) fun cdv A outer s H vs Q E hcd hr hM h=>?_
 ·obtain ⟨m,ws,h,z,h',R,r,e,zr⟩:=h
  unfold j6 at e
  split at e
  ·rename_i c;rw[r.length];exact c
  ·cases e
 ·obtain ⟨m,ws,h,z,h',R,r,e,zr⟩:=h
  unfold j6 at e
  split at e
  ·have O:Ok (aJ CX0 P w K mg base fn.ns qual (aa st) f cdv A outer s H E).nox (BT.runN T G k) G (aa st) fn.ns:=by
    refine qI X (iT X k).1 (iT X k).2 rfl rfl rfl rfl rfl rfl rfl h3.nd rfl hr Rf fun _ y hy=>?_
    obtain ⟨t1,t2,⟨c,Pt,t3,t4,t5,t6⟩,bm,ob,t7,t8,t9,t10,t11,t12⟩:=h6 y hy
    exact ⟨t2,⟨c,Pt,t3,hcd.symm.trans t4,Rl hM.kin t5,t6⟩,by show qual++".<locals>."=_;rw[t1],bm,ob,PR hM.kin hM.glob t7,t8,hM.kin _ _ t9,t10,t11,t12⟩
   have O':=De O (tn:=tn) (told:=told) (k:=2*k) q1 q2 q3 (hr.mono (Qd _)) q5
   refine ⟨_,sSs O' (fun _=>rfl) h5,?_⟩
   cases gg:BT.evS (jJ tn told (BT.runN T G k)) G fn.body (BT.br fn.ns.length ws) h with
   | none=>rw[gg] at e;cases e
   | some fl =>
    rw[gg] at e
    refine ⟨m,_,h,fl,R,fq r,gg,?_⟩
    cases fl with
    | rt y g =>
     intro v H' m' x' R' r'
     obtain ⟨m2,y1,y2,y3⟩:=bZ e R x' R' r'
     exact zr v H' m2 y1 y2 y3
    | nx s' g =>
     intro σ' H' m' x' R' _
     obtain ⟨m2,y1,y2,y3⟩:=bZ (v:=.non) e R x' R' (.p .non)
     exact zr .non H' m2 y1 y2 y3
    | _=>cases e
  ·cases e
end
noncomputable abbrev qM (A:PF):PF:={ A with handled:=none }
noncomputable def cxU (P:OU) (w:Pa) (K:OM) (mg:Str->Option Value) (base:Heap) (N:List Str) (qual:Str) (scope:O6) (f:OR) (cd:Value) (A:PF) (outer:List Env) (s:OP) (H:Hp):Cx :=
 { aJ CX0 P w K mg base N qual scope f cd A outer s H E0 with calm:=false,xe:=fun _ _=>False }
section
variable {P:OU}{w:Pa}{K:OM}{mg:Str->Option Value}{base:Heap}
theorem sM {cd:Value}{A:PF}{outer:List Env}{s1:OP}{us:List Value}{vs:List V}
 (S:aN N ps scope) (e0:jq P w K mg base A outer s H) (hl:vs.length=ps.length) (r:az vs us)
 (x:InCallC s s.heap.objs.size (bindL (Q4 qual scope s.heap.objs.size f cd).kindOf (ps.zip us) fun _=>none) (Ue (s.heap.objs.size+1) scope.names []) (bindC (Q4 qual scope s.heap.objs.size f cd).kindOf (ps.zip us) fun _=>none) s1) :
 Inv (cxU P w K mg base N qual scope f cd A outer s H) [] (L2.start N vs) H s1:=by
 have e1:jq P w K mg base (qM A) outer s H:=⟨e0.frames,e0.mod,e0.bs,e0.bsz,e0.fW,e0.frf,e0.hok,e0.bare⟩
 have I:=nL (CX:=CX0) (A:=qM A) (E:=E0) S rfl e1 hl r x
 exact ⟨⟨I.ok.mod,I.ok.kind,I.ok.glob,I.ok.blt,I.ok.above,I.ok.inj,I.ok.has,I.ok.cab,fun z=>(by cases z),Sd e0.frames,I.ok.stk,I.ok.exf,I.ok.bs,I.ok.bsz,I.ok.noex,I.ok.exfs,I.ok.fW,I.ok.frf⟩,
  I.os,I.bare,I.base,I.loc,I.cell,I.free,I.freeC,I.pin,I.hok,I.len⟩
structure FnU (P:OU) (w:Pa) (K:OM) (mg:Str->Option Value) (base:Heap) (k:Nat) (f:OR) (fd:PN) (ps:List Str) (sp:Sp):Prop where
 len:∀ vs H Q E,sp vs H Q E->vs.length=ps.length
 run:∀ (A:PF) (outer:List Env) (s:OP) (H:Hp) (args:Args) (us:List Value) (vs:List V) (Q:VK) (E:XK),bx k (qM A)->jq P w K mg base A outer s H->BindsTo s fd args (ps.zip us)->az vs us->sp vs H Q E →
  codeAny (Pc P w) A (.call (.ref f) args) (CR CX0 outer P w H s Q E) s
theorem GV {name:Str}{params:Qo}{body:List O9}{dV kV doc pm cdv ct oc:Value}{an od:Option OR}
 {osl:Array (Option Value)} (lk:K.lookup f=some ⟨oc,od,.func (P5 name qual params body scope dV kV doc pm an cdv ct),osl⟩) (hcd:Ru K cdv qual=true) (S:aN N ps scope)
 (len:∀ vs H Q E,sp vs H Q E->vs.length=ps.length)
 (hbody:∀ (A:PF) (outer:List Env) (s:OP) (H:Hp) (vs:List V) (Q:VK) (E:XK),bx k (qM (A.deeper (Q4 qual scope s.heap.objs.size f cdv)))->sp vs H Q E →
  ∃ t,PSs (cxU P w K mg base N qual scope f cdv A outer s H) body t/\t { nx:=fun _ H'=>Q .non H',rt:=Q } (L2.start N vs) H) :
 FnU P w K mg base (k+1) f (P5 name qual params body scope dV kV doc pm an cdv ct) ps sp:=by
 refine ⟨len,fun A outer s H args us vs Q E hr e0 hb r hsp=>?_⟩
 have hl:=len _ _ _ _ hsp
 have KX:K.In s.heap:=e0.mod.kin.keeps fun b o e=>(e0.bs b o e).1
 have lim:s.heap.NoLimit:=e0.mod.nolimit.keeps fun b o e=>(e0.bs b o e).1
 have hkind:∀ y∈ps.zip us,scope.names.lookup y.1=some .local\/(scope.names.lookup y.1=some .cell/\((Ue (s.heap.objs.size+1) scope.names []).lookup y.1).isSome=true):=fun ⟨n,v⟩ hy=>by
  rcases S.par n (Rq hy).1 with q|q
  ·exact .inl q
  ·exact .inr ⟨q,RK _ _ _ (.inl q)⟩
 refine codeAny_call_function (A:=A) hr.depth (KX _ _ lk) rfl S.co S.gen rfl (Uu KX hcd) (hb _ _ _ _ ?_)
 refine Ur S.kind hkind fun env he s1 x=>?_
 subst he
 refine ⟨lim.keeps x.toInCall.keep,codeAny_func ?_⟩
 obtain ⟨t,ht,hq⟩:=hbody A outer s H vs Q E (hr.deeper _) hsp
 have I:=sM (f:=f) (cd:=cdv) (qual:=qual) S e0 hl r x
 refine wpAny_mono (ht [] s1 (L2.start N vs) H _ I hq) (fun fl s' hs=>?_) fun e s' hs=>hs.elim
 have fin:∀ {σ':L2.St}{H':Hp}{v:V}{u:Value},Inv (cxU P w K mg base N qual scope f cdv A outer s H) [] σ' H' s'->RelV v u->Q v H'->CE outer P w H s Q u s' :=
  fun {σ' H' v u} J rv q=>⟨v,H',J.os,J.bare,J.base,J.hok,rv,q⟩
 cases fl with
 | ret u =>
  obtain ⟨v,σ',H',J,rv,q⟩:=hs
  exact fin J rv q
 | next =>
  obtain ⟨σ',H',J,q⟩:=hs
  exact fin (v:=V.non) (u:=SQ) J rfl q
 | _=>obtain ⟨_,_,_,q⟩:=hs;exact Pk q
noncomputable def pB (fn:BT.Fn):List BT.W->BT.HH->Option (BT.W×BT.HH):=j6 (fun _ _ _=>none) (fun _=>none) fn
theorem GW  (blt:∀ x∈Ck,mg x=none) (h2:Fun K nm qual st f fd) (h3:aN fn.ns fn.ps (aa st)) (h5:CSs (aa st) fn.ns fn.body (ay st)) (hu:cR fn.ns=false) (hnt:∀ x,fn.ns.contains (BT.bA x)=false) :
 FnU P w K mg base (k+1) f fd fn.ps (spF P w K (pB fn)):=by
 obtain ⟨oc,od,kV,doc,pm,an,cdv,ct,osl,rfl,lk,hcd⟩:=h2.ex
 refine GV lk hcd h3 (fun vs H Q E h=>?_) fun A outer s H vs Q E hr h=>?_
 ·obtain ⟨m,ws,h,z,h',R,r,e,zr⟩:=h
  unfold pB j6 at e
  split at e
  ·rename_i c;rw[r.length];exact c
  ·cases e
 ·obtain ⟨m,ws,h,z,h',R,r,e,zr⟩:=h
  unfold pB j6 at e
  split at e
  ·have O:Ok (cxU P w K mg base fn.ns qual (aa st) f cdv A outer s H) (fun _ _ _=>none) (fun _=>none) (aa st) fn.ns:=by
    refine ⟨rfl,rfl,h3.nd,fun z=>absurd z (by rw[hu];decide),?_,Rf,fun x z e=>(by cases e),fun g ws h r e=>(by cases e),fun c g ws h r e=>(by cases e),fun c ws h r e=>(by cases e),blt,fun L ws h r e=>(by cases e),fun _ x hx=>absurd hx (by rw[hnt x];decide)⟩
    have:=hr.un
    show A.units+3+150 < Uz
    have this:A.units+3+16*k+200 < Uz:=this
    lia
   refine ⟨_,sSs O (fun _=>rfl) h5,?_⟩
   cases gg:BT.evS (fun _ _ _=>none) (fun _=>none) fn.body (BT.br fn.ns.length ws) h with
   | none=>rw[gg] at e;cases e
   | some fl =>
    rw[gg] at e
    refine ⟨m,_,h,fl,R,fq r,gg,?_⟩
    cases fl with
    | rt y g =>
     intro v H' m' x' R' r'
     obtain ⟨m2,y1,y2,y3⟩:=bZ e R x' R' r'
     exact zr v H' m2 y1 y2 y3
    | nx s' g =>
     intro σ' H' m' x' R' _
     obtain ⟨m2,y1,y2,y3⟩:=bZ (v:=.non) e R x' R' (.p .non)
     exact zr .non H' m2 y1 y2 y3
    | _=>cases e
  ·cases e
end
theorem zR {x:Str}{p:Pos}{e:ON}{t:TA} (F:FnU X.prog X.w X.K X.mg X.base k f fd ps sp) (hr:bx k (qM X.A)) (hg:Gl X x) (hm:X.mg x=some (.ref f)) (hk:Po X.K (.ref f)=true) (hb:Binds X.K fd ps [])
 (ha:PA X (e :: es) t) (hdb:(x==("__debug__":Str))=false) (he:Pe (e :: es) X.env=(false,eval e X.env) :: Pe es X.env) (hpl:(QA pos (Pe es X.env)).any (·.1)=false) :
 PE X (.Call (.Name x p) (e :: es) [] pos) (tP sp [] E0 t):=by
 intro zt s σ H Q I h
 refine P6 (fE I hg hm ?_ hdb)
 refine Qk (h₀:=X.base) I.ok.mod.kin hk (thn (ha pos zt s σ H _ I h) fun us s1 ⟨vs,H1,I1,r,q⟩=>⟨I1.kIn,?_⟩) he hpl
 have q:sp (vs++[]) H1 Q E0:=q
 have r2:az (vs++[]) (us++[]):=r.append .nil
 have hl:(us++[]).length=ps.length:=by rw[← r2.length];exact F.len _ _ _ _ q
 refine R6 (Q6 (F.run X.A X.stack s1 H1 ⟨us,[]⟩ (us++[]) (vs++[]) Q E0 hr I1.Bt (hb s1 us I1.kIn hl) r2 q) fun r s' hq=>?_)
 cases r with
 | error e=>exact Pk hq
 | ok fl =>
  cases fl with
  | ret u=>exact I1.after hq
  | _=>exact Pk hq
noncomputable def cxI (X:Cx) (x:OR):Cx:={ X with A:=X.A.mark (some (.ref x)),calm:=false,xe:=fun _ _=>False }
theorem Df {x C:OR}{oe:Obj} (I:Inv X zt σ H s) (hx:s.heap.get? x=some oe) (hc:oe.cls=.ref C) (cn:CN X.K c C) (xt:XT X.K c C) (hH:H x=none) (hl:x≠X.env.locals) (hd:∀ v,oe.data≠.cell v)
 (hp:∀ p∈X.pn++zt,p.1≠x) (h0:X.s₀.heap.get? x=none):Inv (cxI X x) zt σ (upd H x (.ext (excAt X.K c x))) s:=by
 have up:∀ {b:OR}{o:HO},H b=some o->upd H x (.ext (excAt X.K c x)) b=some o:=fun {b o} e=>by
  rw[ao (fun z=>by rw[z,hH] at e;cases e)];exact e
 refine ⟨⟨I.ok.mod,I.ok.kind,I.ok.glob,I.ok.blt,I.ok.above,I.ok.inj,I.ok.has,I.ok.cab,fun z=>(by cases z),I.ok.frames,I.ok.stk,I.ok.exf,I.ok.bs,I.ok.bsz,I.ok.noex,I.ok.exfs,I.ok.fW,I.ok.frf⟩,
  I.os,I.bare,⟨I.base.keep,I.base.slot,fun b o e n hb=>?_,I.base.there,fun b xs e=>up (I.base.tups b xs e),fun b o u e=>up (I.base.frzs b o u e),fun b ps e=>?_⟩,I.loc,I.cell,?_,fun y a e=>?_,fun p hq=>?_,fun b u e=>?_,I.len⟩
 ·rw[ao (fun z=>by rw[z] at e;have e:X.s₀.heap.get? x=some o:=e;rw[h0] at e;cases e)];exact I.base.free b o e n hb
 ·obtain ⟨more,q⟩:=I.base.tbls b ps e
  exact ⟨more,up q⟩
 ·show upd H x _ X.env.locals=none
  rw[ao (Qj hl)];exact I.free
 ·rw[ao ?_]
  ·exact I.freeC y a e
  ·intro z
   obtain ⟨v,o,ho,hdd⟩:=I.cell y a e
   rw[z,hx] at ho
   cases ho
   exact hd v hdd
 ·obtain ⟨q1,q2,q3,q4,q5⟩:=I.pin p hq
  exact ⟨q1,by rw[ao (hp p hq)];exact q2,q3,q4,q5⟩
 ·by_cases z:b=x
  ·subst z
   rw[aG] at e
   cases e
   refine ⟨⟨oe,C,cn,xt,hx,hc⟩,⟨oe,hx⟩,fun h1 h2 q k=>?_⟩
   obtain ⟨o,C',a1,a2,a3,a4⟩:=q
   exact ⟨o,C',a1,a2,k _ a3,a4⟩
  ·rw[ao z] at e
   exact (I.hok b u e).stay (fun _ _ _ q=>q) (fun _ q=>up q) fun _ _ q=>up q
theorem wK {x:OR} (ok:X.Ok) (I:Inv (cxI X x) zt σ H s):Inv X zt σ H s :=
 ⟨ok,I.os,I.bare,I.base,I.loc,I.cell,I.free,I.freeC,I.pin,I.hok,I.len⟩
section
variable {CX:CXT}{P:OU}{w:Pa}{K:OM}{mg:Str->Option Value}{base:Heap}{N:List Str}{qual:Str}{scope:O6}{f:OR}{cd:Value}{A:PF}{outer:List Env}{s0:OP}{H0:Hp}{E E1:XK}
theorem wL {H1:Hp}{s1 s':OP}{e:Value}{n rn:Str}{C D fr:OR}{fdr:PN}{pr:List Str}{i:Nat}{p5 p6 hp:Pos}{Wn:Hp->Prop}{R:VK}{Q:Flow->OP->Prop}
 (I:Inv (aJ CX P w K mg base N qual scope f cd A outer s0 H0 E) zt σ H1 s1) (h:CX1 P w (aJ CX P w K mg base N qual scope f cd A outer s0 H0 E).stack H1 s1 E1 e s') (hE1:∀ C' d H',E1 (.ref C') d H'->C'=C/\Wn H')
 (nd:N.Nodup) (hi:N[i]?=some n) (hln:scope.names.lookup n=some .local) (okn:aH n=true) (hgD:Gl (aJ CX P w K mg base N qual scope f cd A outer s0 H0 E) tn) (okD:aH tn=true) (hmD:mg tn=some (.ref D)) (hgR:Gl (aJ CX P w K mg base N qual scope f cd A outer s0 H0 E) rn) (okR:aH rn=true) (hmR:mg rn=some (.ref fr))
 (hkR:Po K (.ref fr)=true) (hbR:Binds K fdr pr []) (FR:FnU P w K mg base k fr fdr pr sp) (hr:bx k (aJ CX P w K mg base N qual scope f cd A outer s0 H0 E).A) (cnC:CN K c C) (xt:XT K c C) (xC:mD K C) (xD:mD K D) (hsub:sL K C D=true)
 (hcall:∀ H' x,Wn H'->H' x=none->sp [.ref x] (upd H' x (.ext (excAt K c x))) R E0)
 (hQ:∀ v u σ' H' s'',R v H'->RelV v u->Inv (aJ CX P w K mg base N qual scope f cd A outer s0 H0 E) zt σ' H' s''->Q (.ret u) s'') :
 wpAny (Pc P w) (aJ CX P w K mg base N qual scope f cd A outer s0 H0 E).A (noteFrame e (aJ CX P w K mg base N qual scope f cd A outer s0 H0 E).env) (fun _ s2=>wpAny (Pc P w) (aJ CX P w K mg base N qual scope f cd A outer s0 H0 E).A (setFlight e none) (fun _ s3 =>
  wpAny (Pc P w) (aJ CX P w K mg base N qual scope f cd A outer s0 H0 E).A (handleBy e (aJ CX P w K mg base N qual scope f cd A outer s0 H0 E).env [.ExceptHandler (some (.Name tn p1)) (some n) [.Return (some (.Call (.Name rn p2) [.Name n p3] [] p5)) p6] hp]) Q
   (aJ CX P w K mg base N qual scope f cd A outer s0 H0 E).xe s3) (aJ CX P w K mg base N qual scope f cd A outer s0 H0 E).xe s2) (aJ CX P w K mg base N qual scope f cd A outer s0 H0 E).xe s':=by
 obtain ⟨x,C',H',B,G,a0,rfl,e1,e2,un,ho,fl,cov,hg,cv2,hE⟩:=h
 obtain ⟨rfl,wn⟩:=hE1 _ _ _ hE
 have J:Inv (aJ CX P w K mg base N qual scope f cd A outer s0 H0 E) zt σ H' s':=I.xr (ch:=[]) e1 un ho e2 (fun b z=>absurd z (by simp))
 have dbg:∀ {y:Str},aH y=true->(y==("__debug__":Str))=false:=fun {y} q=>(bB q).1
 refine wpAny_looks_onW I.ok.frames rfl fl fun h4 held4 sm4=>?_
 refine wpAny_landsW held4 fun h5 fl5 sm5=>?_
 have J5:Inv (aJ CX P w K mg base N qual scope f cd A outer s0 H0 E) zt σ H' { s' with heap:=h5 }:=uO I J cov hg cv2 fl5.1 (sm4.trans sm5)
 obtain ⟨ob,hob,hobc⟩:=fl5.there
 refine wpAny_handleBy_cons (codeAny_handlers_test ?_) (by intro q;cases q)
 refine Rv J5.ok.kind hgD (T7 (by rw[J5.ok.glob];exact J5.mod.glob.keeps J5.bk) hmD ?_) (dbg okD)
 obtain ⟨bm,N1,nm,qn,bs,hdct,sn,sub,ab,col,dd,k0,k1,k2,k3,k5,mN,hC,hN,hni,T,lC⟩:=xC.obj I.mod.kin
 obtain ⟨bm2,N2,nm2,qn2,bs2,hdct2,sn2,sub2,ab2,col2,dd2,j0,j1,j2,j3,j5,mN2,hD,hN2,hni2,T2,_⟩:=xD.obj I.mod.kin
 have lC:K.lookup C'=_:=lC
 have hcD:(Pp C' :: bm).contains (.ref D)=true:=by
  unfold sL at hsub
  rw[lC] at hsub
  exact hsub
 refine mE (J5.bk _ _ hC) (J5.bk _ _ hD) hob hobc (T2.hasType rfl) hcD ?_
 refine codeAny_handlers_suite_as ?_
 refine lands_againW fl5 fun h6 fl6 sm6=>?_
 have J6:Inv (aJ CX P w K mg base N qual scope f cd A outer s0 H0 E) zt σ H' { s' with heap:=h6 }:=uO I J cov hg cv2 fl6.1 ((sm4.trans sm5).trans sm6)
 obtain ⟨_,xB,_,oe,vs,_,_,_,hoe,⟨hoc,_⟩,hod,_⟩:=fl6
 have nl:x≠(aJ CX P w K mg base N qual scope f cd A outer s0 H0 E).env.locals:=fun z=>by
  obtain ⟨m,⟨o,es,ep,ho',hd',_⟩,_⟩:=J6.loc
  have ho':h6.get? _=some o:=ho'
  rw[← z,hoe] at ho'
  cases ho'
  rw[hod] at hd'
  cases hd'
 have nH:H' x=none:=by
  cases q:H' x with
  | none=>rfl
  | some u =>
   obtain ⟨o,q2⟩:=obj_some (hg x u q)
   have:=cv2 x o (by rw[q];exact fun z=>nomatch z) q2
   rw[xB] at this
   cases this
 have nf:x∉(aJ CX P w K mg base N qual scope f cd A outer s0 H0 E).fs:=fun z=>by
  obtain ⟨_,o,ho',hd'⟩:=J6.fW.mem z
  have ho':h6.get? _=some o:=ho'
  rw[hoe] at ho'
  cases ho'
  exact hd' _ hod
 have ns:∀ {b:OR}{o:Obj},s1.heap.get? b=some o->b∉frs (aJ CX P w K mg base N qual scope f cd A outer s0 H0 E).stack->b≠x:=fun {b o} q1 q2 z=>by
  obtain ⟨o',q3,_⟩:=cov b o q1 q2
  rw[z,xB] at q3
  cases q3
 have hpn:∀ p∈(aJ CX P w K mg base N qual scope f cd A outer s0 H0 E).pn++zt,p.1≠x:=fun p hp=>by
  obtain ⟨q1,_,q3,q4,_⟩:=I.pin p hp
  refine ns q1 fun z=>?_
  rcases List.mem_cons.mp (I.gS p.1 z) with q|q
  ·exact q3 q
  ·exact q4 q
 have hs0:s0.heap.get? x=none:=by
  cases q:s0.heap.get? x with
  | none=>rfl
  | some o =>
   obtain ⟨o1,q1⟩:=I.base.there x o q (by simp[aJ])
   exact absurd rfl (ns q1 (fO I q nf))
 refine jQ J6 nd hi (.inl hln) (v:=.ref x) rfl (fun s7 J7 sb=>?_) (.inr hln)
 have h7:s7.heap.get? x=some oe:=by
  obtain ⟨a,sb,ha⟩:=sb
  have ne:x≠a:=by
   rcases ha with rfl|ha
   ·exact nl
   ·intro z
    obtain ⟨v,o,ho',hd'⟩:=J6.cell n a ha
    have ho':h6.get? _=some o:=ho'
    rw[← z,hoe] at ho'
    cases ho'
    rw[hod] at hd'
    cases hd'
  exact (sb.2 x ne).trans hoe
 have J8:=Df (c:=c) J7 h7 hoc cnC xt nH nl (fun v z=>by rw[hod] at z;cases z) hpn hs0
 have body:wpAny (Pc P w) (cxI (aJ CX P w K mg base N qual scope f cd A outer s0 H0 E) x).A (execs [.Return (some (.Call (.Name rn p2) [.Name n p3] [] p5)) p6] (aJ CX P w K mg base N qual scope f cd A outer s0 H0 E).env)
  (SP (cxI (aJ CX P w K mg base N qual scope f cd A outer s0 H0 E) x) zt { nx:=fun _ _=>False,rt:=R }) (fun _ _=>False) s7:=by
  have dn:(n==("__classdict__":Str))=false:=(bB okn).2.1
  refine (kT (rG (zR (X:=cxI (aJ CX P w K mg base N qual scope f cd A outer s0 H0 E) x) FR ⟨rfl,hr.dp,hr.un⟩ hgR hmR hkR hbR (cF (rE (i:=i) hi (.inl hln) (dbg okn) dn) gX) (dbg okR) rfl rfl))) zt s7 _ _ _ J8 ?_
  have iσ:i < σ.length:=by rw[J6.len];exact (List.getElem?_eq_some_iff.mp hi).1
  exact ⟨.ref x,P0 iσ,hcall H' x wn nH⟩
 refine wpAny_mono body (fun fl s8 q=>?_) fun _ _ z=>z.elim
 cases fl with
 | ret u =>
  obtain ⟨v,σ',H2,J9,rv,q⟩:=q
  obtain ⟨m,hn,_⟩:=J9.loc
  show wpAny _ _ (do bindName _ n .none;unbindBehindTheSuite _ n hp) _ _ _
  exact wpAny_nameGoes hln hn (by rw[show (aJ CX P w K mg base N qual scope f cd A outer s0 H0 E).env.scope.kind=.function from J.ok.kind];rfl) fun h' m' hn' sb=>hQ _ _ _ _ _ q rv (zH (wK J.ok J9) hn' sb)
 | _=>obtain ⟨_,_,_,z⟩:=q;exact z.elim
end
noncomputable def cxT (X:Cx) (zt:List (OR×Obj)) (xe':Value->OP->Prop):Cx:={ X with pn:=X.pn++zt,xe:=xe' }
theorem EF  (I:Inv X zt σ H s):Inv (cxT X zt xe') [] σ H s :=
 ⟨⟨I.ok.mod,I.ok.kind,I.ok.glob,I.ok.blt,I.ok.above,I.ok.inj,I.ok.has,I.ok.cab,I.ok.hd,I.ok.frames,I.ok.stk,I.ok.exf,I.ok.bs,I.ok.bsz,I.ok.noex,I.ok.exfs,I.ok.fW,I.ok.frf⟩,
  I.os,I.bare,I.base,I.loc,I.cell,I.free,I.freeC,fun p hp=>I.pin p (by simpa [cxT] using hp),I.hok,I.len⟩
theorem zS {pins':List (OR×Obj)} (ok:X.Ok) (I:Inv (cxT X zt xe') pins' σ H s):Inv X zt σ H s :=
 ⟨ok,I.os,I.bare,I.base,I.loc,I.cell,I.free,I.freeC,fun p hp=>I.pin p (Qt _ hp),I.hok,I.len⟩
theorem Kf {G:Str->Option BT.W} (O:Ok X F G sc N) (own:Uk (Pc X.prog X.w) X.A X.env xe'):Ok (cxT X zt xe') F G sc N :=
 ⟨O.hsc,O.hN,O.nd,O.calm,O.hu,own,O.glob,O.call,O.meth,O.mkc,O.blt,O.lam,fun hf x hx=>let L:=O.lamx hf x hx;⟨L.mem,L.ex,L.ql,L.bm⟩⟩
structure Kg (K:OM) (D:OR):Prop where
 all:∀ c,fm c=true->∃ C,CN K c C/\XT K c C/\mD K C/\sL K C D=true
noncomputable def iY (F:FT) (R:BT.XF) (D:Str->Bool) (G:Str->Option BT.W) (fn fr:BT.Fn) (ws:List BT.W) (h:BT.HH):Option (BT.W×BT.HH) :=
 if ws.length=fn.ps.length then (match BT.jy (BT.evS F G fn.body (BT.br fn.ns.length ws) h) (BT.fin h) with
  | some r=>some r
  | none=>match BT.rsS F R D G fn.body (BT.br fn.ns.length ws) h with
   | some (c,h')=>if fm c then pB fr [.x c] h' else none
   | none=>none) else none
section
variable {P:OU}{w:Pa}{K:OM}{mg:Str->Option Value}{base:Heap}{T TX:BT.FK->Option BT.Fn}{G:Str->Option BT.W}
theorem zT (X:Txt P w K mg T G) (Y:wJ K mg TX) {fnr:BT.Fn}{n rn:Str}{fr:OR}{fdr:PN}{body:List O9}{D:OR}{i:Nat}{p5 p6 hp:Pos} (Z:Kg K D)
 (h2:Fun K nm qual st f fd) (h3:aN fn.ns fn.ps (aa st)) (hB:ay st=[.Try body [.ExceptHandler (some (.Name tn p1)) (some n) [.Return (some (.Call (.Name rn p2) [.Name n p3] [] p5)) p6] hp] [] [] pos])
 (h5:CSs (aa st) fn.ns fn.body body) (h6:eB (aa st) fn.ns false fn.body body) (hnt:∀ x,fn.ns.contains (BT.bA x)=false) (hi:fn.ns[i]?=some n) (hln:(aa st).names.lookup n=some .local) (okn:aH n=true)
 (hgD:aE (aa st) tn=true) (okD:aH tn=true) (hmD:mg tn=some (.ref D)) (xD':mD K D) (hgR:aE (aa st) rn=true) (okR:aH rn=true) (hmR:mg rn=some (.ref fr)) (hkR:Po K (.ref fr)=true) (hbR:Binds K fdr fnr.ps []) (FR:FnU P w K mg base 1 fr fdr fnr.ps (spF P w K (pB fnr))) :
 cK P w K mg base CX0 (2*k+1+1) f fd fn.ps (spF P w K (iY (BT.runN T G k) (BT.dw T TX G k) (BT.dk T) G fn fnr)):=by
 obtain ⟨oc,od,kV,doc,pm,an,cdv,ct,osl,rfl,lk,hcd⟩:=h2.ex
 refine xW lk hcd h3 (fun vs H Q E h=>?_) fun A outer s H vs Q E hr h=>?_
 ·obtain ⟨m,ws,h,z,h',R,r,e,zr⟩:=h
  rw[r.length]
  unfold iY at e
  split at e
  ·rename_i c;exact c
  ·cases e
 ·obtain ⟨m,ws,h,z,h',R,r,e,zr⟩:=h
  unfold iY at e
  split at e
  ·have O:=Ke (CX:=CX0) (base:=base) (outer:=outer) (H:=H) (E:=E) (ps:=fn.ps) X h3.nd hnt hr
   rw[hB]
   refine ⟨fun Dd σ H'=>σ=L2.start fn.ns vs/\H'=H/\(∀ v H2,Dd.rt v H2↔Q v H2)/\∀ σ' H2,Dd.nx σ' H2↔Q .non H2,kT ?_,rfl,rfl,fun _ _=>Iff.rfl,fun _ _=>Iff.rfl⟩
   intro zt s1 σ H1 Dd I ⟨q1,q2,q3,q4⟩
   subst q1 q2
   refine wpAny_Try_except ?_
   cases g0:BT.jy (BT.evS (BT.runN T G k) G fn.body (BT.br fn.ns.length ws) h) (BT.fin h) with
   | some rr =>
    rw[g0] at e
    cases e
    cases gg:BT.evS (BT.runN T G k) G fn.body (BT.br fn.ns.length ws) h with
    | none=>rw[gg] at g0;cases g0
    | some fl =>
     rw[gg] at g0
     refine thn (sSs (Kf (zt:=zt) O Ui) (fun _=>rfl) h5 [] s1 (L2.start fn.ns vs) H1 { nx:=fun _ H2=>Q .non H2,rt:=Q } (EF I) ⟨m,_,h,fl,R,fq r,gg,?_⟩) fun fw s2 q=>?_
     ·cases fl with
      | rt y g =>
       intro v H' m' x' R' r'
       obtain ⟨m2,y1,y2,y3⟩:=bZ g0 R x' R' r'
       exact zr v H' m2 y1 y2 y3
      | nx s' g =>
       intro σ' H' m' x' R' _
       obtain ⟨m2,y1,y2,y3⟩:=bZ (v:=.non) g0 R x' R' (.p .non)
       exact zr .non H' m2 y1 y2 y3
      | _=>cases g0
     ·cases fw with
      | next =>
       obtain ⟨σ',H',J,z⟩:=q
       exact RB ⟨σ',H',zS I.ok J,(q4 _ _).mpr z⟩
      | ret u =>
       obtain ⟨v,σ',H',J,rv,z⟩:=q
       exact ⟨v,σ',H',zS I.ok J,rv,(q3 _ _).mpr z⟩
      | _=>obtain ⟨_,_,_,z⟩:=q;exact z.elim
   | none =>
    rw[g0] at e
    simp only at e
    cases g1:BT.rsS (BT.runN T G k) (BT.dw T TX G k) (BT.dk T) G fn.body (BT.br fn.ns.length ws) h with
    | none=>rw[g1] at e;cases e
    | some cq =>
     obtain ⟨c,hq⟩:=cq
     rw[g1] at e
     simp only at e
     split at e
     ·rename_i hxn
      obtain ⟨C,cnC,xt,xC,hsub⟩:=Z.all c hxn
      refine zL (R:=BT.dw T TX G k) (E:=fun cv _ H2=>cv=.ref C/\∃ m2,Ext m H1 m2 H2/\RH K m2 H2 hq) (ra:=false) (Kf (zt:=zt) O Ui) (zP (base:=base) X Y (Dc X Y k) rfl rfl rfl rfl rfl hr ?_) (fun z=>nomatch z) (fun _=>rfl) h6 [] s1 (L2.start fn.ns vs) H1 _ (EF I) ⟨m,_,h,c,hq,R,fq r,g1,fun H' m' x' R' C' hC'=>⟨by rw[hC'.inj cnC],m',x',R'⟩⟩
      ·intro pins' σ' H2 s2 ee s3 I' hcx
       refine wL (Wn:=fun H2=>∃ m2,Ext m H1 m2 H2/\RH K m2 H2 hq) (R:=Q) (zS I.ok I') hcx (fun C' d H' z=>⟨by have:=z.1;cases this;rfl,z.2⟩) h3.nd hi hln okn (aM O hgD) okD hmD (aM O hgR) okR hmR hkR hbR FR (hr.mono (by lia)) cnC xt xC xD' hsub (fun H' x wn hx=>?_) fun v u σ' H' s'' q rv J=>⟨v,σ',H',J,rv,(q3 _ _).mpr q⟩
       obtain ⟨m2,x2,R2⟩:=wn
       refine ⟨m2,[.x c],hq,z,h',R2.new hx,.cons (.x aG (R2.d9 hx) ⟨C,xt⟩) .nil,e,fun v H3 m3 x3 R3 r3=>?_⟩
       exact zr v H3 m3 ((x2.trans (eg hx)).trans x3) R3 r3
     ·cases e
  ·cases e
end
end BS
end
section
namespace BT
open PySem
variable {asked xs:List Int}{d:D}{e gv i k mo n q r:Nat}{g:Nat->Bool}{h h':HH}{l:List Nat}{α:Type}
noncomputable def cz:Fn:=⟨["part"],["part"],
 (.seq (.ife (.cmp .eq (.idx (.glo "INNER_COUNTS") (.idx (.var 0 "part") (.cst (.int 0)))) (.cst (.int 0))) (.ret (.tup .nil)) .nil)
 (.ret (.slc (.var 0 "part") (.cons (.cst (.int 1)) .nil) .nil)))⟩
noncomputable def jK:Fn:=⟨[],[],
 (.ret (.tup (.cons (.cst (.int 0)) (.cons (.bin .mul (.tup (.cons (.cst (.int 0)) .nil)) (.bi .len false (.cons (.glo "LETTERS") .nil))) (.cons (.bin .mul (.tup (.cons (.cst (.int 0)) .nil)) (.glo "CELL_COUNT")) (.cons (.tup .nil) (.cons (.cst (.int 0)) (.cons (.tup .nil) .nil))))))))⟩
noncomputable def fQ:Fn:=⟨["term"],["term","parts","waiting","part"],
 (.seq (.set 1 "parts" (.lst true .nil))
 (.seq (.set 2 "waiting" (.lst true (.cons (.var 0 "term") .nil)))
 (.seq (.whl (.cmp .gt (.bi .len false (.cons (.var 2 "waiting") .nil)) (.cst (.int 0))) (.seq (.set 3 "part" (.me .pop (.var 2 "waiting") .nil))
 (.seq (.ex (.me .append (.var 1 "parts") (.cons (.var 3 "part") .nil)))
 (.ex (.me .extend (.var 2 "waiting") (.cons (.call "inner_sums" (.cons (.var 3 "part") .nil)) .nil))))))
 (.ret (.var 1 "parts")))))⟩
noncomputable def iU:Fn:=⟨["word","one","other"],["word","one","other"],
 (.seq (.ife (.cmp .eq (.var 0 "word") (.cst (.str "less"))) (.ret (.ite (.cmp .lt (.var 1 "one") (.var 2 "other")) (.cst (.int 1)) (.cst (.int 0)))) .nil)
 (.seq (.ife (.cmp .eq (.var 0 "word") (.cst (.str "add"))) (.ret (.bin .mod (.bin .add (.var 1 "one") (.var 2 "other")) (.glo "WORTH_COUNT"))) .nil)
 (.seq (.ife (.cmp .eq (.var 0 "word") (.cst (.str "sub"))) (.ret (.bin .mod (.bin .sub (.var 1 "one") (.var 2 "other")) (.glo "WORTH_COUNT"))) .nil)
 (.ret (.bin .mod (.bin .mul (.var 1 "one") (.var 2 "other")) (.glo "WORTH_COUNT"))))))⟩
noncomputable def dB:Fn:=⟨["thing"],["thing"],
 (.ret (.cmp .mem (.var 0 "thing") (.glo "LETTERS")))⟩
noncomputable def fR:Fn:=⟨["state","thing"],["state","thing"],
 (.seq (.ife (.call "is_name" (.cons (.var 1 "thing") .nil)) (.ret (.idx (.idx (.var 0 "state") (.glo "NAMES")) (.me .tindex (.glo "LETTERS") (.cons (.var 1 "thing") .nil)))) .nil)
 (.seq (.ex (.call "check_thing" (.cons (.var 1 "thing") .nil)))
 (.ret (.idx (.idx (.var 0 "state") (.glo "CELLS")) (.var 1 "thing")))))⟩
noncomputable def bW:Fn:=⟨["part","worths","state"],["part","worths","state","word","last"],
 (.seq (.set 3 "word" (.idx (.var 0 "part") (.cst (.int 0))))
 (.seq (.ife (.cmp .eq (.var 3 "word") (.cst (.str "num"))) (.ret (.idx (.var 0 "part") (.cst (.int 1)))) .nil)
 (.seq (.ife (.cmp .eq (.var 3 "word") (.cst (.str "name"))) (.ret (.call "worth_in" (.cons (.var 2 "state") (.cons (.idx (.var 0 "part") (.cst (.int 1))) .nil)))) .nil)
 (.seq (.set 4 "last" (.me .pop (.var 1 "worths") .nil))
 (.seq (.ife (.cmp .eq (.var 3 "word") (.cst (.str "cell"))) (.ret (.idx (.idx (.var 2 "state") (.glo "CELLS")) (.bin .mod (.var 4 "last") (.glo "CELL_COUNT")))) .nil)
 (.ret (.call "of_two" (.cons (.var 3 "word") (.cons (.me .pop (.var 1 "worths") .nil) (.cons (.var 4 "last") .nil))))))))))⟩
noncomputable def fS:Fn:=⟨["term","state"],["term","state","worths","part"],
 (.seq (.set 2 "worths" (.lst true .nil))
 (.seq (.for [(3,"part")] .rev (.cons (.call "laid_out" (.cons (.var 0 "term") .nil)) .nil) (.ex (.me .append (.var 2 "worths") (.cons (.call "worth_of" (.cons (.var 3 "part") (.cons (.var 2 "worths") (.cons (.var 1 "state") .nil)))) .nil))))
 (.ret (.idx (.var 2 "worths") (.cst (.int 0))))))⟩
noncomputable def gF:Fn:=⟨["term","state"],["term","state"],
 (.ret (.bin .mod (.call "reckoned" (.cons (.var 0 "term") (.cons (.var 1 "state") .nil))) (.glo "CELL_COUNT")))⟩
noncomputable def fu:Fn:=⟨["program","state"],["program","state","word"],
 (.seq (.ife (.cmp .ge (.idx (.var 1 "state") (.glo "ROW")) (.bi .len false (.cons (.var 0 "program") .nil))) (.ret (.cst (.bl true))) .nil)
 (.seq (.set 2 "word" (.idx (.idx (.var 0 "program") (.idx (.var 1 "state") (.glo "ROW"))) (.cst (.int 0))))
 (.seq (.ife (.cmp .eq (.var 2 "word") (.cst (.str "back"))) (.ret (.cmp .eq (.bi .len false (.cons (.idx (.var 1 "state") (.glo "CALLS")) .nil)) (.cst (.int 0)))) .nil)
 (.seq (.ife (.cmp .eq (.var 2 "word") (.cst (.str "call"))) (.ret (.cmp .ge (.bi .len false (.cons (.idx (.var 1 "state") (.glo "CALLS")) .nil)) (.glo "MOST_CALLS"))) .nil)
 (.ret (.cmp .eq (.var 2 "word") (.cst (.str "stop"))))))))⟩
noncomputable def cH:Fn:=⟨["row","state"],["row","state","word"],
 (.seq (.set 2 "word" (.idx (.var 0 "row") (.cst (.int 0))))
 (.seq (.ife (.or (.cmp .eq (.var 2 "word") (.cst (.str "jump"))) (.cmp .eq (.var 2 "word") (.cst (.str "call")))) (.ret (.idx (.var 0 "row") (.cst (.int 1)))) .nil)
 (.seq (.ife (.cmp .eq (.var 2 "word") (.cst (.str "back"))) (.ret (.idx (.idx (.var 1 "state") (.glo "CALLS")) (.neg (.cst (.int 1))))) .nil)
 (.seq (.ife (.and (.cmp .eq (.var 2 "word") (.cst (.str "unless"))) (.cmp .eq (.call "reckoned" (.cons (.idx (.var 0 "row") (.cst (.int 1))) (.cons (.var 1 "state") .nil))) (.cst (.int 0)))) (.ret (.idx (.var 0 "row") (.cst (.int 2)))) .nil)
 (.ret (.bin .add (.idx (.var 1 "state") (.glo "ROW")) (.cst (.int 1))))))))⟩
noncomputable def dM:Fn:=⟨["worths","number","worth"],["worths","number","worth"],
 (.ret (.bin .add (.bin .add (.slc (.var 0 "worths") .nil (.cons (.var 1 "number") .nil)) (.tup (.cons (.var 2 "worth") .nil))) (.slc (.var 0 "worths") (.cons (.bin .add (.var 1 "number") (.cst (.int 1))) .nil) .nil)))⟩
noncomputable def eH:Fn:=⟨["state","name","worth"],["state","name","worth"],
 (.ret (.call "with_worth" (.cons (.idx (.var 0 "state") (.glo "NAMES")) (.cons (.me .tindex (.glo "LETTERS") (.cons (.var 1 "name") .nil)) (.cons (.var 2 "worth") .nil)))))⟩
noncomputable def fy:Fn:=⟨["asked","number"],["asked","number"],
 (.ret (.ite (.cmp .lt (.var 1 "number") (.bi .len false (.cons (.var 0 "asked") .nil))) (.idx (.var 0 "asked") (.var 1 "number")) (.cst (.int 0))))⟩
noncomputable def gG:Fn:=⟨["program","asked","state"],["program","asked","state","row","word","behind"],
 (.seq (.set 3 "row" (.idx (.var 0 "program") (.idx (.var 2 "state") (.glo "ROW"))))
 (.seq (.set 4 "word" (.idx (.var 3 "row") (.cst (.int 0))))
 (.seq (.set 5 "behind" (.bi .list true (.cons (.var 2 "state") .nil)))
 (.seq (.put 5 "behind" (.glo "ROW") (.call "place_behind" (.cons (.var 3 "row") (.cons (.var 2 "state") .nil))))
 (.seq (.ife (.cmp .eq (.var 4 "word") (.cst (.str "set"))) (.put 5 "behind" (.glo "NAMES") (.call "with_name" (.cons (.var 2 "state") (.cons (.idx (.var 3 "row") (.cst (.int 1))) (.cons (.call "reckoned" (.cons (.idx (.var 3 "row") (.cst (.int 2))) (.cons (.var 2 "state") .nil))) .nil))))) (.ife (.cmp .eq (.var 4 "word") (.cst (.str "put"))) (.put 5 "behind" (.glo "CELLS") (.call "with_worth" (.cons (.idx (.var 2 "state") (.glo "CELLS")) (.cons (.call "cell_by" (.cons (.idx (.var 3 "row") (.cst (.int 1))) (.cons (.var 2 "state") .nil))) (.cons (.call "reckoned" (.cons (.idx (.var 3 "row") (.cst (.int 2))) (.cons (.var 2 "state") .nil))) .nil))))) (.ife (.cmp .eq (.var 4 "word") (.cst (.str "ask"))) (.seq (.put 5 "behind" (.glo "NAMES") (.call "with_name" (.cons (.var 2 "state") (.cons (.idx (.var 3 "row") (.cst (.int 1))) (.cons (.call "brought" (.cons (.var 1 "asked") (.cons (.idx (.var 2 "state") (.glo "ASKED")) .nil))) .nil)))))
 (.put 5 "behind" (.glo "ASKED") (.bin .add (.idx (.var 2 "state") (.glo "ASKED")) (.cst (.int 1))))) (.ife (.cmp .eq (.var 4 "word") (.cst (.str "say"))) (.put 5 "behind" (.glo "SAID") (.bin .add (.idx (.var 2 "state") (.glo "SAID")) (.tup (.cons (.call "reckoned" (.cons (.idx (.var 3 "row") (.cst (.int 1))) (.cons (.var 2 "state") .nil))) .nil)))) (.ife (.cmp .eq (.var 4 "word") (.cst (.str "call"))) (.put 5 "behind" (.glo "CALLS") (.bin .add (.idx (.var 2 "state") (.glo "CALLS")) (.tup (.cons (.bin .add (.idx (.var 2 "state") (.glo "ROW")) (.cst (.int 1))) .nil)))) (.ife (.cmp .eq (.var 4 "word") (.cst (.str "back"))) (.put 5 "behind" (.glo "CALLS") (.slc (.idx (.var 2 "state") (.glo "CALLS")) .nil (.cons (.neg (.cst (.int 1))) .nil))) .nil))))))
 (.ret (.bi .tuple false (.cons (.var 5 "behind") .nil))))))))⟩
theorem uQ {s t:String}:O3 s=O3 t↔s=t:=by
 constructor
 ·intro h
  rw[Us,Us] at h
  have h1:(s.toList.map T6)=(t.toList.map T6):=by
   have:=congrArg (fun x:Str=>x.cps.toList) h
   simpa using this
  have inj:∀ (a b:List Char),a.map T6=b.map T6->a=b:=by
   intro a
   induction a with
   | nil=>intro b h;cases b with
    | nil=>rfl
    | cons _ _=>simp at h
   | cons x xs ih=>intro b h;cases b with
    | nil=>simp at h
    | cons y ys =>
     simp only[Px,Rg] at h
     have:x=y:=Char.toNat_inj.mp h.1
     rw[this,ih ys h.2]
  have h2:=inj _ _ h1
  exact String.toList_inj.mp h2
 ·intro h;rw[h]
@[simp] theorem LS (s t:String):(O3 s==O3 t)=(s==t):=by
 by_cases h:s=t
 ·subst h;simp
 ·have h1:¬ O3 s=O3 t:=fun e=>h (uQ.mp e)
  rw[beq_eq_false_iff_ne.mpr h1,beq_eq_false_iff_ne.mpr h]
@[simp] theorem Nl (s t:String):(O3 s=O3 t)=(s=t):=propext uQ
@[simp] theorem OE  (h:List α) (a:α) (r:List α):(h++a :: r)[h.length]?=some a:=by simp
@[simp] theorem Kl  (h:List α) (a b:α) (r:List α):(h++a :: b :: r)[h.length+1]?=some b:=by
 rw[Pd (by lia)];simp
@[simp] theorem OF  (h:List α) (a x:α) (r:List α):(h++a :: r).set h.length x=h++x :: r:=by simp
@[simp] theorem OG  (h:List α) (a b x:α) (r:List α):(h++a :: b :: r).set (h.length+1) x=h++a :: x :: r:=by
 rw[List.set_append_right _ _ (by lia)];simp
theorem af (h:HH) (w:W):fin h w h=some (w,h):=by simp[fin]
theorem gu (h g:HH) (d:D):fin h (.p d) (h++g)=some (.p d,h):=by
 unfold fin
 cases g with
 | _=>simp
@[simp] theorem Nn (h:HH) (a:Cl) (r:HH):lat (h++a :: r) h.length=oJ a:=by simp[lat]
@[simp] theorem OH (h:HH) (a b:Cl) (r:HH):lat (h++a :: b :: r) (h.length+1)=oJ b:=by
 unfold lat;rw[Kl];rfl
@[simp] theorem OI (h:HH) (a:Cl) (r:HH):oat (h++a :: r) h.length=qi a:=by simp[oat]
@[simp] theorem OJ (h:HH) (a b:Cl) (r:HH):oat (h++a :: b :: r) (h.length+1)=qi b:=by
 unfold oat;rw[Kl];rfl
theorem Dg {ys:List D} (e:lat h n=some ys) (c:Cl):lat (h.set n c) n=oJ c:=by
 unfold lat at e ⊢
 cases g:h[n]? with
 | none=>rw[g] at e;cases e
 | some q=>rw[List.getElem?_set_self',g];rfl
theorem EG (h:HH) (xs:List D) (g:HH):fin h (.r h.length) (h++.l xs :: g)=some (.p (.lst xs),h):=by
 unfold fin;simp
theorem uR (h h':HH) (w:W) (e:h'.length=h.length):fin h w h'=some (w,h'):=by simp[fin,e]
structure Prg (T:FK->Option Fn) (G:Str->Option W):Prop where
 inner_sums:T "inner_sums"=some cz
 begun:T "begun"=some jK
 laid_out:T "laid_out"=some fQ
 of_two:T "of_two"=some iU
 worth_of:T "worth_of"=some bW
 is_name:T "is_name"=some dB
 worth_in:T "worth_in"=some fR
 reckoned:T "reckoned"=some fS
 cell_by:T "cell_by"=some gF
 is_over:T "is_over"=some fu
 place_behind:T "place_behind"=some cH
 with_worth:T "with_worth"=some dM
 with_name:T "with_name"=some eH
 brought:T "brought"=some fy
 stepped:T "stepped"=some gG
 LETTERS:G "LETTERS"=some (.p (.tup [.str "a",.str "b",.str "c",.str "d",.str "e",.str "f"]))
 CELL_COUNT:G "CELL_COUNT"=some (.p (.int 4))
 WORTH_COUNT:G "WORTH_COUNT"=some (.p (.int 10007))
 INNER:G "INNER_COUNTS"=some (.k [("num",.int 0),("name",.int 0),("cell",.int 1),("add",.int 2),("sub",.int 2),("mul",.int 2),("less",.int 2)])
 ROW:G "ROW"=some (.p (.int 0))
 NAMES:G "NAMES"=some (.p (.int 1))
 CELLS:G "CELLS"=some (.p (.int 2))
 CALLS:G "CALLS"=some (.p (.int 3))
 ASKED:G "ASKED"=some (.p (.int 4))
 SAID:G "SAID"=some (.p (.int 5))
 MOST_CALLS:G "MOST_CALLS"=some (.p (.int 6))
inductive Op where
 | add|sub|mul|less
noncomputable def Op.w:Op->String
 | .add=>"add" | .sub=>"sub" | .mul=>"mul" | .less=>"less"
inductive Nm where
 | a|b|c|d|e|f
noncomputable def Nm.w:Nm->String
 | .a=>"a" | .b=>"b" | .c=>"c" | .d=>"d" | .e=>"e" | .f=>"f"
noncomputable def Nm.ix:Nm->Nat
 | .a=>0 | .b=>1 | .c=>2 | .d=>3 | .e=>4 | .f=>5
theorem Nm.uS (x:Nm):x.ix < 6:=by cases x<;>decide
inductive Sm where
 | num (n:Int)
 | nam (i:Nm)
 | cell (s:Sm)
 | two (o:Op) (s t:Sm)
noncomputable def Sm.enc:Sm->D
 | .num n=>.tup [.str "num",.int n]
 | .nam i=>.tup [.str "name",.str i.w]
 | .cell s=>.tup [.str "cell",s.enc]
 | .two o s t=>.tup [.str o.w,s.enc,t.enc]
noncomputable def Sm.size:Sm->Nat
 | .num _=>1
 | .nam _=>1
 | .cell s=>s.size+1
 | .two _ s t=>s.size+t.size+1
noncomputable def Sm.lay:Sm->List Sm
 | .num n=>[.num n]
 | .nam i=>[.nam i]
 | .cell s=>.cell s :: s.lay
 | .two o s t=>.two o s t :: (t.lay++s.lay)
noncomputable def Sm.subs:Sm->List Sm
 | .num _=>[]
 | .nam _=>[]
 | .cell s=>[s]
 | .two _ s t=>[s,t]
def Wth (n:Int):Prop:=0<=n/\n<=10006
noncomputable def Sm.ok:Sm->Prop
 | .num n=>Wth n
 | .nam _=>True
 | .cell s=>s.ok
 | .two _ s t=>s.ok/\t.ok
theorem Sm.size_pos (s:Sm):1<=s.size:=by cases s<;>simp[Sm.size]
structure St where
 row:Nat
 names:List Int
 cells:List Int
 calls:List Nat
 asked:Nat
 said:List Int
noncomputable def ah (xs:List Int):List D:=xs.map D.int
noncomputable def au (xs:List Nat):List D:=xs.map fun (n:Nat)=>D.int (n:Int)
noncomputable def St.enc (s:St):D:=.tup [.int s.row,.tup (ah s.names),.tup (ah s.cells),.tup (au s.calls),.int s.asked,.tup (ah s.said)]
structure St.ok (s:St):Prop where
 nlen:s.names.length=6
 clen:s.cells.length=4
 nw:∀ x∈s.names,Wth x
 cw:∀ x∈s.cells,Wth x
noncomputable def two (o:Op) (x y:Int):Int:=match o with
 | .add=>(x+y) % 10007
 | .sub=>(x - y) % 10007
 | .mul=>(x*y) % 10007
 | .less=>if x < y then 1 else 0
noncomputable def Sm.val (st:St):Sm->Int
 | .num n=>n
 | .nam i=>st.names.getD i.ix 0
 | .cell s=>st.cells.getD (s.val st % 4).toNat 0
 | .two o s t=>BT.two o (s.val st) (t.val st)
theorem sN  (h:∀ x∈xs,Wth x) (i:Nat):Wth (xs.getD i 0):=by
 rw[P8]
 cases e:xs[i]? with
 | none=>exact ⟨by decide,by decide⟩
 | some x=>exact h x (O5 e)
theorem Km (o:Op) {x y:Int}:Wth (BT.two o x y):=by
 cases o<;>simp only[BT.two,Wth]
 ·lia
 ·lia
 ·lia
 ·split<;>decide
theorem Sm.nY {st:St} (ho:st.ok):∀ {s:Sm},s.ok->Wth (s.val st)
 | .num _,h=>h
 | .nam i,_=>sN ho.nw _
 | .cell _,_=>sN ho.cw _
 | .two _ _ _,_=>Km _
section
variable {T:FK->Option Fn}{G:Str->Option W}
theorem wM (P:Prg T G) (k:Nat) (s:Sm) (h:HH):runN T G (k+1) "inner_sums" [.p s.enc] h=some (.p (.tup (s.subs.map Sm.enc)),h):=by
 rw[run_eq P.inner_sums rfl]
 cases s with
 | two o s t =>
  have g:=P.INNER
  have q:c9 (O3 o.w) [("num",.int 0),("name",.int 0),("cell",.int 1),("add",.int 2),("sub",.int 2),("mul",.int 2),("less",.int 2)]=some (.int 2):=by cases o<;>simp[Op.w]
  generalize ([("num",.int 0),("name",.int 0),("cell",.int 1),("add",.int 2),("sub",.int 2),("mul",.int 2),("less",.int 2)]:List (Str×D))=I at *
  simp[cz,g,q,Sm.enc,Sm.subs,af]
 | _=>simp[cz,P.INNER,Sm.enc,Sm.subs,af]
theorem sO (P:Prg T G) (k:Nat) (o:Op) {x y:Int} (hx:Wth x) (h:HH) :
 runN T G (k+1) "of_two" [.p (.str o.w),.p (.int x),.p (.int y)] h=some (.p (.int (two o x y)),h):=by
 rw[run_eq P.of_two rfl]
 have b:big x=true:=by unfold big;exact decide_eq_true (by have h1:=hx.1;have h2:=hx.2;lia)
 cases o<;>simp[iU,P.WORTH_COUNT,af,Op.w,two,b]
 by_cases c:x < y<;>simp[c,af]
noncomputable def nk:List D:=[.str "a",.str "b",.str "c",.str "d",.str "e",.str "f"]
theorem Dh (x:Nm):dX .mem (.str x.w) (.tup nk)=some true:=by cases x<;>simp[nk,Nm.w]
theorem zU (x:Nm):meD .tindex (.tup nk) [.str x.w]=some (.int (x.ix:Int)):=by
 rw[yb]
 cases x<;>simp[nk,Nm.w,Nm.ix,fj]
theorem qN  (h:i < xs.length):aA (.tup (ah xs)) (.int (i:Int))=some (.int (xs.getD i 0)):=by
 show atP _ _=_
 unfold atP place ah
 rw[if_pos (Int.natCast_nonneg _),if_pos (by rw[Pq];lia)]
 show (xs.map D.int)[((i:Int)).toNat]?=_
 rw[Int.toNat_natCast,Pb,P8,OZ h];rfl
theorem nZ (st:St):aA st.enc (.int 1)=some (.tup (ah st.names)):=rfl
theorem wN (st:St):aA st.enc (.int 2)=some (.tup (ah st.cells)):=rfl
theorem kE (P:Prg T G) (k:Nat) (x:Nm) (h:HH):runN T G (k+1) "is_name" [.p (.str x.w)] h=some (.p (.bl true),h):=by
 rw[run_eq P.is_name rfl]
 have g:G "LETTERS"=some (.p (.tup nk)):=P.LETTERS
 have m:=Dh x
 generalize nk=L at *
 simp[-bI,dB,g,m,af]
theorem pC (P:Prg T G) (k:Nat) (st:St) (ho:st.ok) (x:Nm) (h:HH):runN T G (k+2) "worth_in" [.p st.enc,.p (.str x.w)] h=some (.p (.int (st.names.getD x.ix 0)),h):=by
 rw[run_eq P.worth_in rfl]
 have r:=kE P k x
 have lx:=x.uS
 have i1:=qN (xs:=st.names) (i:=x.ix) (by rw[ho.nlen];exact lx)
 have i2:=zU x
 have i3:=nZ st
 have g:G "LETTERS"=some (.p (.tup nk)):=P.LETTERS
 generalize nk=L at *
 generalize st.enc=se at *
 generalize ah st.names=sn at *
 simp[-aB,fR,r,P.NAMES,g,i1,i2,i3,af]
theorem iA (P:Prg T G) (k:Nat) (st:St) (ho:st.ok) (n:Nat) (h:HH) :
 (∀ i,runN T G (k+3) "worth_of" [.p (Sm.num i).enc,.r n,.p st.enc] h=some (.p (.int i),h)) ∧
 (∀ i,runN T G (k+3) "worth_of" [.p (Sm.nam i).enc,.r n,.p st.enc] h=some (.p (.int (st.names.getD i.ix 0)),h)):=by
 refine ⟨fun i=>?_,fun i=>?_⟩<;>rw[run_eq P.worth_of rfl]
 ·simp[bW,Sm.enc,af]
 ·have r:=pC P k st ho i
  simp[bW,Sm.enc,af,r]
theorem mF (P:Prg T G) (k:Nat) (st:St) (ho:st.ok) (n:Nat) (h:HH) (s:Sm) (ws:List D) (v:Int) (e:lat h n=some (ws++[.int v])) (hv:0<=v) :
 runN T G (k+1) "worth_of" [.p (Sm.cell s).enc,.r n,.p st.enc] h=some (.p (.int (st.cells.getD (v % 4).toNat 0)),h.set n (.l ws)):=by
 rw[run_eq P.worth_of rfl]
 have c:(((v % 4).toNat:Nat):Int)=v % 4:=by lia
 have i1:=qN (xs:=st.cells) (i:=(v % 4).toNat) (by rw[ho.clen];lia)
 rw[c] at i1
 have i3:=wN st
 generalize st.enc=se at *
 generalize ah st.cells=sn at *
 generalize st.cells.getD (v % 4).toNat 0=z at *
 simp[bW,Sm.enc,P.CELLS,P.CELL_COUNT,e,i1,i3,uR]
theorem Op.other (o:Op):¬ o.w="num"/\¬ o.w="name"/\¬ o.w="cell":=by cases o<;>decide
theorem nq (P:Prg T G) (k:Nat) (st:St) (n:Nat) (h:HH) (o:Op) (s t:Sm) (ws:List D) (x y:Int) (hx:Wth x) (e:lat h n=some (ws++[.int x,.int y])) :
 runN T G (k+2) "worth_of" [.p (Sm.two o s t).enc,.r n,.p st.enc] h=some (.p (.int (two o x y)),h.set n (.l ws)):=by
 rw[run_eq P.worth_of rfl]
 have e3:lat (h.set n (.l (ws++[.int x]))) n=some (ws++[.int x]):=Dg e _
 have e1:(ws++[D.int x,D.int y]).getLast?=some (.int y):=by simp
 have e2:(ws++[D.int x,D.int y]).dropLast=ws++[.int x]:=by simp
 have r:=fun hh=>sO P k o (x:=x) (y:=y) hx hh
 obtain ⟨n1,n2,n3⟩:=o.other
 have en:(Sm.two o s t).enc=.tup [.str o.w,s.enc,t.enc]:=rfl
 rw[en]
 generalize o.w=ow at *
 generalize s.enc=se at *
 generalize t.enc=te at *
 simp[bW,e,e1,e2,e3,n1,n2,n3,r,uR,Uv]
noncomputable def loC:E:=.cmp .gt (.bi .len false (.cons (.var 2 "waiting") .nil)) (.cst (.int 0))
noncomputable def loB:S:=.seq (.set 3 "part" (.me .pop (.var 2 "waiting") .nil))
 (.seq (.ex (.me .append (.var 1 "parts") (.cons (.var 3 "part") .nil)))
 (.ex (.me .extend (.var 2 "waiting") (.cons (.call "inner_sums" (.cons (.var 3 "part") .nil)) .nil))))
noncomputable def sizes (l:List Sm):Nat:=(l.map Sm.size).sum
theorem sP (s:Sm) (l:List Sm):sizes (s.subs.reverse++l)+1=sizes (s :: l):=by
 cases s<;>simp[sizes,Sm.subs,Sm.size]<;>lia
theorem zV (s:Sm) (l:List Sm):(s :: l).flatMap Sm.lay=s :: (s.subs.reverse++l).flatMap Sm.lay:=by
 cases s<;>simp[Sm.lay,Sm.subs,List.flatMap_cons]
theorem Di (s:Sm):s.subs.length<=2:=by cases s<;>simp[Sm.subs]
theorem n8 (l:List Sm):l.length<=sizes l:=by
 induction l with
 | nil=>simp[sizes]
 | cons s l ih =>
  have h1:=s.size_pos
  simp only[sizes,Px,Ua,Ph] at ih ⊢
  lia
theorem Dj (P:Prg T G) (k:Nat) (h:HH) (t0:W):∀ (m:Nat) (stk:List Sm) (ps:List D) (x:Option W),sizes stk<=m->ps.length+sizes stk<=50000 →
 ∃ x',b9 (ev (runN T G (k+1)) G loC) (evS (runN T G (k+1)) G loB) (m+1) [some t0,some (.r h.length),some (.r (h.length+1)),x] (h++[.l ps,.l (stk.reverse.map Sm.enc)]) =
  some (.nx [some t0,some (.r h.length),some (.r (h.length+1)),x'] (h++[.l (ps++(stk.flatMap Sm.lay).map Sm.enc),.l []])):=by
 intro m
 induction m with
 | zero =>
  intro stk ps x hs _
  have:stk=[]:=by
   have:=n8 stk
   exact Tj (by lia)
  subst this
  exact ⟨x,by simp[b9,loC,rd]⟩
 | succ m ih =>
  intro stk ps x hs hl
  cases stk with
  | nil=>exact ⟨x,by simp[b9,loC,rd]⟩
  | cons s l =>
   have e:=sP s l
   obtain ⟨x',q⟩:=ih (s.subs.reverse++l) (ps++[s.enc]) (some (.p s.enc)) (by lia) (by simp only[PK,Sb];lia)
   refine ⟨x',?_⟩
   have r:=wM P k s
   have l1:l.length+s.subs.length<=100000:=by
    have h1:=Di s
    have h2:=n8 l
    have h3:sizes (s :: l)=s.size+sizes l:=by simp[sizes]
    lia
   have c1:(0:Int) < (l.length:Int)+1:=by lia
   have l2:ps.length < 100000:=by lia
   have hc:ev (runN T G (k+1)) G loC [some t0,some (.r h.length),some (.r (h.length+1)),x] (h++[.l ps,.l ((s :: l).reverse.map Sm.enc)])=some (.p (.bl true),h++[.l ps,.l ((s :: l).reverse.map Sm.enc)]):=by
    simp[loC,rd,c1]
   have hb:evS (runN T G (k+1)) G loB [some t0,some (.r h.length),some (.r (h.length+1)),x] (h++[.l ps,.l ((s :: l).reverse.map Sm.enc)]) =
    some (.nx [some t0,some (.r h.length),some (.r (h.length+1)),some (.p s.enc)] (h++[.l (ps++[s.enc]),.l ((s.subs.reverse++l).reverse.map Sm.enc)])):=by
    simp[loB,r,l1,l2]
   rw[b9,hc,g9,lO,hb,bU,q,zV,Px,Qx,Qp]
theorem mG:fQ=⟨["term"],["term","parts","waiting","part"],.seq (.set 1 "parts" (.lst true .nil))
 (.seq (.set 2 "waiting" (.lst true (.cons (.var 0 "term") .nil))) (.seq (.whl loC loB) (.ret (.var 1 "parts"))))⟩:=rfl
theorem pF (P:Prg T G) (k:Nat) (s:Sm) (hs:s.size<=40000) (h:HH):runN T G (k+2) "laid_out" [.p s.enc] h=some (.p (.lst (s.lay.map Sm.enc)),h):=by
 rw[run_eq P.laid_out rfl]
 obtain ⟨x',q⟩:=Dj P k h (.p s.enc) 99999 [s] [] none (by simp only[sizes,Px,QZ,Ua,List.sum_nil];lia) (by simp only[sizes,Px,QZ,Ua,List.sum_nil,Qv];lia)
 simp only[List.flatMap_cons,List.flatMap_nil,Pr,Q5,RZ,Px,QZ] at q
 rw[mG]
 simp[turns,q,EG]
noncomputable def rkB:S:=.ex (.me .append (.var 2 "worths") (.cons (.call "worth_of" (.cons (.var 3 "part") (.cons (.var 2 "worths") (.cons (.var 1 "state") .nil)))) .nil))
theorem Dk (P:Prg T G) (k:Nat) (h:HH) (t0:W) (st:St) (ho:st.ok):∀ (s:Sm),s.ok->∀ (ws:List D) (rest:List D) (x:Option W),ws.length+s.size<=50000 →
 ∃ x',bM (evS (runN T G (k+3)) G rkB) [(3,"part")] ((s.lay.map Sm.enc).reverse++rest) [some t0,some (.p st.enc),some (.r h.length),x] (h++[.l ws]) =
  bM (evS (runN T G (k+3)) G rkB) [(3,"part")] rest [some t0,some (.p st.enc),some (.r h.length),x'] (h++[.l (ws++[.int (s.val st)])]):=by
 intro s
 induction s with
 | num n =>
  intro _ ws rest x hl
  refine ⟨some (.p (Sm.num n).enc),?_⟩
  have r:=(iA P k st ho h.length (h++[.l ws])).1 n
  have l:ws.length < 100000:=by simp only[Sm.size] at hl;lia
  have hb:evS (runN T G (k+3)) G rkB [some t0,some (.p st.enc),some (.r h.length),some (.p (Sm.num n).enc)] (h++[.l ws]) =
   some (.nx [some t0,some (.p st.enc),some (.r h.length),some (.p (Sm.num n).enc)] (h++[.l (ws++[.int n])])):=by
   simp[rkB,r,l]
  simp only[Sm.lay,Px,QZ,RZ,Qp,Sm.val]
  simp[hb]
 | nam i =>
  intro _ ws rest x hl
  refine ⟨some (.p (Sm.nam i).enc),?_⟩
  have r:=(iA P k st ho h.length (h++[.l ws])).2 i
  have l:ws.length < 100000:=by simp only[Sm.size] at hl;lia
  have hb:evS (runN T G (k+3)) G rkB [some t0,some (.p st.enc),some (.r h.length),some (.p (Sm.nam i).enc)] (h++[.l ws]) =
   some (.nx [some t0,some (.p st.enc),some (.r h.length),some (.p (Sm.nam i).enc)] (h++[.l (ws++[.int (st.names.getD i.ix 0)])])):=by
   simp[rkB,r,l]
  simp only[Sm.lay,Px,QZ,RZ,Qp,Sm.val]
  simp[hb]
 | cell s ih =>
  intro hok ws rest x hl
  obtain ⟨x1,e1⟩:=ih hok ws ((Sm.cell s).enc :: rest) x (by simp only[Sm.size] at hl;lia)
  refine ⟨some (.p (Sm.cell s).enc),?_⟩
  have r:=mF P (k+2) st ho h.length (h++[.l (ws++[.int (s.val st)])]) s ws (s.val st) (by simp) (Sm.nY (s:=s) ho hok).1
  have l:ws.length < 100000:=by simp only[Sm.size] at hl;lia
  have hb:evS (runN T G (k+3)) G rkB [some t0,some (.p st.enc),some (.r h.length),some (.p (Sm.cell s).enc)] (h++[.l (ws++[.int (s.val st)])]) =
   some (.nx [some t0,some (.p st.enc),some (.r h.length),some (.p (Sm.cell s).enc)] (h++[.l (ws++[.int ((Sm.cell s).val st)])])):=by
   simp[rkB,r,l,Sm.val]
  simp only[Sm.lay,Px,List.reverse_cons,Qx,Qp]
  rw[e1]
  simp[hb]
 | two o s t ihs iht =>
  intro hok ws rest x hl
  have hl':=hl
  simp only[Sm.size] at hl'
  obtain ⟨x1,e1⟩:=ihs hok.1 ws ((t.lay.map Sm.enc).reverse++((Sm.two o s t).enc :: rest)) x (by lia)
  obtain ⟨x2,e2⟩:=iht hok.2 (ws++[.int (s.val st)]) ((Sm.two o s t).enc :: rest) x1 (by simp only[PK,Sb];have:=s.size_pos;lia)
  refine ⟨some (.p (Sm.two o s t).enc),?_⟩
  have r:=nq P (k+1) st h.length (h++[.l (ws++[.int (s.val st),.int (t.val st)])]) o s t ws (s.val st) (t.val st) (Sm.nY ho hok.1) (by simp)
  have l:ws.length < 100000:=by lia
  have hb:evS (runN T G (k+3)) G rkB [some t0,some (.p st.enc),some (.r h.length),some (.p (Sm.two o s t).enc)] (h++[.l (ws++[.int (s.val st),.int (t.val st)])]) =
   some (.nx [some t0,some (.p st.enc),some (.r h.length),some (.p (Sm.two o s t).enc)] (h++[.l (ws++[.int ((Sm.two o s t).val st)])])):=by
   simp[rkB,r,l,Sm.val]
  simp only[Sm.lay,Px,QH,List.reverse_cons,List.reverse_append,Qx,Qp]
  rw[e1,e2]
  simp only[Qx,Qp]
  simp[hb]
theorem mH:fS=⟨["term","state"],["term","state","worths","part"],.seq (.set 2 "worths" (.lst true .nil))
 (.seq (.for [(3,"part")] .rev (.cons (.call "laid_out" (.cons (.var 0 "term") .nil)) .nil) rkB) (.ret (.idx (.var 2 "worths") (.cst (.int 0)))))⟩:=rfl
theorem cV (P:Prg T G) (k:Nat) (s:Sm) (hs:s.size<=40000) (hok:s.ok) (st:St) (ho:st.ok) (h:HH) :
 runN T G (k+4) "reckoned" [.p s.enc,.p st.enc] h=some (.p (.int (s.val st)),h):=by
 rw[run_eq P.reckoned rfl]
 obtain ⟨x',q⟩:=Dk P k h (.p s.enc) st ho s hok [] [] none (by simp only[Qv];lia)
 rw[mH]
 simp only[Pr,Q5] at q
 have r:=pF P (k+1) s hs
 simp[r,fD,q,gu,rd]
end
section
variable {T:FK->Option Fn}{G:Str->Option W}
theorem cW  (xs:List α) (i:Nat):atP xs (i:Int)=xs[i]?:=by
 unfold atP place
 by_cases h:i < xs.length
 ·have h1:((i:Int) < (xs.length:Int)):=by lia
  simp[h1,h]
 ·have h1:¬ ((i:Int) < (xs.length:Int)):=by lia
  simp[h1];lia
theorem iB (P:Prg T G) (k:Nat) (xs:List D) (i:Nat) (hi:i < xs.length) (hl:xs.length<=1000) (d:D) (h:HH) :
 runN T G (k+1) "with_worth" [.p (.tup xs),.p (.int i),.p d] h=some (.p (.tup (xs.set i d)),h):=by
 rw[run_eq P.with_worth rfl]
 have a1:¬ ((i:Int) < 0):=by lia
 have a2:(i:Int)<=(xs.length:Int):=by lia
 have a3:¬ ((i:Int)+1 < 0):=by lia
 have a4:(i:Int)+1<=(xs.length:Int):=by lia
 have a5:((i:Int)+1).toNat=i+1:=by lia
 have a6:xs.length - (i+1)+(i+1)<=100000:=by lia
 have a7:i+1+(xs.length - (i+1))<=100000:=by lia
 have a8:min i xs.length=i:=by lia
 have a9:i+1<=100000:=by lia
 have e:xs.take i++d :: xs.drop (i+1)=xs.set i d:=by
  rw[List.set_eq_take_append_cons_drop,if_pos hi]
 have b1:(xs.take i).length=i:=by simp;lia
 have b2:(xs.drop (i+1)).length=xs.length - (i+1):=by simp
 have b3:((xs.drop (i+1)).take (xs.length - (i+1)))=xs.drop (i+1):=by
  apply List.take_of_length_le;simp
 simp[dM,a1,a2,a3,a4,a5,a7,a8,a9,b3,e,af]
@[simp] theorem Ot (st:St):aA st.enc (.int 0)=some (.int st.row):=rfl
@[simp] theorem Ou (st:St):aA st.enc (.int 1)=some (.tup (ah st.names)):=rfl
@[simp] theorem Ow (st:St):aA st.enc (.int 2)=some (.tup (ah st.cells)):=rfl
@[simp] theorem Ox (st:St):aA st.enc (.int 3)=some (.tup (au st.calls)):=rfl
@[simp] theorem Oz (st:St):aA st.enc (.int 4)=some (.int st.asked):=rfl
@[simp] theorem OA (st:St):aA st.enc (.int 5)=some (.tup (ah st.said)):=rfl
inductive Rw where
 | set (x:Nm) (s:Sm)|put (s t:Sm)|ask (x:Nm)|say (s:Sm)|jump (p:Nat)|unless (s:Sm) (p:Nat)|call (p:Nat)|back|stop
noncomputable def Rw.enc:Rw->D
 | .set x s=>.tup [.str "set",.str x.w,s.enc]
 | .put s t=>.tup [.str "put",s.enc,t.enc]
 | .ask x=>.tup [.str "ask",.str x.w]
 | .say s=>.tup [.str "say",s.enc]
 | .jump p=>.tup [.str "jump",.int p]
 | .unless s p=>.tup [.str "unless",s.enc,.int p]
 | .call p=>.tup [.str "call",.int p]
 | .back=>.tup [.str "back"]
 | .stop=>.tup [.str "stop"]
def mJ (s:Sm):Prop:=s.ok/\s.size<=15
noncomputable def Rw.ok (n:Nat):Rw->Prop
 | .set _ s=>mJ s
 | .put s t=>mJ s/\mJ t
 | .ask _=>True
 | .say s=>mJ s
 | .jump p=>p<=n
 | .unless s p=>mJ s/\p<=n
 | .call p=>p<=n
 | .back=>True
 | .stop=>True
noncomputable abbrev Pg:=List Rw
noncomputable def aW (p:Pg):D:=.tup (p.map Rw.enc)
def Pg.ok (p:Pg):Prop:=∀ r∈p,r.ok p.length
noncomputable def Rw.next (asked:List Int) (st:St):Rw->St
 | .set x s=>{ st with row:=st.row+1,names:=st.names.set x.ix (s.val st) }
 | .put s t=>{ st with row:=st.row+1,cells:=st.cells.set (s.val st % 4).toNat (t.val st) }
 | .ask x=>{ st with row:=st.row+1,names:=st.names.set x.ix (asked.getD st.asked 0),asked:=st.asked+1 }
 | .say s=>{ st with row:=st.row+1,said:=st.said++[s.val st] }
 | .jump p=>{ st with row:=p }
 | .unless s p=>{ st with row:=if s.val st=0 then p else st.row+1 }
 | .call p=>{ st with row:=p,calls:=st.calls++[st.row+1] }
 | .back=>{ st with row:=st.calls.getLast?.getD 0,calls:=st.calls.dropLast }
 | .stop=>st
noncomputable def Rw.over (st:St):Rw->Bool
 | .back=>st.calls.length==0
 | .call _=>decide (6<=st.calls.length)
 | .stop=>true
 | _=>false
noncomputable def over (p:Pg) (st:St):Bool:=match p[st.row]? with
 | some r=>r.over st
 | none=>true
noncomputable def step (p:Pg) (asked:List Int) (st:St):St:=match p[st.row]? with
 | some r=>r.next asked st
 | none=>st
noncomputable def St.zero:St:=⟨0,[0,0,0,0,0,0],[0,0,0,0],[],0,[]⟩
theorem Dl:St.zero.ok:=⟨rfl,rfl,by simp[St.zero,Wth],by simp[St.zero,Wth]⟩
noncomputable def sts (p:Pg) (asked:List Int):Nat->St->List St
 | 0,st=>[st]
 | n+1,st=>if over p st then [st] else st :: sts p asked n (step p asked st)
theorem wO (P:Prg T G) (k:Nat) (h:HH):runN T G (k+1) "begun" [] h=some (.p St.zero.enc,h):=by
 rw[run_eq P.begun rfl]
 simp[jK,P.LETTERS,P.CELL_COUNT,af,St.zero,St.enc,ah,au,rep,O7,List.flatten]
theorem qO (P:Prg T G) (k:Nat) (asked:List Int) (n:Nat) (h:HH):runN T G (k+1) "brought" [.p (.lst (ah asked)),.p (.int n)] h=some (.p (.int (asked.getD n 0)),h):=by
 rw[run_eq P.brought rfl]
 by_cases c:n < asked.length
 ·have c1:(n:Int) < (asked.length:Int):=by lia
  simp[fy,ah,c,c1,af]
 ·have c1:¬ (n:Int) < (asked.length:Int):=by lia
  have e:asked[n]?=none:=O0 (by lia)
  simp[fy,ah,c1,af,e]
theorem iZ (P:Prg T G) (k:Nat) (st:St) (ho:st.ok) (x:Nm) (d:Int) (h:HH) :
 runN T G (k+2) "with_name" [.p st.enc,.p (.str x.w),.p (.int d)] h=some (.p (.tup (ah (st.names.set x.ix d))),h):=by
 rw[run_eq P.with_name rfl]
 have r:=fun i=>iB P k (ah st.names) i
 have l:(ah st.names).length=6:=by simp[ah,ho.nlen]
 have e:(ah st.names).set x.ix (.int d)=ah (st.names.set x.ix d):=by simp[ah,List.map_set]
 have q:=r x.ix (by rw[l];exact x.uS) (by lia) (.int d)
 rw[e] at q
 have g:G "LETTERS"=some (.p (.tup nk)):=P.LETTERS
 have i2:=zU x
 have i3:=nZ st
 generalize nk=L at *
 generalize st.enc=se at *
 generalize hz:(x.ix:Int)=z at *
 simp[eH,P.NAMES,g,i2,i3,af,q]
theorem kF (P:Prg T G) (k:Nat) (s:Sm) (hs:mJ s) (st:St) (ho:st.ok) (h:HH):runN T G (k+5) "cell_by" [.p s.enc,.p st.enc] h=some (.p (.int (s.val st % 4)),h):=by
 rw[run_eq P.cell_by rfl]
 have q:=cV P k s (by have:=hs.2;lia) hs.1 st ho
 simp[gF,q,P.CELL_COUNT,af]
noncomputable def Rw.word:Rw->String
 | .set _ _=>"set" | .put _ _=>"put" | .ask _=>"ask" | .say _=>"say" | .jump _=>"jump" | .unless _ _=>"unless" | .call _=>"call" | .back=>"back" | .stop=>"stop"
theorem Rw.pG (r:Rw):aA r.enc (.int 0)=some (.str r.word):=by cases r<;>rfl
noncomputable def plT:S:=(.seq (.ife (.or (.cmp .eq (.var 2 "word") (.cst (.str "jump"))) (.cmp .eq (.var 2 "word") (.cst (.str "call")))) (.ret (.idx (.var 0 "row") (.cst (.int 1)))) .nil)
 (.seq (.ife (.cmp .eq (.var 2 "word") (.cst (.str "back"))) (.ret (.idx (.idx (.var 1 "state") (.glo "CALLS")) (.neg (.cst (.int 1))))) .nil)
 (.seq (.ife (.and (.cmp .eq (.var 2 "word") (.cst (.str "unless"))) (.cmp .eq (.call "reckoned" (.cons (.idx (.var 0 "row") (.cst (.int 1))) (.cons (.var 1 "state") .nil))) (.cst (.int 0)))) (.ret (.idx (.var 0 "row") (.cst (.int 2)))) .nil)
 (.ret (.bin .add (.idx (.var 1 "state") (.glo "ROW")) (.cst (.int 1)))))))
theorem qP:cH=⟨["row","state"],["row","state","word"],
 (.seq (.set 2 "word" (.idx (.var 0 "row") (.cst (.int 0)))) plT)⟩:=rfl
theorem Dm (P:Prg T G) (F:FK->List W->HH->Option (W×HH)) (w0:W) (st:St) (h:HH) (v:String) (n1:¬ v="jump") (n2:¬ v="call") (n3:¬ v="back") (n4:¬ v="unless"):evS F G plT [some w0,some (.p st.enc),some (.p (.str v))] h=some (.rt (.p (.int ((st.row:Int)+1))) h):=by
 have i0:aA st.enc (.int 0)=some (.int (st.row:Int)):=rfl
 generalize st.enc=se at *
 simp[plT,n1,n2,n3,n4,P.ROW,i0]
theorem EI (F:FK->List W->HH->Option (W×HH)) (d:D) (w1:W) (h:HH) (v:String) (q:Int) (hv:v="jump"\/v="call") (i1:aA d (.int 1)=some (.int q)):evS F G plT [some (.p d),some w1,some (.p (.str v))] h=some (.rt (.p (.int q)) h):=by
 rcases hv with rfl|rfl<;>simp[plT,i1]
theorem wQ (P:Prg T G) (k:Nat) (n:Nat) (r:Rw) (hr:r.ok n) (st:St) (ho:st.ok) (asked:List Int) (hb:r.over st=false) (h:HH) :
 runN T G (k+5) "place_behind" [.p r.enc,.p st.enc] h=some (.p (.int (r.next asked st).row),h):=by
 have wa:=r.pG
 have pre:runN T G (k+5) "place_behind" [.p r.enc,.p st.enc] h=jy (evS (runN T G (k+4)) G plT [some (.p r.enc),some (.p st.enc),some (.p (.str r.word))] h) (fin h):=by
  rw[run_eq P.place_behind rfl,qP]
  generalize r.enc=re at *
  simp[wa]
 have ot:∀ q:Int,jy (some (.rt (.p (.int q)) h)) (fin h)=some (.p (.int q),h):=fun q=>by simp[af]
 rw[pre]
 cases r with
 | «unless» s p =>
  have q:=cV P k s (by have:=hr.1.2;lia) hr.1.1 st ho
  have i1:aA (Rw.unless s p).enc (.int 1)=some s.enc:=rfl
  have i2:aA (Rw.unless s p).enc (.int 2)=some (.int (p:Int)):=rfl
  have i0:aA st.enc (.int 0)=some (.int (st.row:Int)):=rfl
  generalize (Rw.unless s p).enc=re at *
  generalize st.enc=se at *
  generalize s.enc=sn at *
  by_cases c:s.val st=0<;>simp[plT,Rw.word,Rw.next,q,c,i0,i1,i2,af,P.ROW]
 | back =>
  have c:st.calls≠[]:=by
   intro e;simp[Rw.over,e] at hb
  have:∃ l x,st.calls=l++[x]:=⟨st.calls.dropLast,st.calls.getLast c,(Ro c).symm⟩
  obtain ⟨l,x,e⟩:=this
  have i3:aA st.enc (.int 3)=some (.tup (au st.calls)):=rfl
  have ix:aA (.tup (au st.calls)) (.int (-1))=some (.int (x:Int)):=by
   have e2:-((l.length:Int)+1)<=-1:=by lia
   have e3:(-1+((l.length:Int)+1)).toNat=l.length:=by lia
   simp[au,e,e2,e3]
  have nx:((Rw.back).next asked st).row=x:=by simp[Rw.next,e]
  rw[nx]
  generalize st.enc=se at *
  generalize au st.calls=nl at *
  simp[-aB,plT,Rw.word,P.CALLS,i3,ix,af]
 | stop=>simp[Rw.over] at hb
 | jump p=>rw[Rw.word,EI _ _ _ _ _ (p:Int) (.inl rfl) rfl,ot];rfl
 | call p=>rw[Rw.word,EI _ _ _ _ _ (p:Int) (.inr rfl) rfl,ot];rfl
 | _=>rw[Rw.word,Dm P _ _ _ _ _ (by decide) (by decide) (by decide) (by decide),ot];rfl
noncomputable def ovT:S:=(.seq (.ife (.cmp .eq (.var 2 "word") (.cst (.str "back"))) (.ret (.cmp .eq (.bi .len false (.cons (.idx (.var 1 "state") (.glo "CALLS")) .nil)) (.cst (.int 0)))) .nil)
 (.seq (.ife (.cmp .eq (.var 2 "word") (.cst (.str "call"))) (.ret (.cmp .ge (.bi .len false (.cons (.idx (.var 1 "state") (.glo "CALLS")) .nil)) (.glo "MOST_CALLS"))) .nil)
 (.ret (.cmp .eq (.var 2 "word") (.cst (.str "stop"))))))
theorem nu:fu=⟨["program","state"],["program","state","word"],
 (.seq (.ife (.cmp .ge (.idx (.var 1 "state") (.glo "ROW")) (.bi .len false (.cons (.var 0 "program") .nil))) (.ret (.cst (.bl true))) .nil)
 (.seq (.set 2 "word" (.idx (.idx (.var 0 "program") (.idx (.var 1 "state") (.glo "ROW"))) (.cst (.int 0))))
 ovT))⟩:=rfl
theorem Dn (F:FK->List W->HH->Option (W×HH)) (w0 w1:W) (h:HH) (v:String) (n1:¬ v="back") (n2:¬ v="call"):evS F G ovT [some w0,some w1,some (.p (.str v))] h=some (.rt (.p (.bl (decide (v="stop")))) h):=by
 by_cases c:v="stop"
 ·subst c
  simp[ovT]
 ·skip
  simp[ovT,n1,n2,c]
theorem qQ (P:Prg T G) (k:Nat) (p:Pg) (st:St) (h:HH):runN T G (k+1) "is_over" [.p (aW p),.p st.enc] h=some (.p (.bl (over p st)),h):=by
 have lp:biD .len [aW p]=some (.int p.length):=by simp[aW]
 by_cases c:st.row < p.length
 ·have c1:¬ (p.length:Int)<=(st.row:Int):=by lia
  have c2:(st.row:Int) < (p.length:Int):=by lia
  have e:p[st.row]?=some p[st.row]:=OZ c
  have row:aA (aW p) (.int st.row)=some (p[st.row]).enc:=by simp[aW,c2,e]
  have ov:over p st=(p[st.row]).over st:=by rw[over,e]
  rw[ov]
  generalize p[st.row]=r at row ⊢
  have wa:=r.pG
  have pre:runN T G (k+1) "is_over" [.p (aW p),.p st.enc] h=jy (evS (runN T G k) G ovT [some (.p (aW p)),some (.p st.enc),some (.p (.str r.word))] h) (fin h):=by
   rw[run_eq P.is_over rfl,nu]
   generalize r.enc=re at row wa
   simp[lp,row,wa,P.ROW,c1]
  rw[pre]
  have ln:biD .len [.tup (au st.calls)]=some (.int (st.calls.length:Int)):=by simp[au]
  have i3:aA st.enc (.int 3)=some (.tup (au st.calls)):=rfl
  cases r with
  | back =>
   have ee:(((st.calls.length:Nat):Int)==0)=(st.calls.length==0):=by
    cases st.calls with
    | nil=>rfl
    | cons a l=>rw[beq_eq_false_iff_ne.mpr (by simp only[Ph];lia)];rfl
   simp[-nN,ovT,Rw.word,P.CALLS,i3,ln,ee,af,Rw.over]
  | call q =>
   have ee:decide ((6:Int)<=(st.calls.length:Int))=decide (6<=st.calls.length):=decide_eq_decide.mpr (by lia)
   simp[-nN,ovT,Rw.word,P.CALLS,P.MOST_CALLS,i3,ln,ee,af,Rw.over]
  | _ =>
   rw[Rw.word,Dn _ _ _ _ _ (by decide) (by decide)]
   simp[af,Rw.over]
 ·have c1:(p.length:Int)<=(st.row:Int):=by lia
  have e:p[st.row]?=none:=O0 (by lia)
  rw[run_eq P.is_over rfl]
  simp[fu,lp,P.ROW,c1,af,over,e]
theorem ints_set (xs:List Int) (i:Nat) (v:Int):(ah xs).set i (.int v)=ah (xs.set i v):=by simp[ah,List.map_set]
theorem bN (xs:List Int):(ah xs).length=xs.length:=by simp[ah]
theorem ints_snoc (xs:List Int) (v:Int):ah xs++[.int v]=ah (xs++[v]):=by simp[ah]
theorem n9 (xs:List Nat) (v:Nat):au xs++[.int (v:Int)]=au (xs++[v]):=by simp[au]
theorem qR (xs:List Nat):cut (au xs) none (some (-1))=au xs.dropLast:=by
 have e:(-1+(xs.length:Int)).toNat=xs.length - 1:=by lia
 simp[cut,clip,au,e,List.dropLast_eq_take]
structure St.small (st:St):Prop where
 sl:st.said.length<=5000
 cl:st.calls.length<=5000
noncomputable def encL (st:St):List D:=[.int st.row,.tup (ah st.names),.tup (ah st.cells),.tup (au st.calls),.int st.asked,.tup (ah st.said)]
theorem zW (st:St):biD .list [st.enc]=some (.lst (encL st)):=rfl
noncomputable def GX:S:=(.put 5 "behind" (.glo "CALLS") (.slc (.idx (.var 2 "state") (.glo "CALLS")) .nil (.cons (.neg (.cst (.int 1))) .nil)))
noncomputable def GY:S:=(.ife (.cmp .eq (.var 4 "word") (.cst (.str "back"))) GX .nil)
noncomputable def GZ:S:=(.put 5 "behind" (.glo "CALLS") (.bin .add (.idx (.var 2 "state") (.glo "CALLS")) (.tup (.cons (.bin .add (.idx (.var 2 "state") (.glo "ROW")) (.cst (.int 1))) .nil))))
noncomputable def Do:S:=(.ife (.cmp .eq (.var 4 "word") (.cst (.str "call"))) GZ GY)
noncomputable def G0:S:=(.put 5 "behind" (.glo "SAID") (.bin .add (.idx (.var 2 "state") (.glo "SAID")) (.tup (.cons (.call "reckoned" (.cons (.idx (.var 3 "row") (.cst (.int 1))) (.cons (.var 2 "state") .nil))) .nil))))
noncomputable def zX:S:=(.ife (.cmp .eq (.var 4 "word") (.cst (.str "say"))) G0 Do)
noncomputable def G1:S:=(.seq (.put 5 "behind" (.glo "NAMES") (.call "with_name" (.cons (.var 2 "state") (.cons (.idx (.var 3 "row") (.cst (.int 1))) (.cons (.call "brought" (.cons (.var 1 "asked") (.cons (.idx (.var 2 "state") (.glo "ASKED")) .nil))) .nil)))))
 (.put 5 "behind" (.glo "ASKED") (.bin .add (.idx (.var 2 "state") (.glo "ASKED")) (.cst (.int 1)))))
noncomputable def wR:S:=(.ife (.cmp .eq (.var 4 "word") (.cst (.str "ask"))) G1 zX)
noncomputable def G3:S:=(.put 5 "behind" (.glo "CELLS") (.call "with_worth" (.cons (.idx (.var 2 "state") (.glo "CELLS")) (.cons (.call "cell_by" (.cons (.idx (.var 3 "row") (.cst (.int 1))) (.cons (.var 2 "state") .nil))) (.cons (.call "reckoned" (.cons (.idx (.var 3 "row") (.cst (.int 2))) (.cons (.var 2 "state") .nil))) .nil)))))
noncomputable def sQ:S:=(.ife (.cmp .eq (.var 4 "word") (.cst (.str "put"))) G3 wR)
noncomputable def G4:S:=(.put 5 "behind" (.glo "NAMES") (.call "with_name" (.cons (.var 2 "state") (.cons (.idx (.var 3 "row") (.cst (.int 1))) (.cons (.call "reckoned" (.cons (.idx (.var 3 "row") (.cst (.int 2))) (.cons (.var 2 "state") .nil))) .nil)))))
noncomputable def jk:S:=(.ife (.cmp .eq (.var 4 "word") (.cst (.str "set"))) G4 sQ)
noncomputable def G5:S:=(.seq jk
 (.ret (.bi .tuple false (.cons (.var 5 "behind") .nil))))
theorem nv:gG=⟨["program","asked","state"],["program","asked","state","row","word","behind"],
 (.seq (.set 3 "row" (.idx (.var 0 "program") (.idx (.var 2 "state") (.glo "ROW"))))
 (.seq (.set 4 "word" (.idx (.var 3 "row") (.cst (.int 0))))
 (.seq (.set 5 "behind" (.bi .list true (.cons (.var 2 "state") .nil)))
 (.seq (.put 5 "behind" (.glo "ROW") (.call "place_behind" (.cons (.var 3 "row") (.cons (.var 2 "state") .nil))))
 G5))))⟩:=rfl
theorem G6 (F:FK->List W->HH->Option (W×HH)) (A B:S) (s:Sl) (h:HH):evS F G (.seq A B) s h=ku (evS F G A s h) (evS F G B):=by rw[evS]
theorem pick (F:FK->List W->HH->Option (W×HH)) (w0 w1 w2 w3:W) (v w:String) (rest:Sl) (h:HH) (A B:S):evS F G (.ife (.cmp .eq (.var 4 "word") (.cst (.str w))) A B) (some w0 :: some w1 :: some w2 :: some w3 :: some (.p (.str v)) :: rest) h=if v=w then evS F G A (some w0 :: some w1 :: some w2 :: some w3 :: some (.p (.str v)) :: rest) h else evS F G B (some w0 :: some w1 :: some w2 :: some w3 :: some (.p (.str v)) :: rest) h:=by
 have e:eqv (.str v) (.str w)=decide (v=w):=by
  by_cases c:v=w
  ·rw[decide_eq_true c,c];simp
  ·rw[decide_eq_false c]
   have:¬ O3 v=O3 w:=fun z=>c (by simpa using z)
   simp[this,c]
 by_cases c:v=w
 ·rw[decide_eq_true c] at e
  rw[if_pos c]
  simp[-eqv,e]
 ·rw[decide_eq_false c] at e
  rw[if_neg c]
  simp[-eqv,e]
theorem to0 (F:FK->List W->HH->Option (W×HH)) (w0 w1 w2 w3:W) (rest:Sl) (h:HH):evS F G jk (some w0 :: some w1 :: some w2 :: some w3 :: some (.p (.str "set")) :: rest) h=evS F G G4 (some w0 :: some w1 :: some w2 :: some w3 :: some (.p (.str "set")) :: rest) h:=by
 rw[jk,pick,if_pos rfl]
theorem to1 (F:FK->List W->HH->Option (W×HH)) (w0 w1 w2 w3:W) (rest:Sl) (h:HH):evS F G jk (some w0 :: some w1 :: some w2 :: some w3 :: some (.p (.str "put")) :: rest) h=evS F G G3 (some w0 :: some w1 :: some w2 :: some w3 :: some (.p (.str "put")) :: rest) h:=by
 rw[jk,pick,if_neg (by decide),sQ,pick,if_pos rfl]
theorem to2 (F:FK->List W->HH->Option (W×HH)) (w0 w1 w2 w3:W) (rest:Sl) (h:HH):evS F G jk (some w0 :: some w1 :: some w2 :: some w3 :: some (.p (.str "ask")) :: rest) h=evS F G G1 (some w0 :: some w1 :: some w2 :: some w3 :: some (.p (.str "ask")) :: rest) h:=by
 rw[jk,pick,if_neg (by decide),sQ,pick,if_neg (by decide),wR,pick,if_pos rfl]
theorem to3 (F:FK->List W->HH->Option (W×HH)) (w0 w1 w2 w3:W) (rest:Sl) (h:HH):evS F G jk (some w0 :: some w1 :: some w2 :: some w3 :: some (.p (.str "say")) :: rest) h=evS F G G0 (some w0 :: some w1 :: some w2 :: some w3 :: some (.p (.str "say")) :: rest) h:=by
 rw[jk,pick,if_neg (by decide),sQ,pick,if_neg (by decide),wR,pick,if_neg (by decide),zX,pick,if_pos rfl]
theorem to4 (F:FK->List W->HH->Option (W×HH)) (w0 w1 w2 w3:W) (rest:Sl) (h:HH):evS F G jk (some w0 :: some w1 :: some w2 :: some w3 :: some (.p (.str "call")) :: rest) h=evS F G GZ (some w0 :: some w1 :: some w2 :: some w3 :: some (.p (.str "call")) :: rest) h:=by
 rw[jk,pick,if_neg (by decide),sQ,pick,if_neg (by decide),wR,pick,if_neg (by decide),zX,pick,if_neg (by decide),Do,pick,if_pos rfl]
theorem to5 (F:FK->List W->HH->Option (W×HH)) (w0 w1 w2 w3:W) (rest:Sl) (h:HH):evS F G jk (some w0 :: some w1 :: some w2 :: some w3 :: some (.p (.str "back")) :: rest) h=evS F G GX (some w0 :: some w1 :: some w2 :: some w3 :: some (.p (.str "back")) :: rest) h:=by
 rw[jk,pick,if_neg (by decide),sQ,pick,if_neg (by decide),wR,pick,if_neg (by decide),zX,pick,if_neg (by decide),Do,pick,if_neg (by decide),GY,pick,if_pos rfl]
theorem toN (F:FK->List W->HH->Option (W×HH)) (w0 w1 w2 w3:W) (rest:Sl) (h:HH) (v:String) (hv:v∉["set","put","ask","say","call","back"]):evS F G jk (some w0 :: some w1 :: some w2 :: some w3 :: some (.p (.str v)) :: rest) h=some (.nx (some w0 :: some w1 :: some w2 :: some w3 :: some (.p (.str v)) :: rest) h):=by
 simp only[PY,PD,or_false,not_or] at hv
 obtain ⟨n1,n2,n3,n4,n5,n6⟩:=hv
 rw[jk,pick,if_neg n1,sQ,pick,if_neg n2,wR,pick,if_neg n3,zX,pick,if_neg n4,Do,pick,if_neg n5,GY,pick,if_neg n6];rfl
theorem qS (P:Prg T G) (k:Nat) (p:Pg) (hp:Pg.ok p) (asked:List Int) (st:St) (ho:st.ok) (hs:st.small) (hb:over p st=false) (h:HH) :
 runN T G (k+6) "stepped" [.p (aW p),.p (.lst (ah asked)),.p st.enc] h=some (.p (step p asked st).enc,h):=by
 have c:st.row < p.length:=by
  rcases Pi st.row p.length with q|q
  ·exact q
  ·rw[over,O0 q] at hb;cases hb
 have e:p[st.row]?=some p[st.row]:=OZ c
 have c2:(st.row:Int) < (p.length:Int):=by lia
 have hr:=hp _ (RV c)
 have hb':(p[st.row]).over st=false:=by rw[over,e] at hb;exact hb
 have pl:=wQ P k p.length p[st.row] hr st ho asked hb'
 rw[step,e]
 have l1:=hs.sl
 have l2:=hs.cl
 revert pl hr hb'
 generalize p[st.row]=r at *
 intro hr hb' pl
 have row:aA (aW p) (.int st.row)=some r.enc:=by simp[aW,c2,e]
 have pre:runN T G (k+6) "stepped" [.p (aW p),.p (.lst (ah asked)),.p st.enc] h =
  jy (evS (runN T G (k+5)) G G5 [some (.p (aW p)),some (.p (.lst (ah asked))),some (.p st.enc),some (.p r.enc),some (.p (.str r.word)),some (.r h.length)] (h++[.l [.int (r.next asked st).row,.tup (ah st.names),.tup (ah st.cells),.tup (au st.calls),.int st.asked,.tup (ah st.said)]])) (fin h):=by
  rw[run_eq P.stepped rfl,nv]
  simp[row,r.pG,P.ROW,zW,encL,pl]
 rw[pre,G5,G6]
 cases r with
 | set x s =>
  have q:=cV P (k+1) s (by have:=hr.2;lia) hr.1 st ho
  have w:=iZ P (k+3) st ho x (s.val st)
  simp only[Rw.enc,Rw.next,Rw.word,to0]
  simp[G4,P.ROW,P.NAMES,q,w,rd,gu,Rw.next]
  simp[St.enc]
 | put s t =>
  have q:=kF P k s hr.1 st ho
  have q2:=cV P (k+1) t (by have:=hr.2.2;lia) hr.2.1 st ho
  have v:=Sm.nY (s:=s) ho hr.1.1
  have hi:(s.val st % 4).toNat < (ah st.cells).length:=by rw[bN,ho.clen];lia
  have w:=iB P (k+4) (ah st.cells) (s.val st % 4).toNat hi (by rw[bN,ho.clen];lia) (.int (t.val st))
  have e3:(((s.val st % 4).toNat:Nat):Int)=s.val st % 4:=by lia
  rw[e3,ints_set] at w
  simp only[Rw.enc,Rw.next,Rw.word,to1]
  simp[G3,P.ROW,P.CELLS,q,q2,w,rd,gu,Rw.next]
  simp[St.enc]
 | ask x =>
  have b:=qO P (k+4) asked st.asked
  have w:=iZ P (k+3) st ho x (asked.getD st.asked 0)
  simp only[Rw.enc,Rw.next,Rw.word,to2]
  simp only[P8] at b w ⊢
  simp[G1,P.ROW,P.NAMES,P.ASKED,b,w,rd,gu,Rw.next]
  simp[St.enc]
 | say s =>
  have q:=cV P (k+1) s (by have:=hr.2;lia) hr.1 st ho
  simp only[Rw.enc,Rw.next,Rw.word,to3]
  have l3:(ah st.said).length+1<=100000:=by rw[bN];lia
  simp[G0,P.ROW,P.SAID,q,rd,gu,Rw.next,l3,ints_snoc]
  simp[St.enc]
 | call q =>
  simp only[Rw.enc,Rw.next,Rw.word,to4]
  have l3:(au st.calls).length+1<=100000:=by simp[au];lia
  have e4:au st.calls++[.int ((st.row:Int)+1)]=au (st.calls++[st.row+1]):=by rw[← n9];simp
  simp[GZ,P.ROW,P.CALLS,rd,gu,Rw.next,l3,e4]
  simp[St.enc]
 | back =>
  simp only[Rw.enc,Rw.next,Rw.word,to5]
  have e4:=qR st.calls
  have e5:oM (.tup (au st.calls)) none (some (-1))=some (.tup (au st.calls.dropLast)):=by rw[oO,e4]
  simp[-oO,GX,P.ROW,P.CALLS,rd,gu,Rw.next,e5]
  simp[St.enc]
 | stop=>simp[Rw.over] at hb'
 | _ =>
  simp only[Rw.enc,Rw.next,Rw.word]
  rw[toN _ _ _ _ _ _ _ _ (by decide)]
  simp[P.ROW,rd,gu,Rw.next]
  simp[St.enc]
end
def Ask (asked:List Int):Prop:=∀ x∈asked,Wth x
theorem zY {v:Int} (h:∀ x∈xs,Wth x) (hv:Wth v):∀ x∈xs.set i v,Wth x:=fun x hx=>by
 rcases List.mem_or_eq_of_mem_set hx with q|q
 ·exact h x q
 ·rw[q];exact hv
structure At (n:Nat) (st:St):Prop where
 ok:st.ok
 said:st.said.length<=n
 calls:st.calls.length<=6
theorem At.small {st:St} (a:At n st) (h:n<=5000):st.small:=⟨by have:=a.said;lia,by have:=a.calls;lia⟩
theorem uT:At 0 St.zero:=⟨Dl,OX _,by decide⟩
theorem uU {p:Pg}{st:St} (hp:Pg.ok p) (ha:Ask asked) (a:At n st) (hb:over p st=false):At (n+1) (step p asked st):=by
 have c:st.row < p.length:=by
  rcases Pi st.row p.length with q|q
  ·exact q
  ·rw[over,O0 q] at hb;cases hb
 have e:p[st.row]?=some p[st.row]:=OZ c
 have hr:=hp _ (RV c)
 have hb':(p[st.row]).over st=false:=by rw[over,e] at hb;exact hb
 rw[step,e]
 dsimp only
 revert hr hb'
 generalize p[st.row]=r
 intro hr hb'
 obtain ⟨ok,sd,cl⟩:=a
 cases r with
 | set x s=>exact ⟨⟨by simp[Rw.next,ok.nlen],ok.clen,zY ok.nw (Sm.nY ok hr.1),ok.cw⟩,by simp[Rw.next];lia,cl⟩
 | put s t=>exact ⟨⟨ok.nlen,by simp[Rw.next,ok.clen],ok.nw,zY ok.cw (Sm.nY ok hr.2.1)⟩,by simp[Rw.next];lia,cl⟩
 | ask x=>exact ⟨⟨by simp[Rw.next,ok.nlen],ok.clen,zY ok.nw (sN ha _),ok.cw⟩,by simp[Rw.next];lia,cl⟩
 | say s=>exact ⟨⟨ok.nlen,ok.clen,ok.nw,ok.cw⟩,by simp[Rw.next];lia,cl⟩
 | call q =>
  simp[Rw.over] at hb'
  exact ⟨⟨ok.nlen,ok.clen,ok.nw,ok.cw⟩,by simp[Rw.next];lia,by simp[Rw.next];lia⟩
 | back=>exact ⟨⟨ok.nlen,ok.clen,ok.nw,ok.cw⟩,by simp[Rw.next];lia,by simp[Rw.next];lia⟩
 | stop=>simp[Rw.over] at hb'
 | _=>exact ⟨⟨ok.nlen,ok.clen,ok.nw,ok.cw⟩,by simp[Rw.next];lia,cl⟩
section
variable {T:FK->Option Fn}{G:Str->Option W}
end
noncomputable def dS:Fn:=⟨["_law_script","_law_k"],["_law_script","_law_k"],
 (.seq (.ife (.cmp .eq (.var 0 "_law_script") (.lst false .nil)) (.ret (.bin .mul (.cst (.int 7)) (.var 1 "_law_k"))) .nil)
 (.ret (.bin .add (.idx (.var 0 "_law_script") (.bin .mod (.var 1 "_law_k") (.bi .len false (.cons (.var 0 "_law_script") .nil)))) (.bin .mul (.cst (.int 6553)) (.bin .fdiv (.var 1 "_law_k") (.bi .len false (.cons (.var 0 "_law_script") .nil)))))))⟩
noncomputable def eN:Fn:=⟨["_law_script","_law_k","_law_many"],["_law_script","_law_k","_law_many","_law_cell_here"],
 (.seq (.set 3 "_law_cell_here" (.bin .mod (.bin .add (.bin .mul (.bin .mod (.call "_law_cell" (.cons (.var 0 "_law_script") (.cons (.var 1 "_law_k") .nil))) (.cst (.int 2147483563))) (.cst (.int 69069))) (.bin .mul (.cst (.int 104723)) (.bin .add (.var 1 "_law_k") (.cst (.int 1))))) (.cst (.int 2147483563))))
 (.seq (.set 3 "_law_cell_here" (.bin .mod (.bin .add (.bin .mul (.var 3 "_law_cell_here") (.var 3 "_law_cell_here")) (.bin .fdiv (.var 3 "_law_cell_here") (.cst (.int 3)))) (.cst (.int 2147483399))))
 (.ret (.bin .mod (.bin .fdiv (.bin .mod (.bin .add (.bin .mul (.var 3 "_law_cell_here") (.var 3 "_law_cell_here")) (.bin .fdiv (.var 3 "_law_cell_here") (.cst (.int 7)))) (.cst (.int 2147483647))) (.cst (.int 11))) (.var 2 "_law_many")))))⟩
noncomputable def smL:S:=(.seq (.ife (.cmp .eq (.call "_law_drawn" (.cons (.var 0 "_law_script") (.cons (.bin .add (.var 1 "_law_at") (.cst (.int 1))) (.cons (.cst (.int 2)) .nil)))) (.cst (.int 0))) (.ret (.tup (.cons (.cst (.str "num")) (.cons (.idx (.lst false (.cons (.cst (.int 0)) (.cons (.cst (.int 1)) (.cons (.cst (.int 2)) (.cons (.cst (.int 3)) (.cons (.cst (.int 10)) (.cons (.cst (.int 10006)) .nil))))))) (.call "_law_drawn" (.cons (.var 0 "_law_script") (.cons (.bin .add (.var 1 "_law_at") (.cst (.int 2))) (.cons (.cst (.int 6)) .nil))))) .nil)))) .nil)
 (.ret (.tup (.cons (.cst (.str "name")) (.cons (.idx (.cst (.str "abcf")) (.call "_law_drawn" (.cons (.var 0 "_law_script") (.cons (.bin .add (.var 1 "_law_at") (.cst (.int 2))) (.cons (.cst (.int 4)) .nil))))) .nil)))))
noncomputable def smR:S:=(.seq (.set 4 "_law_one" (.call "_law_sum" (.cons (.var 0 "_law_script") (.cons (.bin .add (.bin .mul (.var 1 "_law_at") (.cst (.int 2))) (.cst (.int 5))) (.cons (.bin .sub (.var 2 "_law_deep") (.cst (.int 1))) .nil)))))
 (.seq (.ife (.cmp .lt (.var 3 "_law_way") (.cst (.int 6))) (.ret (.tup (.cons (.cst (.str "cell")) (.cons (.var 4 "_law_one") .nil)))) .nil)
 (.ret (.tup (.cons (.idx (.lst false (.cons (.cst (.str "add")) (.cons (.cst (.str "sub")) (.cons (.cst (.str "mul")) (.cons (.cst (.str "less")) .nil))))) (.bin .sub (.var 3 "_law_way") (.cst (.int 6)))) (.cons (.var 4 "_law_one") (.cons (.call "_law_sum" (.cons (.var 0 "_law_script") (.cons (.bin .add (.bin .mul (.var 1 "_law_at") (.cst (.int 2))) (.cst (.int 19))) (.cons (.bin .sub (.var 2 "_law_deep") (.cst (.int 1))) .nil)))) .nil)))))))
noncomputable def cN:Fn:=⟨["_law_script","_law_at","_law_deep"],["_law_script","_law_at","_law_deep","_law_way","_law_one"],
 (.seq (.set 3 "_law_way" (.call "_law_drawn" (.cons (.var 0 "_law_script") (.cons (.var 1 "_law_at") (.cons (.cst (.int 10)) .nil)))))
 (.seq (.ife (.or (.cmp .eq (.var 2 "_law_deep") (.cst (.int 0))) (.cmp .lt (.var 3 "_law_way") (.cst (.int 4)))) smL .nil)
 smR))⟩
noncomputable def gH:Fn:=⟨["_law_script","_law_at","_law_size"],["_law_script","_law_at","_law_size","_law_way","_law_place","_law_name","_law_one"],
 (.seq (.set 3 "_law_way" (.call "_law_drawn" (.cons (.var 0 "_law_script") (.cons (.var 1 "_law_at") (.cons (.cst (.int 16)) .nil)))))
 (.seq (.set 4 "_law_place" (.call "_law_drawn" (.cons (.var 0 "_law_script") (.cons (.bin .add (.var 1 "_law_at") (.cst (.int 1))) (.cons (.bin .add (.var 2 "_law_size") (.cst (.int 1))) .nil)))))
 (.seq (.set 5 "_law_name" (.idx (.cst (.str "abc")) (.call "_law_drawn" (.cons (.var 0 "_law_script") (.cons (.bin .add (.var 1 "_law_at") (.cst (.int 2))) (.cons (.cst (.int 3)) .nil))))))
 (.seq (.set 6 "_law_one" (.call "_law_sum" (.cons (.var 0 "_law_script") (.cons (.bin .add (.var 1 "_law_at") (.cst (.int 3))) (.cons (.cst (.int 2)) .nil)))))
 (.seq (.ife (.cmp .lt (.var 3 "_law_way") (.cst (.int 5))) (.ret (.tup (.cons (.cst (.str "set")) (.cons (.var 5 "_law_name") (.cons (.var 6 "_law_one") .nil))))) .nil)
 (.seq (.ife (.cmp .lt (.var 3 "_law_way") (.cst (.int 7))) (.ret (.tup (.cons (.cst (.str "put")) (.cons (.call "_law_sum" (.cons (.var 0 "_law_script") (.cons (.bin .add (.var 1 "_law_at") (.cst (.int 9))) (.cons (.cst (.int 1)) .nil)))) (.cons (.var 6 "_law_one") .nil))))) .nil)
 (.seq (.ife (.cmp .lt (.var 3 "_law_way") (.cst (.int 9))) (.ret (.idx (.lst false (.cons (.tup (.cons (.cst (.str "ask")) (.cons (.var 5 "_law_name") .nil))) (.cons (.tup (.cons (.cst (.str "say")) (.cons (.var 6 "_law_one") .nil))) .nil))) (.bin .sub (.var 3 "_law_way") (.cst (.int 7))))) .nil)
 (.seq (.ife (.cmp .lt (.var 3 "_law_way") (.cst (.int 12))) (.ret (.idx (.lst false (.cons (.tup (.cons (.cst (.str "jump")) (.cons (.var 4 "_law_place") .nil))) (.cons (.tup (.cons (.cst (.str "unless")) (.cons (.var 6 "_law_one") (.cons (.var 4 "_law_place") .nil)))) (.cons (.tup (.cons (.cst (.str "unless")) (.cons (.tup (.cons (.cst (.str "name")) (.cons (.var 5 "_law_name") .nil))) (.cons (.var 4 "_law_place") .nil)))) .nil)))) (.bin .sub (.var 3 "_law_way") (.cst (.int 9))))) .nil)
 (.ret (.idx (.lst false (.cons (.tup (.cons (.cst (.str "call")) (.cons (.var 4 "_law_place") .nil))) (.cons (.tup (.cons (.cst (.str "call")) (.cons (.var 4 "_law_place") .nil))) (.cons (.tup (.cons (.cst (.str "back")) .nil)) (.cons (.idx (.lst false (.cons (.tup (.cons (.cst (.str "stop")) .nil)) (.cons (.tup (.cons (.cst (.str "back")) .nil)) .nil))) (.bin .mod (.var 4 "_law_place") (.cst (.int 2)))) .nil))))) (.bin .sub (.var 3 "_law_way") (.cst (.int 12)))))))))))))⟩
noncomputable def eS:Fn:=⟨["_law_script","_law_at"],["_law_script","_law_at"],
 (.ret (.comp false .rng1 (.cons (.call "_law_drawn" (.cons (.var 0 "_law_script") (.cons (.var 1 "_law_at") (.cons (.cst (.int 4)) .nil)))) .nil) ["_law_k"] [(0,"_law_script"),(1,"_law_at")] .nil (.idx (.lst false (.cons (.cst (.int 0)) (.cons (.cst (.int 1)) (.cons (.cst (.int 5)) (.cons (.cst (.int 10006)) .nil))))) (.call "_law_drawn" (.cons (.var 1 "_law_script") (.cons (.bin .add (.bin .add (.var 2 "_law_at") (.cst (.int 1))) (.var 0 "_law_k")) (.cons (.cst (.int 4)) .nil)))))))⟩
structure Lw (T:FK->Option Fn):Prop where
 cell:T "_law_cell"=some dS
 drawn:T "_law_drawn"=some eN
 sum:T "_law_sum"=some cN
 row:T "_law_row"=some gH
 asked:T "_law_asked"=some eS
noncomputable def uV (ns:List Int) (k:Int):Int:=if ns=[] then 7*k else ns.getD (k % ns.length).toNat 0+6553*(k / ns.length)
noncomputable def drw (ns:List Int) (k many:Int):Int :=
 let a:=(uV ns k % 2147483563*69069+104723*(k+1)) % 2147483563
 let b:=(a*a+a / 3) % 2147483399
 (b*b+b / 7) % 2147483647 / 11 % many
theorem cj (ns:List Int) (k:Int) {many:Int} (h:0 < many):0<=drw ns k many:=Int.emod_nonneg _ (by lia)
theorem cu (ns:List Int) (k:Int) {many:Int} (h:0 < many):drw ns k many < many:=Int.emod_lt_of_pos _ h
theorem j7 {i:Int} (h0:0<=i) (h1:i < 18446744073709551616):big i=true:=by
 unfold big;exact decide_eq_true (by lia)
section
variable {T:FK->Option Fn}{G:Str->Option W}
theorem Dp (ns:List Int):eqv (.lst (ah ns)) (.lst [])=decide (ns=[]):=by
 cases ns<;>simp[ah]
theorem zZ (L:Lw T) (m:Nat) (ns:List Int) (hl:ns.length<=1000) (k:Int) (h:HH):runN T G (m+1) "_law_cell" [.p (.lst (ah ns)),.p (.int k)] h=some (.p (.int (uV ns k)),h):=by
 rw[run_eq L.cell rfl]
 by_cases c:ns=[]
 ·subst c
  simp[dS,ah,uV,big,af]
 ·have n0:0 < ns.length:=List.length_pos_iff.mpr c
  have q:eqv (.lst (ah ns)) (.lst [])=false:=by rw[Dp];exact decide_eq_false c
  have p1:(0:Int) < (ns.length:Int):=by lia
  have p2:(ns.length:Int) < 1073741824:=by lia
  have m1:=Int.emod_nonneg k (b:=(ns.length:Int)) (by lia)
  have m2:=Int.emod_lt_of_pos k p1
  have i1:(k % (ns.length:Int)).toNat < ns.length:=by lia
  have n2:ns.length < 1073741824:=by lia
  simp[dS,-eqv,q,bN,p1,p2,n0,n2,m1,m2,big,af,uV,c]
  simp[ah,i1,af,n0,n2,m1,m2,big,p1,p2]
theorem b7 (L:Lw T) (m:Nat) (ns:List Int) (hl:ns.length<=1000) (k many:Int) (hm:0 < many) (h:HH) :
 runN T G (m+2) "_law_drawn" [.p (.lst (ah ns)),.p (.int k),.p (.int many)] h=some (.p (.int (drw ns k many)),h):=by
 rw[run_eq L.drawn rfl]
 have r:=zZ (G:=G) L m ns hl k
 have b0:big 69069=true:=by decide
 have b1:big 104723=true:=by decide
 have b2:∀ x:Int,big (x % 2147483563)=true:=fun x=>j7 (by lia) (by lia)
 have b3:∀ x:Int,big (x % 2147483399)=true:=fun x=>j7 (by lia) (by lia)
 simp[eN,r,b0,b1,b2,b3,af,hm,drw]
theorem pH:O3 "abcf"=⟨#[97,98,99,102]⟩:=by decide +kernel
theorem z4:O3 "abc"=⟨#[97,98,99]⟩:=by decide +kernel
theorem o_a:O3 "a"=⟨#[97]⟩:=by decide +kernel
theorem o_b:O3 "b"=⟨#[98]⟩:=by decide +kernel
theorem o_c:O3 "c"=⟨#[99]⟩:=by decide +kernel
theorem o_f:O3 "f"=⟨#[102]⟩:=by decide +kernel
theorem uW (i:Int) (h0:0<=i) (h1:i < 4):∃ x:Nm,aA (.str "abcf") (.int i)=some (.str x.w):=by
 have:i=0\/i=1\/i=2\/i=3:=by lia
 rcases this with rfl|rfl|rfl|rfl
 ·exact ⟨.a,by rw[Nm.w,pH,o_a];rfl⟩
 ·exact ⟨.b,by rw[Nm.w,pH,o_b];rfl⟩
 ·exact ⟨.c,by rw[Nm.w,pH,o_c];rfl⟩
 ·exact ⟨.f,by rw[Nm.w,pH,o_f];rfl⟩
theorem G7 (i:Int) (h0:0<=i) (h1:i < 3):∃ x:Nm,aA (.str "abc") (.int i)=some (.str x.w):=by
 have:i=0\/i=1\/i=2:=by lia
 rcases this with rfl|rfl|rfl
 ·exact ⟨.a,by rw[Nm.w,z4,o_a];rfl⟩
 ·exact ⟨.b,by rw[Nm.w,z4,o_b];rfl⟩
 ·exact ⟨.c,by rw[Nm.w,z4,o_c];rfl⟩
theorem uX (i:Int) (h0:0<=i) (h1:i < 6):∃ n:Int,Wth n/\aA (.lst [.int 0,.int 1,.int 2,.int 3,.int 10,.int 10006]) (.int i)=some (.int n):=by
 have:i=0\/i=1\/i=2\/i=3\/i=4\/i=5:=by lia
 rcases this with rfl|rfl|rfl|rfl|rfl|rfl
 ·exact ⟨0,⟨by decide,by decide⟩,rfl⟩
 ·exact ⟨1,⟨by decide,by decide⟩,rfl⟩
 ·exact ⟨2,⟨by decide,by decide⟩,rfl⟩
 ·exact ⟨3,⟨by decide,by decide⟩,rfl⟩
 ·exact ⟨10,⟨by decide,by decide⟩,rfl⟩
 ·exact ⟨10006,⟨by decide,by decide⟩,rfl⟩
theorem G8 (i:Int) (h0:0<=i) (h1:i < 4):∃ o:Op,aA (.lst [.str "add",.str "sub",.str "mul",.str "less"]) (.int i)=some (.str o.w):=by
 have:i=0\/i=1\/i=2\/i=3:=by lia
 rcases this with rfl|rfl|rfl|rfl
 ·exact ⟨.add,rfl⟩
 ·exact ⟨.sub,rfl⟩
 ·exact ⟨.mul,rfl⟩
 ·exact ⟨.less,rfl⟩
theorem z5 (L:Lw T) (ns:List Int) (hl:ns.length<=1000) (p n:Int) (k:Nat) (rest:Sl) (h:HH) (c:drw ns (p+1) 2=0) (en:aA (.lst [.int 0,.int 1,.int 2,.int 3,.int 10,.int 10006]) (.int (drw ns (p+2) 6))=some (.int n)) :
 evS (runN T G (k+2)) G smL (some (.p (.lst (ah ns))) :: some (.p (.int p)) :: rest) h=some (.rt (.p (Sm.num n).enc) h):=by
 have dr:=fun q many (hm:0 < many)=>b7 (G:=G) L k ns hl q many hm
 simp[-bq,-gZ,smL,dr,c,en,Sm.enc]
theorem z6 (L:Lw T) (ns:List Int) (hl:ns.length<=1000) (p:Int) (x:Nm) (k:Nat) (rest:Sl) (h:HH) (c:¬ drw ns (p+1) 2=0) (ex:aA (.str "abcf") (.int (drw ns (p+2) 4))=some (.str x.w)) :
 evS (runN T G (k+2)) G smL (some (.p (.lst (ah ns))) :: some (.p (.int p)) :: rest) h=some (.rt (.p (Sm.nam x).enc) h):=by
 have dr:=fun q many (hm:0 < many)=>b7 (G:=G) L k ns hl q many hm
 simp[-bq,-gZ,smL,dr,c,ex,Sm.enc]
theorem uY (L:Lw T) (ns:List Int) (hl:ns.length<=1000):∀ (deep:Nat) (p:Int),∃ s:Sm,s.ok/\s.size+1<=2 ^ (deep+1)/\∀ (m:Nat) (h:HH),
 runN T G (m+deep+3) "_law_sum" [.p (.lst (ah ns)),.p (.int p),.p (.int deep)] h=some (.p s.enc,h):=by
 intro deep
 induction deep with
 | zero =>
  intro p
  have dr:=fun m q many (hm:0 < many)=>b7 (G:=G) L m ns hl q many hm
  obtain ⟨x,ex⟩:=uW (drw ns (p+2) 4) (cj _ _ (by decide)) (cu _ _ (by decide))
  obtain ⟨n,hn,en⟩:=uX (drw ns (p+2) 6) (cj _ _ (by decide)) (cu _ _ (by decide))
  have key:∀ (s:Sm) (m:Nat) (h:HH),(∀ rest,evS (runN T G (m+2)) G smL (some (.p (.lst (ah ns))) :: some (.p (.int p)) :: rest) h=some (.rt (.p s.enc) h))->runN T G (m+0+3) "_law_sum" [.p (.lst (ah ns)),.p (.int p),.p (.int ((0:Nat):Int))] h=some (.p s.enc,h):=fun s m h q=>by
   rw[run_eq L.sum rfl]
   simp[cN,dr,q,af]
  by_cases c:drw ns (p+1) 2=0
  ·exact ⟨.num n,hn,by simp[Sm.size],fun m h=>key _ m h fun rest=>z5 L ns hl p n m rest h c en⟩
  ·exact ⟨.nam x,trivial,by simp[Sm.size],fun m h=>key _ m h fun rest=>z6 L ns hl p x m rest h c ex⟩
 | succ deep ih =>
  intro p
  have dr:=fun m q many (hm:0 < many)=>b7 (G:=G) L m ns hl q many hm
  obtain ⟨x,ex⟩:=uW (drw ns (p+2) 4) (cj _ _ (by decide)) (cu _ _ (by decide))
  obtain ⟨n,hn,en⟩:=uX (drw ns (p+2) 6) (cj _ _ (by decide)) (cu _ _ (by decide))
  obtain ⟨s,so,ss,sr0⟩:=ih (p*2+5)
  obtain ⟨t,to,tt,tr0⟩:=ih (p*2+19)
  have ee:∀ m,m+(deep+1)+2=m+deep+3:=fun m=>by lia
  have sr:=fun m h=>(ee m).symm ▸ sr0 m h
  have tr:=fun m h=>(ee m).symm ▸ tr0 m h
  have d0:¬ ((deep:Int)+1=0):=by lia
  have d1:((deep:Int)+1 - 1)=deep:=by lia
  have b2:big 2=true:=by decide
  have w0:=cj ns p (many:=10) (by decide)
  have w1:=cu ns p (many:=10) (by decide)
  have pw:2 ^ (deep+1+1)=2 ^ (deep+1)+2 ^ (deep+1):=by lia
  by_cases c1:drw ns p 10 < 4
  ·have key:∀ (s:Sm) (m:Nat) (h:HH),(∀ rest,evS (runN T G (m+deep+1+2)) G smL (some (.p (.lst (ah ns))) :: some (.p (.int p)) :: rest) h=some (.rt (.p s.enc) h))->runN T G (m+(deep+1)+3) "_law_sum" [.p (.lst (ah ns)),.p (.int p),.p (.int ((deep+1:Nat):Int))] h=some (.p s.enc,h):=fun s m h q=>by
    rw[run_eq L.sum rfl]
    have dq:=dr (m+(deep+1))
    have q:∀ rest,evS (runN T G (m+(deep+1)+2)) G smL (some (.p (.lst (ah ns))) :: some (.p (.int p)) :: rest) h=some (.rt (.p s.enc) h):=q
    simp[cN,dq,c1,d0,q,af]
   by_cases c:drw ns (p+1) 2=0
   ·exact ⟨.num n,hn,by simp only[Sm.size];lia,fun m h=>key _ m h fun rest=>z5 L ns hl p n (m+deep+1) rest h c en⟩
   ·exact ⟨.nam x,trivial,by simp only[Sm.size];lia,fun m h=>key _ m h fun rest=>z6 L ns hl p x (m+deep+1) rest h c ex⟩
  ·by_cases c2:drw ns p 10 < 6
   ·refine ⟨.cell s,so,by simp only[Sm.size];lia,fun m h=>?_⟩
    rw[run_eq L.sum rfl]
    simp[-bq,-gZ,cN,smR,dr,c1,c2,d0,d1,b2,sr,af,Sm.enc]
   ·obtain ⟨o,eo⟩:=G8 (drw ns p 10 - 6) (by lia) (by lia)
    refine ⟨.two o s t,⟨so,to⟩,by simp only[Sm.size];lia,fun m h=>?_⟩
    rw[run_eq L.sum rfl]
    simp[-bq,-gZ,cN,smR,dr,c1,c2,d0,d1,b2,sr,tr,eo,af,Sm.enc]
end
noncomputable def EJ:S:=(.ret (.idx (.lst false (.cons (.tup (.cons (.cst (.str "call")) (.cons (.var 4 "_law_place") .nil))) (.cons (.tup (.cons (.cst (.str "call")) (.cons (.var 4 "_law_place") .nil))) (.cons (.tup (.cons (.cst (.str "back")) .nil)) (.cons (.idx (.lst false (.cons (.tup (.cons (.cst (.str "stop")) .nil)) (.cons (.tup (.cons (.cst (.str "back")) .nil)) .nil))) (.bin .mod (.var 4 "_law_place") (.cst (.int 2)))) .nil))))) (.bin .sub (.var 3 "_law_way") (.cst (.int 12)))))
noncomputable def rA3:S:=(.ret (.idx (.lst false (.cons (.tup (.cons (.cst (.str "jump")) (.cons (.var 4 "_law_place") .nil))) (.cons (.tup (.cons (.cst (.str "unless")) (.cons (.var 6 "_law_one") (.cons (.var 4 "_law_place") .nil)))) (.cons (.tup (.cons (.cst (.str "unless")) (.cons (.tup (.cons (.cst (.str "name")) (.cons (.var 5 "_law_name") .nil))) (.cons (.var 4 "_law_place") .nil)))) .nil)))) (.bin .sub (.var 3 "_law_way") (.cst (.int 9)))))
noncomputable def z7:S:=(.seq (.ife (.cmp .lt (.var 3 "_law_way") (.cst (.int 12))) rA3 .nil) EJ)
noncomputable def rA2:S:=(.ret (.idx (.lst false (.cons (.tup (.cons (.cst (.str "ask")) (.cons (.var 5 "_law_name") .nil))) (.cons (.tup (.cons (.cst (.str "say")) (.cons (.var 6 "_law_one") .nil))) .nil))) (.bin .sub (.var 3 "_law_way") (.cst (.int 7)))))
noncomputable def uZ:S:=(.seq (.ife (.cmp .lt (.var 3 "_law_way") (.cst (.int 9))) rA2 .nil) z7)
noncomputable def rA1:S:=(.ret (.tup (.cons (.cst (.str "put")) (.cons (.call "_law_sum" (.cons (.var 0 "_law_script") (.cons (.bin .add (.var 1 "_law_at") (.cst (.int 9))) (.cons (.cst (.int 1)) .nil)))) (.cons (.var 6 "_law_one") .nil)))))
noncomputable def qT:S:=(.seq (.ife (.cmp .lt (.var 3 "_law_way") (.cst (.int 7))) rA1 .nil) uZ)
noncomputable def rA0:S:=(.ret (.tup (.cons (.cst (.str "set")) (.cons (.var 5 "_law_name") (.cons (.var 6 "_law_one") .nil)))))
noncomputable def sR:S:=(.seq (.ife (.cmp .lt (.var 3 "_law_way") (.cst (.int 5))) rA0 .nil) qT)
theorem ny:gH=⟨["_law_script","_law_at","_law_size"],["_law_script","_law_at","_law_size","_law_way","_law_place","_law_name","_law_one"],
 (.seq (.set 3 "_law_way" (.call "_law_drawn" (.cons (.var 0 "_law_script") (.cons (.var 1 "_law_at") (.cons (.cst (.int 16)) .nil)))))
 (.seq (.set 4 "_law_place" (.call "_law_drawn" (.cons (.var 0 "_law_script") (.cons (.bin .add (.var 1 "_law_at") (.cst (.int 1))) (.cons (.bin .add (.var 2 "_law_size") (.cst (.int 1))) .nil)))))
 (.seq (.set 5 "_law_name" (.idx (.cst (.str "abc")) (.call "_law_drawn" (.cons (.var 0 "_law_script") (.cons (.bin .add (.var 1 "_law_at") (.cst (.int 2))) (.cons (.cst (.int 3)) .nil))))))
 (.seq (.set 6 "_law_one" (.call "_law_sum" (.cons (.var 0 "_law_script") (.cons (.bin .add (.var 1 "_law_at") (.cst (.int 3))) (.cons (.cst (.int 2)) .nil)))))
 sR))))⟩:=rfl
section
variable {T:FK->Option Fn}{G:Str->Option W}
theorem Dq (L:Lw T) (ns:List Int) (hl:ns.length<=1000) (p:Int) (size:Nat):∃ r:Rw,r.ok size/\∀ (m:Nat) (h:HH),
 runN T G (m+6) "_law_row" [.p (.lst (ah ns)),.p (.int p),.p (.int size)] h=some (.p r.enc,h):=by
 have dr:=fun m q many (hm:0 < many)=>b7 (G:=G) L m ns hl q many hm
 obtain ⟨x,ex⟩:=G7 (drw ns (p+2) 3) (cj _ _ (by decide)) (cu _ _ (by decide))
 obtain ⟨s,so,ss,sr⟩:=uY (G:=G) L ns hl 2 (p+3)
 obtain ⟨t,to,tt,tr⟩:=uY (G:=G) L ns hl 1 (p+9)
 have w0:=cj ns p (many:=16) (by decide)
 have w1:=cu ns p (many:=16) (by decide)
 have sz:(0:Int) < (size:Int)+1:=by lia
 have p0:=cj ns (p+1) sz
 have p1:=cu ns (p+1) sz
 obtain ⟨pl,hpl⟩:∃ pl:Nat,drw ns (p+1) ((size:Int)+1)=(pl:Int):=⟨(drw ns (p+1) ((size:Int)+1)).toNat,by lia⟩
 have ple:pl<=size:=by lia
 have sok:mJ s:=⟨so,by lia⟩
 have tok:mJ t:=⟨to,by lia⟩
 have sr':=fun m h=>sr (m+0) h
 have tr':=fun m h=>tr (m+1) h
 simp at sr' tr'
 have dp:=fun m h=>dr m (p+1) ((size:Int)+1) sz h
 rw[hpl] at dp
 have pre:∀ (m:Nat) (h:HH),runN T G (m+6) "_law_row" [.p (.lst (ah ns)),.p (.int p),.p (.int size)] h =
  jy (evS (runN T G (m+5)) G sR [some (.p (.lst (ah ns))),some (.p (.int p)),some (.p (.int size)),some (.p (.int (drw ns p 16))),some (.p (.int (pl:Int))),some (.p (.str x.w)),some (.p s.enc)] h) (fin h):=fun m h=>by
  rw[run_eq L.row rfl,ny]
  simp[-gZ,dp,dr,ex,sr']
 by_cases c1:drw ns p 16 < 5
 ·refine ⟨.set x s,sok,fun m h=>?_⟩
  rw[pre]
  simp[-bq,-gZ,sR,rA0,c1,af,Rw.enc]
 ·by_cases c2:drw ns p 16 < 7
  ·refine ⟨.put t s,⟨tok,sok⟩,fun m h=>?_⟩
   rw[pre]
   simp[-bq,-gZ,sR,qT,rA1,tr',c1,c2,af,Rw.enc]
  ·by_cases c3:drw ns p 16 < 9
   ·obtain ⟨r,ro,ix⟩:∃ r:Rw,r.ok size/\aA (.lst [.tup [.str "ask",.str x.w],.tup [.str "say",s.enc]]) (.int (drw ns p 16 - 7))=some r.enc:=by
     have c:drw ns p 16=7\/drw ns p 16=8:=by lia
     rcases c with c|c<;>rw[c]
     ·exact ⟨.ask x,trivial,rfl⟩
     ·exact ⟨.say s,sok,rfl⟩
    refine ⟨r,ro,fun m h=>?_⟩
    rw[pre]
    simp[-bq,sR,qT,uZ,rA2,c1,c2,c3,ix,af]
   ·by_cases c4:drw ns p 16 < 12
    ·obtain ⟨r,ro,ix⟩:∃ r:Rw,r.ok size/\aA (.lst [.tup [.str "jump",.int pl],.tup [.str "unless",s.enc,.int pl],.tup [.str "unless",.tup [.str "name",.str x.w],.int pl]]) (.int (drw ns p 16 - 9))=some r.enc:=by
      have c:drw ns p 16=9\/drw ns p 16=10\/drw ns p 16=11:=by lia
      rcases c with c|c|c<;>rw[c]
      ·exact ⟨.jump pl,ple,rfl⟩
      ·exact ⟨.unless s pl,⟨sok,ple⟩,rfl⟩
      ·exact ⟨.unless (.nam x) pl,⟨⟨trivial,by simp[Sm.size]⟩,ple⟩,rfl⟩
     refine ⟨r,ro,fun m h=>?_⟩
     rw[pre]
     simp[-bq,sR,qT,uZ,z7,rA3,c1,c2,c3,c4,ix,af]
    ·obtain ⟨u,uo,iu⟩:∃ u:Rw,u.ok size/\aA (.lst [.tup [.str "stop"],.tup [.str "back"]]) (.int ((pl:Int) % 2))=some u.enc:=by
      have z:(pl:Int) % 2=0\/(pl:Int) % 2=1:=by lia
      rcases z with z|z<;>rw[z]
      ·exact ⟨.stop,trivial,rfl⟩
      ·exact ⟨.back,trivial,rfl⟩
     obtain ⟨r,ro,ix⟩:∃ r:Rw,r.ok size/\aA (.lst [.tup [.str "call",.int pl],.tup [.str "call",.int pl],.tup [.str "back"],u.enc]) (.int (drw ns p 16 - 12))=some r.enc:=by
      have c:drw ns p 16=12\/drw ns p 16=13\/drw ns p 16=14\/drw ns p 16=15:=by lia
      rcases c with c|c|c|c<;>rw[c]
      ·exact ⟨.call pl,ple,rfl⟩
      ·exact ⟨.call pl,ple,rfl⟩
      ·exact ⟨.back,trivial,rfl⟩
      ·exact ⟨u,uo,rfl⟩
     refine ⟨r,ro,fun m h=>?_⟩
     rw[pre]
     simp[-bq,sR,qT,uZ,z7,EJ,c1,c2,c3,c4,iu,ix,af]
theorem comp_map (f:List D->HH->Option (Option D×HH)) (g:D->D):∀ (ds:List D) (h:HH),(∀ d∈ds,∀ h,f [d] h=some (some (g d),h))->bJ f 1 ds h=some (ds.map g,h):=by
 intro ds
 induction ds with
 | nil=>intro h _;rfl
 | cons d r ih =>
  intro h hf
  have e1:=hf d Pj h
  have e2:=ih h fun x hx=>hf x (O8 _ hx)
  rw[bJ,jw]
  simp[e1,e2]
theorem qU  (h:d∈upto 0 n):∃ k:Nat,k < n/\d=.int k:=by
 simp[upto] at h
 obtain ⟨k,hk,e⟩:=h
 exact ⟨k,hk,e.symm⟩
theorem qV (n:Nat) (g:D->D):(upto 0 n).map g=(Pu n).map fun (k:Nat)=>g (.int k):=by
 simp[upto,Function.comp_def]
noncomputable def Dr:E:=.idx (.lst false (.cons (.cst (.int 0)) (.cons (.cst (.int 1)) (.cons (.cst (.int 5)) (.cons (.cst (.int 10006)) .nil))))) (.call "_law_drawn" (.cons (.var 1 "_law_script") (.cons (.bin .add (.bin .add (.var 2 "_law_at") (.cst (.int 1))) (.var 0 "_law_k")) (.cons (.cst (.int 4)) .nil))))
theorem kM:eS=⟨["_law_script","_law_at"],["_law_script","_law_at"],.ret (.comp false .rng1 (.cons (.call "_law_drawn" (.cons (.var 0 "_law_script") (.cons (.var 1 "_law_at") (.cons (.cst (.int 4)) .nil)))) .nil) ["_law_k"] [(0,"_law_script"),(1,"_law_at")] .nil Dr)⟩:=rfl
theorem wU (L:Lw T) (ns:List Int) (hl:ns.length<=1000) (p:Int):∃ asked:List Int,Ask asked/\asked.length<=3/\∀ (m:Nat) (h:HH),
 runN T G (m+3) "_law_asked" [.p (.lst (ah ns)),.p (.int p)] h=some (.p (.lst (ah asked)),h):=by
 have dr:=fun m q many (hm:0 < many)=>b7 (G:=G) L m ns hl q many hm
 have at4:∀ i:Int,0<=i->i < 4->∃ n:Int,Wth n/\aA (.lst [.int 0,.int 1,.int 5,.int 10006]) (.int i)=some (.int n):=by
  intro i h0 h1
  have:i=0\/i=1\/i=2\/i=3:=by lia
  rcases this with rfl|rfl|rfl|rfl
  ·exact ⟨0,⟨by decide,by decide⟩,rfl⟩
  ·exact ⟨1,⟨by decide,by decide⟩,rfl⟩
  ·exact ⟨5,⟨by decide,by decide⟩,rfl⟩
  ·exact ⟨10006,⟨by decide,by decide⟩,rfl⟩
 have ch:∀ k:Nat,∃ n:Int,Wth n/\aA (.lst [.int 0,.int 1,.int 5,.int 10006]) (.int (drw ns (p+1+k) 4))=some (.int n):=fun k =>
  at4 _ (cj _ _ (by decide)) (cu _ _ (by decide))
 obtain ⟨g,hg⟩:=Tz ch
 have w0:=cj ns p (many:=4) (by decide)
 have w1:=cu ns p (many:=4) (by decide)
 refine ⟨(Pu (drw ns p 4).toNat).map g,?_,by simp;lia,fun m h=>?_⟩
 ·intro x hx
  simp at hx
  obtain ⟨k,_,rfl⟩:=hx
  exact (hg k).1
 ·rw[run_eq L.asked rfl,kM]
  have c1:drw ns p 4<=100000:=by lia
  have c0:-100000<=drw ns p 4:=by lia
  have he:∀ (k:Nat) (h:HH),ev (runN T G (m+2)) G Dr [some (.p (.int k)),some (.p (.lst (ah ns))),some (.p (.int p))] h=some (.p (.int (g k)),h):=fun k h=>by
   have e:=(hg k).2
   simp[-bq,Dr,dr,e]
  have cm:=comp_map (fK (fun _ h=>some ([],h)) (ev (runN T G (m+2)) G Dr) [some (.p (.lst (ah ns))),some (.p (.int p))]) (fun d=>match d with | .int k=>.int (g k.toNat)|_=>.non) (upto 0 (drw ns p 4).toNat) h (by
   intro d hd h
   obtain ⟨k,hk,rfl⟩:=qU hd
   simp[dZ,he])
  have ln:(drw ns p 4).toNat<=100000:=by lia
  rw[qV] at cm
  have cm':(Pu (drw ns p 4).toNat).map (fun (k:Nat)=>match D.int (k:Int) with | .int k=>D.int (g k.toNat)|_=>.non)=ah ((Pu (drw ns p 4).toNat).map g):=by simp[ah,Function.comp_def]
  rw[cm'] at cm
  simp[dr,c0,c1,cm,bN,ln,af,fD]
noncomputable def Aa:E:=.call "_law_row" (.cons (.var 1 "_law_script") (.cons (.bin .add (.bin .add (.var 2 "_law_at") (.cst (.int 10))) (.bin .mul (.cst (.int 40)) (.var 0 "_law_k"))) (.cons (.var 3 "_law_size") .nil)))
structure Drawn (p:Pg):Prop where
 ok:Pg.ok p
 lo:1<=p.length
 hi:p.length<=9
noncomputable def iC (n:Int) (o:Op):Pg:=[.ask .a,.call 4,.say (.nam .a),.jump 0,.put (.nam .a) (.num n),.call 7,.back,.set .b (.two o (.nam .b) (.nam .a)),.back]
theorem pI (n:Int) (o:Op) (h:Wth n):Drawn (iC n o):=by
 refine ⟨?_,by simp[iC],by simp[iC]⟩
 intro r hr
 simp only[iC,PY,PD,or_false] at hr
 rcases hr with rfl|rfl|rfl|rfl|rfl|rfl|rfl|rfl|rfl<;>simp[Rw.ok,iC,mJ,Sm.ok,Sm.size,h]
theorem mK (L:Lw T)
 (ns:List Int) (hl:ns.length<=1000) (p:Int)
 (run1:∀ (m:Nat) (h:HH) (n:Int) (o:Op),drw ns (p+1) 4=0->n=drw ns (p+2) 9->aA (.lst [.str "add",.str "sub"]) (.int (drw ns (p+3) 2))=some (.str o.w) →
  (∀ m q many,0 < many->∀ h,runN T G (m+2) "_law_drawn" [.p (.lst (ah ns)),.p (.int q),.p (.int many)] h=some (.p (.int (drw ns q many)),h)) →
  runN T G (m+7) "_law_program" [.p (.lst (ah ns)),.p (.int p)] h=some (.p (aW (iC n o)),h))
 (run2:∀ (m:Nat) (h:HH) (pg:Pg),drw ns (p+1) 4≠0->pg.length=(1+drw ns p 9).toNat →
  (∀ m q many,0 < many->∀ h,runN T G (m+2) "_law_drawn" [.p (.lst (ah ns)),.p (.int q),.p (.int many)] h=some (.p (.int (drw ns q many)),h)) →
  (∀ h,bJ (fK (fun _ h=>some ([],h)) (ev (runN T G (m+6)) G Aa) [some (.p (.lst (ah ns))),some (.p (.int p)),some (.p (.int (1+drw ns p 9)))]) 1 (upto 0 (1+drw ns p 9).toNat) h=some (pg.map Rw.enc,h)) →
  runN T G (m+7) "_law_program" [.p (.lst (ah ns)),.p (.int p)] h=some (.p (aW pg),h)) :
 ∃ pg:Pg,Drawn pg/\∀ (m:Nat) (h:HH),runN T G (m+7) "_law_program" [.p (.lst (ah ns)),.p (.int p)] h=some (.p (aW pg),h):=by
 have dr:=fun m q many (hm:0 < many)=>b7 (G:=G) L m ns hl q many hm
 by_cases c:drw ns (p+1) 4=0
 ·have d0:=cj ns (p+3) (many:=2) (by decide)
  have d1:=cu ns (p+3) (many:=2) (by decide)
  have e0:=cj ns (p+2) (many:=9) (by decide)
  have e1:=cu ns (p+2) (many:=9) (by decide)
  have z:drw ns (p+3) 2=0\/drw ns (p+3) 2=1:=by lia
  have:∃ o:Op,aA (.lst [.str "add",.str "sub"]) (.int (drw ns (p+3) 2))=some (.str o.w):=by
   rcases z with z|z<;>rw[z]
   ·exact ⟨.add,rfl⟩
   ·exact ⟨.sub,rfl⟩
  obtain ⟨o,eo⟩:=this
  exact ⟨iC (drw ns (p+2) 9) o,pI _ _ ⟨by lia,by lia⟩,fun m h=>run1 m h _ o c rfl eo dr⟩
 ·have d0:=cj ns p (many:=9) (by decide)
  have d1:=cu ns p (many:=9) (by decide)
  obtain ⟨sz,hsz⟩:∃ sz:Nat,1+drw ns p 9=(sz:Int):=⟨(1+drw ns p 9).toNat,by lia⟩
  have ch:∀ k:Nat,∃ r:Rw,r.ok sz/\∀ (m:Nat) (h:HH),runN T G (m+6) "_law_row" [.p (.lst (ah ns)),.p (.int (p+10+40*(k:Int))),.p (.int sz)] h=some (.p r.enc,h) :=
   fun k=>Dq L ns hl _ sz
  obtain ⟨g,hg⟩:=Tz ch
  refine ⟨(Pu sz).map g,⟨?_,by simp;lia,by simp;lia⟩,fun m h=>run2 m h _ c (by simp;lia) dr fun h=>?_⟩
  ·intro r hr
   simp at hr
   obtain ⟨k,_,rfl⟩:=hr
   simpa using (hg k).1
  ·rw[hsz]
   have b:big 40=true:=by decide
   have he:∀ (k:Nat) (h:HH),ev (runN T G (m+6)) G Aa [some (.p (.int k)),some (.p (.lst (ah ns))),some (.p (.int p)),some (.p (.int sz))] h=some (.p (g k).enc,h):=fun k h=>by
    have e:=(hg k).2
    simp[Aa,e,b]
   have cm:=comp_map (fK (fun _ h=>some ([],h)) (ev (runN T G (m+6)) G Aa) [some (.p (.lst (ah ns))),some (.p (.int p)),some (.p (.int sz))]) (fun d=>match d with | .int k=>(g k.toNat).enc|_=>.non) (upto 0 sz) h (by
    intro d hd h
    obtain ⟨k,hk,rfl⟩:=qU hd
    simp[dZ,he])
   rw[qV] at cm
   simp only[Int.toNat_natCast,QG]
   rw[cm]
   rfl
end
section
variable {T:FK->Option Fn}{G:Str->Option W}
noncomputable def prB:S:=(.ret (.bi .tuple false (.cons (.comp false .rng1 (.cons (.var 2 "_law_size") .nil) ["_law_k"] [(0,"_law_script"),(1,"_law_at"),(2,"_law_size")] .nil Aa) .nil)))
mutual
theorem mL:∀ d:D,eqv d d=true
 | .non=>rfl
 | .bl b=>by simp
 | .int i=>by simp
 | .str x=>by simp
 | .tup xs=>by simp[iV xs]
 | .lst xs=>by simp[iV xs]
theorem iV:∀ ds:List D,m7 ds ds=true
 | []=>rfl
 | d :: r=>by simp[mL d,iV r]
end
theorem mO (n:Nat) (xs:List Int):(ah xs).all (dok n)=true:=by simp[ah,Qn]
theorem qW (n:Nat) (xs:List Nat):(au xs).all (dok n)=true:=by simp[au,Qn]
theorem ne_self {x:D} (h:dok 100 x=true):dX .ne x x=some false:=by rw[dG,if_pos (fX h),mL];rfl
@[simp] theorem G9 (ds:List D):m7 ds ds=true:=iV ds
@[simp] theorem Ic (d:D):eqv d d=true:=mL d
@[simp] theorem Ie (x:D) (xs:List Int):aV x (.tup (ah xs))=true:=fX (mO 99 xs)
@[simp] theorem Ig (x:D) (xs:List Nat):aV x (.tup (au xs))=true:=fX (qW 99 xs)
@[simp] theorem Kn (x:D) (xs ys:List Int):aV x (.tup [.tup (ah xs),.tup (ah ys)])=true:=fX (by simp[mO])
end
section
variable {T:FK->Option Fn}{G:Str->Option W}
noncomputable def Ko:S:=(.seq (.set 3 "_law_put_here" (.tup (.cons (.cst (.str "put")) (.cons (.tup (.cons (.cst (.str "name")) (.cons (.cst (.str "a")) .nil))) (.cons (.tup (.cons (.cst (.str "num")) (.cons (.call "_law_drawn" (.cons (.var 0 "_law_script") (.cons (.bin .add (.var 1 "_law_at") (.cst (.int 2))) (.cons (.cst (.int 9)) .nil)))) .nil))) .nil)))))
 (.seq (.set 4 "_law_sign" (.idx (.lst false (.cons (.cst (.str "add")) (.cons (.cst (.str "sub")) .nil))) (.call "_law_drawn" (.cons (.var 0 "_law_script") (.cons (.bin .add (.var 1 "_law_at") (.cst (.int 3))) (.cons (.cst (.int 2)) .nil))))))
 (.seq (.set 5 "_law_rows" (.tup (.cons (.tup (.cons (.cst (.str "ask")) (.cons (.cst (.str "a")) .nil))) (.cons (.tup (.cons (.cst (.str "call")) (.cons (.cst (.int 4)) .nil))) (.cons (.tup (.cons (.cst (.str "say")) (.cons (.tup (.cons (.cst (.str "name")) (.cons (.cst (.str "a")) .nil))) .nil))) (.cons (.tup (.cons (.cst (.str "jump")) (.cons (.cst (.int 0)) .nil))) (.cons (.var 3 "_law_put_here") .nil)))))))
 (.ret (.bin .add (.var 5 "_law_rows") (.tup (.cons (.tup (.cons (.cst (.str "call")) (.cons (.cst (.int 7)) .nil))) (.cons (.tup (.cons (.cst (.str "back")) .nil)) (.cons (.tup (.cons (.cst (.str "set")) (.cons (.cst (.str "b")) (.cons (.tup (.cons (.var 4 "_law_sign") (.cons (.tup (.cons (.cst (.str "name")) (.cons (.cst (.str "b")) .nil))) (.cons (.tup (.cons (.cst (.str "name")) (.cons (.cst (.str "a")) .nil))) .nil)))) .nil)))) (.cons (.tup (.cons (.cst (.str "back")) .nil)) .nil))))))))))
noncomputable def aY:Fn:=⟨["_law_script","_law_at"],["_law_script","_law_at","_law_size","_law_put_here","_law_sign","_law_rows"],
 (.seq (.set 2 "_law_size" (.bin .add (.cst (.int 1)) (.call "_law_drawn" (.cons (.var 0 "_law_script") (.cons (.var 1 "_law_at") (.cons (.cst (.int 9)) .nil))))))
 (.seq (.ife (.cmp .eq (.call "_law_drawn" (.cons (.var 0 "_law_script") (.cons (.bin .add (.var 1 "_law_at") (.cst (.int 1))) (.cons (.cst (.int 4)) .nil)))) (.cst (.int 0))) Ko .nil)
 prB))⟩
theorem pJ (L:Lw T) (hP:T "_law_program"=some aY) (ns:List Int) (hl:ns.length<=1000) (p:Int) :
 ∃ pg:Pg,Drawn pg/\∀ (m:Nat) (h:HH),runN T G (m+7) "_law_program" [.p (.lst (ah ns)),.p (.int p)] h=some (.p (aW pg),h):=by
 refine mK L ns hl p (fun m h n o c en eo dr=>?_) (fun m h pg c el dr cm=>?_)
 ·rw[run_eq hP rfl]
  have d:=fun q many hm h=>dr (m+4) q many hm h
  rw[aY]
  simp[-bq,Ko,d,c,eo,af,aW,iC,Rw.enc,Sm.enc,← en,Nm.w]
 ·rw[run_eq hP rfl]
  have d:=fun q many hm h=>dr (m+4) q many hm h
  have d0:=cj ns p (many:=9) (by decide)
  have d1:=cu ns p (many:=9) (by decide)
  have c0:-100000<=1+drw ns p 9:=by lia
  have c1:1+drw ns p 9<=100000:=by lia
  have c2:pg.length<=100000:=by lia
  have cm':=cm h
  rw[aY]
  simp[-fK,prB,d,c,c0,c1,c2,cm',af,aW,fD]
end
section
variable {T:FK->Option Fn}{G:Str->Option W}
theorem sU (x:Nm):QT (O3 "abcdef") (O3 x.w) 0 (O3 "abcdef").length 1=[x.ix]:=by
 cases x<;>decide +kernel
theorem i6 (x:Nm):meD .sindex (.str "abcdef") [.str x.w]=some (.int x.ix):=by
 have o:=sU x
 rw[yc,o]
theorem ix0 (a:D) (r:List D):aA (.tup (a :: r)) (.int 0)=some a:=by simp
theorem ix1 (a b:D) (r:List D):aA (.tup (a :: b :: r)) (.int 1)=some b:=by
 have:(1:Int) < (r.length:Int)+1+1:=by lia
 simp[this]
theorem ix2 (a b c:D) (r:List D):aA (.tup (a :: b :: c :: r)) (.int 2)=some c:=by
 have:(2:Int) < (r.length:Int)+1+1+1:=by lia
 simp[this]
theorem pK (d:D):∀ k:Nat,rep k [d]=O7 k d
 | 0=>rfl
 | k+1=>by
  have:=pK d k
  unfold rep at this ⊢
  rw[P1,Qw,this,P1];rfl
@[simp] theorem Np (st:St):oM st.enc (some 1) (some 3)=some (.tup [.tup (ah st.names),.tup (ah st.cells)]):=rfl
theorem sV (p:Pg) (asked:List Int) (st:St):(step p asked st).asked<=st.asked+1:=by
 unfold step
 cases p[st.row]? with
 | none=>simp
 | some r=>cases r<;>simp[Rw.next]
end
structure InP (p:Pg) (st:St):Prop where
 row:st.row<=p.length
 calls:∀ c∈st.calls,c<=p.length
theorem Ab (p:Pg):InP p St.zero:=⟨Qs _,by simp[St.zero]⟩
theorem Ac {p:Pg}{st:St} (hp:Pg.ok p) (h:InP p st) (hb:over p st=false):InP p (step p asked st):=by
 have c:st.row < p.length:=by
  rcases Pi st.row p.length with q|q
  ·exact q
  ·rw[over,O0 q] at hb;cases hb
 have e:p[st.row]?=some p[st.row]:=OZ c
 have hr:=hp _ (RV c)
 have hb':(p[st.row]).over st=false:=by rw[over,e] at hb;exact hb
 rw[step,e]
 dsimp only
 revert hr hb'
 generalize p[st.row]=r
 intro hr hb'
 cases r with
 | jump q=>exact ⟨hr,h.calls⟩
 | «unless» s q =>
  refine ⟨?_,h.calls⟩
  simp only[Rw.next]
  split
  ·exact hr.2
  ·exact c
 | call q =>
  refine ⟨hr,fun x hx=>?_⟩
  simp only[Rw.next,List.mem_append,UZ] at hx
  rcases hx with hx|rfl
  ·exact h.calls x hx
  ·exact c
 | back =>
  have cn:st.calls≠[]:=by
   intro e;simp[Rw.over,e] at hb'
  have ec:st.calls=st.calls.dropLast++[st.calls.getLast cn]:=(Ro cn).symm
  refine ⟨?_,fun x hx=>h.calls x (by rw[ec];exact Qt _ hx)⟩
  simp only[Rw.next]
  rw[ec]
  simp only[List.getLast?_append,List.getLast?_singleton,Option.some_or,SZ]
  exact h.calls _ (List.getLast_mem cn)
 | stop=>simp[Rw.over] at hb'
 | _=>exact ⟨c,h.calls⟩
theorem Ad (n:Nat) (st:St):dok (n+2) st.enc=true:=by
 simp[St.enc,tW,mO,qW]
theorem Ds (L:List St):dok 100 (.lst (L.map St.enc))=true:=by
 rw[tX,Qn]
 intro d hd
 simp at hd
 obtain ⟨st,_,rfl⟩:=hd
 exact Ad 97 st
@[simp] theorem LU (x:D) (st:St):aV x st.enc=true:=fX (Ad 98 st)
@[simp] theorem Kp (x:D) (L:List St):aV x (.lst (L.map St.enc))=true:=fX (Ds L)
noncomputable def itr (p:Pg) (asked:List Int):Nat->St
 | 0=>St.zero
 | n+1=>step p asked (itr p asked n)
structure Run (p:Pg) (asked:List Int) (most e:Nat):Prop where
 le:e<=most
 on:∀ i,i < e->over p (itr p asked i)=false
 last:e=most\/over p (itr p asked e)=true
theorem Ae (p:Pg) (asked:List Int):∀ (r j:Nat),∃ e,e<=r/\sts p asked r (itr p asked j)=(Pu (e+1)).map (fun i=>itr p asked (j+i))/\(∀ i,i < e->over p (itr p asked (j+i))=false)/\(e=r\/over p (itr p asked (j+e))=true)
 | 0,j=>⟨0,OX _,rfl,fun i hi=>absurd hi (TR _),.inl rfl⟩
 | r+1,j=>by
  rw[sts]
  by_cases c:over p (itr p asked j)=true
  ·rw[if_pos c]
   exact ⟨0,Qs _,rfl,fun i hi=>absurd hi (TR _),.inr c⟩
  ·rw[if_neg c]
   obtain ⟨e,h1,h2,h3,h4⟩:=Ae p asked r (j+1)
   have c':over p (itr p asked j)=false:=by simpa using c
   refine ⟨e+1,by lia,?_,fun i hi=>?_,?_⟩
   ·show itr p asked j :: sts p asked r (itr p asked (j+1))=_
    rw[h2,R0 (n:=e+1),Px,QG]
    congr 1
    apply Rr
    intro i _
    show itr p asked (j+1+i)=itr p asked (j+(i+1))
    congr 1;lia
   ·cases i with
    | zero=>exact c'
    | succ i =>
     have:=h3 i (by lia)
     rw[show j+(i+1)=j+1+i by lia];exact this
   ·rcases h4 with h4|h4
    ·exact .inl (by lia)
    ·exact .inr (by rw[show j+(e+1)=j+1+e by lia];exact h4)
theorem Dt (p:Pg) (asked:List Int) (most:Nat):∃ e,Run p asked most e/\sts p asked most St.zero=(Pu (e+1)).map (itr p asked):=by
 obtain ⟨e,h1,h2,h3,h4⟩:=Ae p asked most 0
 refine ⟨e,⟨h1,fun i hi=>by have:=h3 i hi;simpa using this,by simpa using h4⟩,?_⟩
 have:sts p asked most St.zero=sts p asked most (itr p asked 0):=rfl
 rw[this,h2]
 apply Rr
 intro i _
 simp
theorem jl {p:Pg}{asked:List Int}{most e:Nat} (hp:Pg.ok p) (ha:Ask asked) (R:Run p asked most e):∀ i,i<=e->At i (itr p asked i)
 | 0,_=>uT
 | i+1,h=>uU hp ha (jl hp ha R i (by lia)) (R.on i (by lia))
structure Tp where
 p:Pg
 asked:List Int
 gap:Nat
 most:Nat
 kept:List St
 far:Nat
 front:St
 now:Nat
noncomputable def Tp.fs (t:Tp) (r:Nat):List (Str×W):=[("program",.p (aW t.p)),("asked",.p (.lst (ah t.asked))),("gap",.p (.int t.gap)),("most",.p (.int t.most)),("kept",.r r),("farthest",.p (.int t.far)),("front",.p t.front.enc),("now",.p (.int t.now))]
section
variable (t:Tp) (r:Nat)
@[simp] theorem Hf:aX "program" (t.fs r)=some (.p (aW t.p)):=by simp[Tp.fs]
@[simp] theorem Kq:aX "asked" (t.fs r)=some (.p (.lst (ah t.asked))):=by simp[Tp.fs]
@[simp] theorem Nq:aX "gap" (t.fs r)=some (.p (.int t.gap)):=by simp[Tp.fs]
@[simp] theorem LV:aX "most" (t.fs r)=some (.p (.int t.most)):=by simp[Tp.fs]
@[simp] theorem Du:aX "kept" (t.fs r)=some (.r r):=by simp[Tp.fs]
@[simp] theorem Nr:aX "farthest" (t.fs r)=some (.p (.int t.far)):=by simp[Tp.fs]
@[simp] theorem Kr:aX "front" (t.fs r)=some (.p t.front.enc):=by simp[Tp.fs]
@[simp] theorem Nt:aX "now" (t.fs r)=some (.p (.int t.now)):=by simp[Tp.fs]
@[simp] theorem Nu:(t.fs r).length=8:=rfl
theorem Dv (v:Nat):bF "gap" (.p (.int v)) (t.fs r)=({ t with gap:=v }:Tp).fs r:=by simp[Tp.fs]
theorem Af (r':Nat):bF "kept" (.r r') (t.fs r)=t.fs r':=by simp[Tp.fs]
theorem Dw (v:Nat):bF "farthest" (.p (.int v)) (t.fs r)=({ t with far:=v }:Tp).fs r:=by simp[Tp.fs]
theorem wV (v:St):bF "front" (.p v.enc) (t.fs r)=({ t with front:=v }:Tp).fs r:=by simp[Tp.fs]
theorem eU {m:String} (h:(["program","asked","gap","most","kept","farthest","front","now"]:List String).contains m=false):aX m (t.fs r)=none:=by
 simp only[U0,List.contains_nil,RQ,Bool.or_eq_false_iff,beq_eq_false_iff_ne,ne_eq] at h
 obtain ⟨h1,h2,h3,h4,h5,h6,h7,h8⟩:=h
 simp[Tp.fs,h1,h2,h3,h4,h5,h6,h7,h8]
end
structure TAt (h:HH) (n r:Nat) (t:Tp):Prop where
 ob:oat h n=some (O3 "Tape",t.fs r)
 li:lat h r=some (t.kept.map St.enc)
theorem pL {q:Str×List (Str×W)} (e:oat h n=some q):n < h.length:=by
 unfold oat at e
 rcases Pi n h.length with z|z
 ·exact z
 ·rw[O0 z] at e;cases e
theorem mP {q:List D} (e:lat h n=some q):n < h.length:=by
 unfold lat at e
 rcases Pi n h.length with z|z
 ·exact z
 ·rw[O0 z] at e;cases e
theorem u0 {q:Str×List (Str×W)}{xs:List D} (e:oat h n=some q) (e':lat h r=some xs):n≠r:=by
 rintro rfl
 unfold oat at e
 unfold lat at e'
 cases g:h[n]? with
 | none=>rw[g] at e;cases e
 | some c=>rw[g] at e e';cases c<;>simp at e e'
theorem jL  (hn:n < h.length) (c:Cl):oat (h.set n c) n=qi c:=by
 unfold oat;rw[P0 hn];rfl
theorem mQ  (hn:i≠n) (c:Cl):oat (h.set n c) i=oat h i:=by
 unfold oat;rw[PM (Qj hn)]
theorem qX  (hn:n < h.length) (c:Cl):lat (h.set n c) n=oJ c:=by
 unfold lat;rw[P0 hn];rfl
theorem jm  (hn:i≠n) (c:Cl):lat (h.set n c) i=lat h i:=by
 unfold lat;rw[PM (Qj hn)]
theorem Hg  (e:h'[i]?=h[i]?):lat h' i=lat h i:=by unfold lat;rw[e]
theorem Ag  (e:h'[i]?=h[i]?):oat h' i=oat h i:=by unfold oat;rw[e]
theorem Dy {g:HH} (hi:i < h.length):oat (h++g) i=oat h i:=Ag (OW hi)
structure Go (n:Nat) (h:HH) (r:Nat) (t:Tp) (h':HH) (r':Nat) (t':Tp):Prop where
 a:TAt h n r t
 b:TAt h' n r' t'
 len:(h'.length=h.length/\r'=r)\/(h.length<=r')
 le:h.length<=h'.length
 fr:∀ i,i≠n->i≠r->i < h.length->h'[i]?=h[i]?
theorem Go.refl {t:Tp} (a:TAt h n r t):Go n h r t h r t:=⟨a,a,.inl ⟨rfl,rfl⟩,OX _,fun _ _ _ _=>rfl⟩
theorem Go.trans {n:Nat}{h h1 h2:HH}{r r1 r2:Nat}{t t1 t2:Tp} (x:Go n h r t h1 r1 t1) (y:Go n h1 r1 t1 h2 r2 t2):Go n h r t h2 r2 t2:=by
 refine ⟨x.a,y.b,?_,PL x.le y.le,fun i h1 h2 h3=>?_⟩
 ·rcases x.len with ⟨a1,a2⟩|a1
  ·rcases y.len with ⟨b1,b2⟩|b1
   ·exact .inl ⟨b1.trans a1,b2.trans a2⟩
   ·exact .inr (by lia)
  ·rcases y.len with ⟨b1,b2⟩|b1
   ·exact .inr (by lia)
   ·exact .inr (by have:=x.le;lia)
 ·have:i≠r1:=by
   rcases x.len with ⟨a1,a2⟩|a1
   ·rw[a2];exact h2
   ·lia
  rw[y.fr i h1 this (by have:=x.le;lia)]
  exact x.fr i h1 h2 h3
theorem dD {r':Nat}{t t':Tp} (x:Go n h r t h' r' t') (w:W):fin h w h'=some (w,h'):=by
 unfold fin
 by_cases c:h'.length=h.length
 ·rw[if_pos c]
 ·rw[if_neg c]
  rw[if_neg]
  intro z
  rcases x.len with ⟨a1,a2⟩|a1
  ·exact c a1
  ·have hn:=pL x.a.ob
   have e:h'[n]?=h[n]?:=by
    have q:=Q0 (l:=h') hn
    rw[z] at q
    exact q.symm
   have e2:oat h' n=oat h n:=Ag e
   rw[x.a.ob,x.b.ob] at e2
   have e3:=congrArg (fun q:Option (Str×List (Str×W))=>q.bind fun y=>aX "kept" y.2) e2
   simp only[QS,Du,QB,W.r.injEq] at e3
   have:=mP x.a.li
   lia
noncomputable def dU:Fn:=⟨["thing"],["thing"],
 (.ret (.and (.bi .isInt false (.cons (.var 0 "thing") .nil)) (.not (.bi .isBool false (.cons (.var 0 "thing") .nil)))))⟩
noncomputable def eV:Fn:=⟨["self","program","asked","every","most"],["self","program","asked","every","most"],
 (.seq (.setf (.var 0 "self") "program" (.var 1 "program"))
 (.seq (.setf (.var 0 "self") "asked" (.bi .list false (.cons (.var 2 "asked") .nil)))
 (.seq (.setf (.var 0 "self") "gap" (.bi .max2 false (.cons (.var 3 "every") (.cons (.cst (.int 1)) .nil))))
 (.seq (.setf (.var 0 "self") "most" (.bi .max2 false (.cons (.var 4 "most") (.cons (.cst (.int 0)) .nil))))
 (.seq (.setf (.var 0 "self") "kept" (.lst true (.cons (.call "begun" .nil) .nil)))
 (.seq (.setf (.var 0 "self") "farthest" (.cst (.int 0)))
 (.seq (.setf (.var 0 "self") "front" (.call "begun" .nil))
 (.setf (.var 0 "self") "now" (.cst (.int 0))))))))))⟩
noncomputable def gI:Fn:=⟨["self","moment"],["self","moment","state","step"],
 (.seq (.ex (.meth (.var 0 "self") "check" (.cons (.var 1 "moment") .nil)))
 (.seq (.set 2 "state" (.idx (.fld (.var 0 "self") "kept") (.bin .fdiv (.var 1 "moment") (.fld (.var 0 "self") "gap"))))
 (.seq (.for [(3,"step")] .rng1 (.cons (.bin .mod (.var 1 "moment") (.fld (.var 0 "self") "gap")) .nil) (.set 2 "state" (.meth (.var 0 "self") "behind" (.cons (.var 2 "state") .nil))))
 (.ret (.var 2 "state")))))⟩
noncomputable def cX:Fn:=⟨["self","state"],["self","state"],
 (.ret (.call "stepped" (.cons (.fld (.var 0 "self") "program") (.cons (.fld (.var 0 "self") "asked") (.cons (.var 1 "state") .nil)))))⟩
noncomputable def bO:Fn:=⟨["self","moment","state"],["self","moment","state"],
 (.ret (.or (.cmp .ge (.var 1 "moment") (.fld (.var 0 "self") "most")) (.call "is_over" (.cons (.fld (.var 0 "self") "program") (.cons (.var 2 "state") .nil)))))⟩
noncomputable def cY:Fn:=⟨["self","state"],["self","state"],
 (.seq (.ex (.me .append (.fld (.var 0 "self") "kept") (.cons (.var 1 "state") .nil)))
 (.ife (.cmp .gt (.bi .len false (.cons (.fld (.var 0 "self") "kept") .nil)) (.glo "MOST_MARKS")) (.seq (.setf (.var 0 "self") "kept" (.stp true 2 (.fld (.var 0 "self") "kept")))
 (.augf (.var 0 "self") "gap" .mul (.cst (.int 2)))) .nil))⟩
noncomputable def dN:Fn:=⟨["self","moment"],["self","moment"],
 (.whl (.and (.cmp .lt (.fld (.var 0 "self") "farthest") (.var 1 "moment")) (.not (.meth (.var 0 "self") "is_last" (.cons (.fld (.var 0 "self") "farthest") (.cons (.fld (.var 0 "self") "front") .nil))))) (.seq (.setf (.var 0 "self") "front" (.meth (.var 0 "self") "behind" (.cons (.fld (.var 0 "self") "front") .nil)))
 (.seq (.augf (.var 0 "self") "farthest" .add (.cst (.int 1)))
 (.ife (.cmp .eq (.bin .mod (.fld (.var 0 "self") "farthest") (.fld (.var 0 "self") "gap")) (.cst (.int 0))) (.ex (.meth (.var 0 "self") "keep" (.cons (.fld (.var 0 "self") "front") .nil))) .nil))))⟩
noncomputable def cS:Fn:=⟨["self","moment"],["self","moment"],
 (.seq (.ife (.or (.not (.call "is_whole" (.cons (.var 1 "moment") .nil))) (.or (.cmp .lt (.var 1 "moment") (.cst (.int 0))) (.cmp .gt (.var 1 "moment") (.fld (.var 0 "self") "most")))) (.ret (.cst (.bl false))) .nil)
 (.seq (.ex (.meth (.var 0 "self") "reach" (.cons (.var 1 "moment") .nil)))
 (.ret (.cmp .le (.var 1 "moment") (.fld (.var 0 "self") "farthest")))))⟩
noncomputable def cB:Fn:=⟨["self","moment"],["self","moment"],
 (.ife (.not (.meth (.var 0 "self") "has" (.cons (.var 1 "moment") .nil))) .bad .nil)⟩
structure TpP (T:FK->Option Fn) (G:Str->Option W):Prop where
 prg:Prg T G
 is_whole:T "is_whole"=some dU
 init:T (.m "Tape" "__init__")=some eV
 behind:T (.m "Tape" "behind")=some cX
 is_last:T (.m "Tape" "is_last")=some bO
 keep:T (.m "Tape" "keep")=some cY
 reach:T (.m "Tape" "reach")=some dN
 has:T (.m "Tape" "has")=some cS
 check:T (.m "Tape" "check")=some cB
 at_:T (.m "Tape" "at")=some gI
 MOST_MARKS:G "MOST_MARKS"=some (.p (.int 8))
section
variable {T:FK->Option Fn}{G:Str->Option W}
theorem gJ (P:TpP T G) (k:Nat) (i:Int) (h:HH):runN T G (k+1) "is_whole" [.p (.int i)] h=some (.p (.bl true),h):=by
 rw[run_eq P.is_whole rfl]
 simp[dU,af]
theorem jn (P:TpP T G) (k:Nat) {t:Tp} (a:TAt h n r t) (hp:Pg.ok t.p) {j:Nat}{st:St} (hj:j<=5000) (at_:At j st) (hb:over t.p st=false):runN T G (k+7) (.m "Tape" "behind") [.o n,.p st.enc] h=some (.p (step t.p t.asked st).enc,h):=by
 rw[run_eq P.behind rfl]
 have s:=qS P.prg k t.p hp t.asked st at_.ok (at_.small hj) hb
 simp[cX,a.ob,s,af]
theorem qY (P:TpP T G) (k:Nat) {t:Tp} (a:TAt h n r t) (mo:Nat) (st:St):runN T G (k+2) (.m "Tape" "is_last") [.o n,.p (.int mo),.p st.enc] h=some (.p (.bl (decide (t.most<=mo)||over t.p st)),h):=by
 rw[run_eq P.is_last rfl]
 have o:=qQ P.prg k t.p st
 by_cases c:t.most<=mo
 ·have c1:(t.most:Int)<=(mo:Int):=by lia
  simp[bO,a.ob,c,c1,af]
 ·have c1:¬ (t.most:Int)<=(mo:Int):=by lia
  simp[bO,a.ob,o,c,c1,af]
theorem Ah:SK (Pz none none (some 2) 9).1 (Pz none none (some 2) 9).2.1 (Pz none none (some 2) 9).2.2=[0,2,4,6,8]:=by decide +kernel
theorem Hh (x0 x1 x2 x3 x4 x5 x6 x7 x8:D):qk 2 [x0,x1,x2,x3,x4,x5,x6,x7,x8]=[x0,x2,x4,x6,x8]:=by
 show (SK (Pz none none (some 2) 9).1 (Pz none none (some 2) 9).2.1 (Pz none none (some 2) 9).2.2).filterMap _=_
 rw[Ah];rfl
noncomputable def Tp.keep (t:Tp) (st:St):Tp:=if t.kept.length < 8 then { t with kept:=t.kept++[st] } else { t with kept:=(Pu 5).filterMap fun i=>(t.kept++[st])[2*i]?,gap:=2*t.gap }
theorem Ai (P:TpP T G) (k:Nat) {t:Tp} (a:TAt h n r t) (hg:t.gap<=100000) (hl:t.kept.length<=8) (st:St) :
 ∃ h' r',runN T G (k+1) (.m "Tape" "keep") [.o n,.p st.enc] h=some (.p .non,h')/\Go n h r t h' r' (t.keep st):=by
 have nr:=u0 a.ob a.li
 have hn:=pL a.ob
 have hr:=mP a.li
 have e1:lat (h.set r (Cl.l (t.kept.map St.enc++[st.enc]))) r=some (t.kept.map St.enc++[st.enc]):=qX hr _
 have e2:oat (h.set r (Cl.l (t.kept.map St.enc++[st.enc]))) n=some (O3 "Tape",t.fs r):=(mQ nr _).trans a.ob
 have l0:t.kept.length < 100000:=by lia
 by_cases c:t.kept.length < 8
 ·have c1:¬ (8:Int) < (t.kept.length:Int)+1:=by lia
  have go:Go n h r t (h.set r (Cl.l (t.kept.map St.enc++[st.enc]))) r (t.keep st):=by
   refine ⟨a,⟨?_,?_⟩,.inl ⟨by simp,rfl⟩,by simp,fun i h1 h2 h3=>PM (Qj h2)⟩
   ·rw[Tp.keep,if_pos c];exact e2
   ·rw[Tp.keep,if_pos c,e1];simp
  refine ⟨_,r,?_,go⟩
  rw[run_eq P.keep rfl]
  have f:=dD go (.p .non)
  simp[cY,a.ob,a.li,e1,e2,P.MOST_MARKS,rd,c1,l0,f]
 ·have c8:t.kept.length=8:=by lia
  obtain ⟨x0,x1,x2,x3,x4,x5,x6,x7,ek⟩:∃ x0 x1 x2 x3 x4 x5 x6 x7,t.kept=[x0,x1,x2,x3,x4,x5,x6,x7]:=by
   match t.kept,c8 with
   | [x0,x1,x2,x3,x4,x5,x6,x7],_=>exact ⟨x0,x1,x2,x3,x4,x5,x6,x7,rfl⟩
  have ev:qk 2 (t.kept.map St.enc++[st.enc])=((t.keep st).kept).map St.enc:=by
   rw[Tp.keep,if_neg c,ek]
   exact Hh _ _ _ _ _ _ _ _ _
  have c1:(8:Int) < (t.kept.length:Int)+1:=by lia
  have e3:∀ g:HH,oat ((h.set r (Cl.l (t.kept.map St.enc++[st.enc])))++g) n=some (O3 "Tape",t.fs r):=fun g=>(Dy (by simpa using hn)).trans e2
  have e4:(h.set r (Cl.l (t.kept.map St.enc++[st.enc]))).length=h.length:=by simp
  have b0:big (t.gap:Int)=true:=by unfold big;exact decide_eq_true (by lia)
  have go:Go n h r t ((h.set r (Cl.l (t.kept.map St.enc++[st.enc]))++[Cl.l ((t.keep st).kept.map St.enc)]).set n (.o "Tape" ((t.keep st).fs h.length))) h.length (t.keep st):=by
   have hn2:n < (h.set r (Cl.l (t.kept.map St.enc++[st.enc]))++[Cl.l ((t.keep st).kept.map St.enc)]).length:=by simp;lia
   refine ⟨a,⟨jL hn2 _,?_⟩,.inr (OX _),by simp,fun i h1 h2 h3=>?_⟩
   ·rw[jm (Qj (Py hn))]
    have:=Nn (h.set r (Cl.l (t.kept.map St.enc++[st.enc]))) (Cl.l ((t.keep st).kept.map St.enc)) []
    rw[e4] at this
    exact this
   ·rw[PM (Qj h1),OW (by simpa using h3),PM (Qj h2)]
  refine ⟨_,_,?_,go⟩
  rw[run_eq P.keep rfl]
  have f:=dD go (.p .non)
  have k2:(t.keep st).fs h.length=({ t with gap:=2*t.gap }:Tp).fs h.length:=by
   rw[Tp.keep,if_neg c];rfl
  have pk:bF "gap" (.p (.int ((t.gap:Int)*2))) (t.fs h.length)=(t.keep st).fs h.length:=by
   rw[k2,← Dv t h.length (2*t.gap)]
   congr 3
   show (t.gap:Int)*2=((2*t.gap:Nat):Int)
   lia
  have hn2:n < (h.set r (Cl.l (t.kept.map St.enc++[st.enc]))++[Cl.l ((t.keep st).kept.map St.enc)]).length:=by simp;lia
  have e5:=jL hn2 (.o "Tape" (t.fs h.length))
  rw[FA] at e5
  have s2:∀ x y:Cl,((h.set r (Cl.l (t.kept.map St.enc++[st.enc]))++[Cl.l ((t.keep st).kept.map St.enc)]).set n x).set n y=(h.set r (Cl.l (t.kept.map St.enc++[st.enc]))++[Cl.l ((t.keep st).kept.map St.enc)]).set n y:=fun x y=>by rw[Uv]
  simp[cY,a.ob,a.li,e1,e2,e3,e4,P.MOST_MARKS,rd,c1,l0,ev,Af,e5,b0,pk,s2,f]
end
structure TI (t:Tp) (e ev:Nat):Prop where
 run:Run t.p t.asked t.most e
 ok:Pg.ok t.p
 ask:Ask t.asked
 g0:0 < t.gap
 g1:t.gap<=1000
 m1:t.most<=1000
 far:t.far<=e
 front:t.front=itr t.p t.asked t.far
 len:t.kept.length=t.far / t.gap+1
 l8:t.kept.length<=8
 kept:∀ j,j < t.kept.length->t.kept[j]?=some (itr t.p t.asked (j*t.gap))
 now:t.now<=t.far
 pw:∃ j,t.gap=ev*2 ^ j/\(0 < j->8<=t.far / (t.gap / 2))
structure Sm8 (t t':Tp):Prop where
 p:t'.p=t.p
 asked:t'.asked=t.asked
 most:t'.most=t.most
 now:t'.now=t.now
theorem Sm8.refl (t:Tp):Sm8 t t:=⟨rfl,rfl,rfl,rfl⟩
theorem Sm8.trans {t u v:Tp} (x:Sm8 t u) (y:Sm8 u v):Sm8 t v:=⟨y.p.trans x.p,y.asked.trans x.asked,y.most.trans x.most,y.now.trans x.now⟩
noncomputable def Tp.on (t:Tp):Tp:={ t with front:=step t.p t.asked t.front,far:=t.far+1 }
noncomputable def Tp.nx (t:Tp):Tp:=if (t.far+1) % t.gap=0 then t.on.keep t.on.front else t.on
theorem Aj {f g:Nat} (hg:0 < g) (c:¬ (f+1) % g=0):(f+1) / g=f / g:=by
 have h1:=Sk f g
 have h2:f % g < g:=T9 _ hg
 have e:f+1=g*(f / g)+(f % g+1):=by lia
 have h3:f % g+1 < g:=by
  rcases Pi (f % g+1) g with z|z
  ·exact z
  ·exfalso;apply c
   have:f % g+1=g:=by lia
   rw[e,this,Nat.mul_add_mod,Nat.mod_self]
 rw[e,Nat.mul_add_div hg,Nat.div_eq_of_lt h3];lia
theorem Ak {f g:Nat} (hg:0 < g) (c:(f+1) % g=0):(f+1) / g=f / g+1/\(f / g+1)*g=f+1:=by
 have h1:=Sk f g
 have h2:f % g < g:=T9 _ hg
 have h3:f % g+1=g:=by
  rcases Pi (f % g+1) g with z|z
  ·exfalso
   have e:f+1=g*(f / g)+(f % g+1):=by lia
   rw[e,Nat.mul_add_mod,Nat.mod_eq_of_lt z] at c
   lia
  ·lia
 have e:f+1=(f / g+1)*g:=by rw[Nat.add_mul,Q3 (f / g) g];lia
 exact ⟨by rw[e,SS _ hg],e.symm⟩
theorem TI.nx {t:Tp}{e ev:Nat} (I:TI t e ev) (h:t.far < e):TI t.nx e ev/\Sm8 t t.nx/\t.nx.far=t.far+1:=by
 have g0:=I.g0
 have hf:step t.p t.asked t.front=itr t.p t.asked (t.far+1):=by rw[I.front];rfl
 have mono:∀ g:Nat,t.far / g<=(t.far+1) / g:=fun g=>Ss (Qd _)
 unfold Tp.nx
 by_cases c:(t.far+1) % t.gap=0
 ·rw[if_pos c]
  obtain ⟨d1,d2⟩:=Ak g0 c
  have hfr:t.on.front=itr t.p t.asked (t.far+1):=hf
  have kp:∀ j,j < t.kept.length+1->(t.kept++[itr t.p t.asked (t.far+1)])[j]?=some (itr t.p t.asked (j*t.gap)):=fun j hj=>by
   rcases Pi j t.kept.length with z|z
   ·rw[OW z];exact I.kept j z
   ·have ej:j=t.kept.length:=by lia
    subst ej
    rw[Pd (OX _),Nat.sub_self]
    have:t.kept.length*t.gap=t.far+1:=by rw[I.len];exact d2
    rw[this];rfl
  unfold Tp.keep
  by_cases c2:t.kept.length < 8
  ·have c2':t.on.kept.length < 8:=c2
   rw[if_pos c2']
   refine ⟨⟨I.run,I.ok,I.ask,g0,I.g1,I.m1,h,hf,?_,?_,fun j hj=>?_,?_,?_⟩,⟨rfl,rfl,rfl,rfl⟩,rfl⟩
   ·show (t.kept++[t.on.front]).length=(t.far+1) / t.gap+1
    rw[d1,PK,I.len];rfl
   ·show (t.kept++[t.on.front]).length<=8
    rw[PK];simp;lia
   ·have hj':j < t.kept.length+1:=by
     have:(t.kept++[t.on.front]).length=t.kept.length+1:=by simp
     rw[← this];exact hj
    show (t.kept++[t.on.front])[j]?=some (itr t.p t.asked (j*t.gap))
    rw[hfr];exact kp j hj'
   ·show t.now<=t.far+1;have:=I.now;lia
   ·obtain ⟨j,h1,h2⟩:=I.pw
    exact ⟨j,h1,fun hj=>PL (h2 hj) (mono _)⟩
  ·have c2':¬ t.on.kept.length < 8:=c2
   rw[if_neg c2']
   have l8:t.kept.length=8:=by have:=I.l8;lia
   have f8:t.far+1=8*t.gap:=by rw[← d2,← I.len,l8]
   have le:=I.run.le
   have m1:=I.m1
   have hk:∀ i,i < 5->(t.kept++[itr t.p t.asked (t.far+1)])[2*i]?=some (itr t.p t.asked (i*(2*t.gap))):=fun i hi=>by
    rw[kp (2*i) (by lia)]
    congr 2
    rw[Q3 2 i,Nat.mul_assoc]
   have ek:(Pu 5).filterMap (fun i=>(t.kept++[t.on.front])[2*i]?)=(Pu 5).map fun i=>itr t.p t.asked (i*(2*t.gap)):=by
    rw[hfr,show Pu 5=[0,1,2,3,4] from rfl]
    simp only[PV,List.filterMap_nil,hk 0 (by decide),hk 1 (by decide),hk 2 (by decide),hk 3 (by decide),hk 4 (by decide),Px,QZ]
   have dv:(t.far+1) / (2*t.gap)=4:=by
    rw[f8,show 8*t.gap=4*(2*t.gap) by lia]
    exact SS _ (by lia)
   refine ⟨⟨I.run,I.ok,I.ask,?_,?_,I.m1,h,hf,?_,?_,fun j hj=>?_,?_,?_⟩,⟨rfl,rfl,rfl,rfl⟩,rfl⟩
   ·show 0 < 2*t.gap;lia
   ·show 2*t.gap<=1000;lia
   ·show ((Pu 5).filterMap fun i=>(t.kept++[t.on.front])[2*i]?).length=(t.far+1) / (2*t.gap)+1
    rw[ek,dv];simp
   ·show ((Pu 5).filterMap fun i=>(t.kept++[t.on.front])[2*i]?).length<=8
    rw[ek];simp
   ·have hj':j < 5:=by
     have q:j < ((Pu 5).filterMap fun i=>(t.kept++[t.on.front])[2*i]?).length:=hj
     rw[ek] at q;simpa using q
    show ((Pu 5).filterMap fun i=>(t.kept++[t.on.front])[2*i]?)[j]?=some (itr t.p t.asked (j*(2*t.gap)))
    rw[ek,Pb,QY hj'];rfl
   ·show t.now<=t.far+1;have:=I.now;lia
   ·obtain ⟨j,h1,h2⟩:=I.pw
    refine ⟨j+1,?_,fun _=>?_⟩
    ·show 2*t.gap=ev*2 ^ (j+1)
     rw[h1,Nat.pow_succ];rw[Q3 2,Nat.mul_assoc]
    ·show 8<=(t.far+1) / (2*t.gap / 2)
     rw[Nat.mul_div_cancel_left _ (by lia:0 < 2),f8,SS _ g0]
     exact OX _
 ·rw[if_neg c]
  refine ⟨⟨I.run,I.ok,I.ask,g0,I.g1,I.m1,h,hf,?_,I.l8,I.kept,?_,?_⟩,⟨rfl,rfl,rfl,rfl⟩,rfl⟩
  ·show t.kept.length=(t.far+1) / t.gap+1
   rw[I.len,Aj g0 c]
  ·show t.now<=t.far+1;have:=I.now;lia
  ·obtain ⟨j,h1,h2⟩:=I.pw
   exact ⟨j,h1,fun hj=>PL (h2 hj) (mono _)⟩
section
variable {T:FK->Option Fn}{G:Str->Option W}
noncomputable def rcC:E:=(.and (.cmp .lt (.fld (.var 0 "self") "farthest") (.var 1 "moment")) (.not (.meth (.var 0 "self") "is_last" (.cons (.fld (.var 0 "self") "farthest") (.cons (.fld (.var 0 "self") "front") .nil)))))
noncomputable def rcB:S:=(.seq (.setf (.var 0 "self") "front" (.meth (.var 0 "self") "behind" (.cons (.fld (.var 0 "self") "front") .nil)))
 (.seq (.augf (.var 0 "self") "farthest" .add (.cst (.int 1)))
 (.ife (.cmp .eq (.bin .mod (.fld (.var 0 "self") "farthest") (.fld (.var 0 "self") "gap")) (.cst (.int 0))) (.ex (.meth (.var 0 "self") "keep" (.cons (.fld (.var 0 "self") "front") .nil))) .nil)))
theorem oh (t:Tp) (r:Nat):aX "is_last" (t.fs r)=none:=eU t r rfl
theorem jM (t:Tp) (r:Nat):aX "behind" (t.fs r)=none:=eU t r rfl
theorem Hi (t:Tp) (r:Nat):aX "keep" (t.fs r)=none:=eU t r rfl
theorem Dz (t:Tp) (r:Nat):aX "reach" (t.fs r)=none:=eU t r rfl
theorem Al (t:Tp) (r:Nat):aX "has" (t.fs r)=none:=eU t r rfl
theorem cI (t:Tp) (r:Nat):aX "check" (t.fs r)=none:=eU t r rfl
theorem Nv (t:Tp) (r:Nat):aX "at" (t.fs r)=none:=eU t r rfl
theorem Ks {t:Tp} (a:TAt h n r t) (t':Tp) (k:t'.kept=t.kept):Go n h r t (h.set n (.o "Tape" (t'.fs r))) r t':=by
 have hn:=pL a.ob
 have nr:=u0 a.ob a.li
 exact ⟨a,⟨jL hn _,by rw[jm (Qj nr),k];exact a.li⟩,.inl ⟨by simp,rfl⟩,by simp,fun i h1 _ _=>PM (Qj h1)⟩
theorem DA (P:TpP T G) (k:Nat) {t:Tp}{ev:Nat} (a:TAt h n r t) (I:TI t e ev) (hl:t.far < e) (w:W) :
 ∃ h' r',evS (runN T G (k+7)) G rcB [some (.o n),some w] h=some (.nx [some (.o n),some w] h')/\Go n h r t h' r' t.nx:=by
 have hn:=pL a.ob
 have atf:=jl I.ok I.ask I.run t.far (by lia)
 have le:=I.run.le
 have m1:=I.m1
 have bh:=jn P k a I.ok (j:=t.far) (st:=t.front) (by lia) (by rw[I.front];exact atf) (by rw[I.front];exact I.run.on _ hl)
 have go1:=Ks a t.on rfl
 have e1:oat (h.set n (.o "Tape" (({ t with front:=step t.p t.asked t.front }:Tp).fs r))) n=some (O3 "Tape",({ t with front:=step t.p t.asked t.front }:Tp).fs r):=jL hn _
 have pf:=wV t r (step t.p t.asked t.front)
 have pa:bF "farthest" (.p (.int ((t.far:Int)+1))) (({ t with front:=step t.p t.asked t.front }:Tp).fs r)=t.on.fs r:=Dw ({ t with front:=step t.p t.asked t.front }:Tp) r (t.far+1)
 have e2:oat (h.set n (.o "Tape" (t.on.fs r))) n=some (O3 "Tape",t.on.fs r):=jL hn _
 have g0:(0:Int) < (t.gap:Int):=by have:=I.g0;lia
 have s2:∀ x y:Cl,(h.set n x).set n y=h.set n y:=fun x y=>by rw[Uv]
 have of:t.on.far=t.far+1:=rfl
 have og:t.on.gap=t.gap:=rfl
 have pre:evS (runN T G (k+7)) G rcB [some (.o n),some w] h=evS (runN T G (k+7)) G (.ife (.cmp .eq (.bin .mod (.fld (.var 0 "self") "farthest") (.fld (.var 0 "self") "gap")) (.cst (.int 0))) (.ex (.meth (.var 0 "self") "keep" (.cons (.fld (.var 0 "self") "front") .nil))) .nil) [some (.o n),some w] (h.set n (.o "Tape" (t.on.fs r))):=by
  rw[rcB]
  simp[a.ob,bh,jM,pf,e1,pa,s2]
 rw[pre]
 unfold Tp.nx
 have cm:(((t.far+1) % t.gap:Nat):Int)=((t.far:Int)+1) % (t.gap:Int):=by simp
 by_cases c:(t.far+1) % t.gap=0
 ·rw[if_pos c]
  have c1:((t.far:Int)+1) % (t.gap:Int)=0:=by lia
  obtain ⟨h2,r2,k1,k2⟩:=Ai P (k+6) go1.b (by show t.gap<=100000;have:=I.g1;lia) (by show t.kept.length<=8;exact I.l8) t.on.front
  refine ⟨h2,r2,?_,go1.trans k2⟩
  simp[e2,of,og,g0,I.g0,c1,Hi,k1]
 ·rw[if_neg c]
  have c1:¬ ((t.far:Int)+1) % (t.gap:Int)=0:=by lia
  refine ⟨_,r,?_,go1⟩
  have c2:(((t.far:Int)+1) % (t.gap:Int)==0)=false:=by simpa using c1
  simp[e2,of,og,g0,I.g0,c2]
theorem pM (P:TpP T G) (k:Nat) {t:Tp}{ev:Nat} (a:TAt h n r t) (I:TI t e ev) (m:Nat) :
 BT.ev (runN T G (k+7)) G rcC [some (.o n),some (.p (.int m))] h=some (.p (.bl (decide (t.far < min m e))),h):=by
 have il:=qY P (k+5) a t.far t.front
 have le:=I.run.le
 by_cases c:t.far < m
 ·have c1:(t.far:Int) < (m:Int):=by lia
  by_cases c2:t.far < e
  ·have o:over t.p t.front=false:=by rw[I.front];exact I.run.on _ c2
   have q:(decide (t.most<=t.far)||over t.p t.front)=false:=by
    rw[o,RQ];exact decide_eq_false (by lia)
   rw[q] at il
   have d:decide (t.far < min m e)=true:=decide_eq_true (by lia)
   rw[d]
   simp[rcC,a.ob,c1,c,oh,il]
  ·have fe:t.far=e:=by have:=I.far;lia
   have q:(decide (t.most<=t.far)||over t.p t.front)=true:=by
    rcases I.run.last with z|z
    ·rw[decide_eq_true (by lia)];rfl
    ·rw[I.front,fe,z,Bool.or_true]
   rw[q] at il
   have d:decide (t.far < min m e)=false:=decide_eq_false (by lia)
   rw[d]
   simp[rcC,a.ob,c1,c,oh,il]
 ·have c1:¬ (t.far:Int) < (m:Int):=by lia
  have d:decide (t.far < min m e)=false:=decide_eq_false (by lia)
  rw[d]
  simp[rcC,a.ob,c1,c]
theorem DB (P:TpP T G) (k:Nat) (n:Nat) (e ev m:Nat):∀ (d f:Nat) (h:HH) (r:Nat) (t:Tp),TAt h n r t->TI t e ev->min m e - t.far<=d->d<=f →
 ∃ h' r' t',b9 (BT.ev (runN T G (k+7)) G rcC) (evS (runN T G (k+7)) G rcB) (f+1) [some (.o n),some (.p (.int m))] h=some (.nx [some (.o n),some (.p (.int m))] h')/\Go n h r t h' r' t'/\TI t' e ev/\Sm8 t t'/\t'.far=max t.far (min m e):=by
 intro d
 induction d with
 | zero =>
  intro f h r t a I hd hf
  have q:=pM P k a I m
  rw[decide_eq_false (by lia)] at q
  refine ⟨h,r,t,?_,.refl a,I,.refl t,by lia⟩
  rw[b9,q,g9,lP]
 | succ d ih =>
  intro f h r t a I hd hf
  by_cases c:t.far < min m e
  ·have q:=pM P k a I m
   rw[decide_eq_true c] at q
   obtain ⟨h1,r1,b1,g1⟩:=DA P k a I (by lia) (.p (.int m))
   obtain ⟨I1,s1,f1⟩:=I.nx (by lia)
   cases f with
   | zero=>lia
   | succ f =>
    obtain ⟨h2,r2,t2,b2,g2,I2,s2,f2⟩:=ih f h1 r1 t.nx g1.b I1 (by lia) (by lia)
    refine ⟨h2,r2,t2,?_,g1.trans g2,I2,s1.trans s2,by lia⟩
    rw[b9,q,g9,lO,b1,bU,b2]
  ·have q:=pM P k a I m
   rw[decide_eq_false c] at q
   refine ⟨h,r,t,?_,.refl a,I,.refl t,by lia⟩
   rw[b9,q,g9,lP]
theorem qZ:dN=⟨["self","moment"],["self","moment"],.whl rcC rcB⟩:=rfl
inductive Ku (x:Option (W×HH)) (c:Option Nat->D) (F:Option Nat->Prop) (n:Nat) (h:HH) (r:Nat) (t:Tp) (e ev:Nat):Prop where
 | mk (o:Option Nat) (h':HH) (r':Nat) (t':Tp) (q:x=some (.p (c o),h')) (f:F o) (g:Go n h r t h' r' t') (i:TI t' e ev) (m:Sm8 t t'):Ku x c F n h r t e ev
inductive kN {α:Type} (x:Option (α×HH)) (y:α) (n:Nat) (h:HH) (r:Nat) (t:Tp) (e ev:Nat):Prop where
 | mk (h':HH) (r':Nat) (t':Tp) (q:x=some (y,h')) (g:Go n h r t h' r' t') (i:TI t' e ev) (m:Sm8 t t'):kN x y n h r t e ev
inductive Am {α:Type} (x:Option (α×HH)) (y:α) (n:Nat) (h:HH) (r:Nat) (t:Tp) (e ev f:Nat):Prop where
 | mk (h':HH) (r':Nat) (t':Tp) (q:x=some (y,h')) (g:Go n h r t h' r' t') (i:TI t' e ev) (m:Sm8 t t') (a:t'.far=f):Am x y n h r t e ev f
theorem wW (P:TpP T G) (k:Nat) {t:Tp}{ev:Nat} (a:TAt h n r t) (I:TI t e ev) (m:Nat) :
 Am (runN T G (k+8) (.m "Tape" "reach") [.o n,.p (.int m)] h) (.p .non) n h r t e ev (max t.far (min m e)):=by
 have le:=I.run.le
 have m1:=I.m1
 obtain ⟨h',r',t',b,g,I',s,f⟩:=DB P k n e ev m 99999 99999 h r t a I (by lia) (OX _)
 refine ⟨h',r',t',?_,g,I',s,f⟩
 rw[run_eq P.reach rfl,qZ]
 have fn:=dD g (.p .non)
 simp[turns,b,fn]
theorem u5 (P:TpP T G) (k:Nat) {t:Tp}{ev:Nat} (a:TAt h n r t) (I:TI t e ev) (m:Nat) (hm:m<=t.most) :
 Am (runN T G (k+9) (.m "Tape" "has") [.o n,.p (.int m)] h) (.p (.bl (decide (m<=e)))) n h r t e ev (max t.far (min m e)):=by
 obtain ⟨h',r',t',b,g,I',s,f⟩:=wW P k a I m
 refine ⟨h',r',t',?_,g,I',s,f⟩
 rw[run_eq P.has rfl]
 have w:=gJ P (k+7) m
 have c1:¬ ((m:Int) < 0):=by lia
 have c2:¬ ((t.most:Int) < (m:Int)):=by lia
 have fn:=fun w=>dD g w
 have far:=I.far
 have d:decide ((m:Int)<=(t'.far:Int))=decide (m<=e):=by
  by_cases c:m<=e
  ·rw[decide_eq_true c];exact decide_eq_true (by lia)
  ·rw[decide_eq_false c];exact decide_eq_false (by lia)
 simp[cS,w,c1,a.ob,c2,Dz,b,g.b.ob,fn]
 simpa using d
theorem e9 (P:TpP T G) (k:Nat) {t:Tp}{ev:Nat} (a:TAt h n r t) (I:TI t e ev) (m:Nat) (hm:m<=e) :
 Am (runN T G (k+10) (.m "Tape" "check") [.o n,.p (.int m)] h) (.p .non) n h r t e ev (max t.far m):=by
 obtain ⟨h',r',t',b,g,I',s,f⟩:=u5 P k a I m (PL hm I.run.le)
 rw[decide_eq_true hm] at b
 refine ⟨h',r',t',?_,g,I',s,by lia⟩
 rw[run_eq P.check rfl]
 have fn:=dD g (.p .non)
 simp[cB,a.ob,Al,b,fn]
noncomputable def atB:S:=(.set 2 "state" (.meth (.var 0 "self") "behind" (.cons (.var 2 "state") .nil)))
theorem u6 (P:TpP T G) (k:Nat) {n r:Nat}{t:Tp}{h:HH}{e ev:Nat} (a:TAt h n r t) (I:TI t e ev) (w1:W):∀ (q j:Nat) (x:Option W) (lo:Int),j+q<=e →
 ∃ x',bM (evS (runN T G (k+7)) G atB) [(3,"step")] (upto lo q) [some (.o n),some w1,some (.p (itr t.p t.asked j).enc),x] h=some (.nx [some (.o n),some w1,some (.p (itr t.p t.asked (j+q)).enc),x'] h)
 | 0,j,x,lo,_=>⟨x,rfl⟩
 | q+1,j,x,lo,hj=>by
  have le:=I.run.le
  have m1:=I.m1
  obtain ⟨x',b⟩:=u6 P k a I w1 q (j+1) (some (.p (.int lo))) (lo+1) (by lia)
  refine ⟨x',?_⟩
  have bh:=jn P k a I.ok (j:=j) (st:=itr t.p t.asked j) (by lia) (jl I.ok I.ask I.run j (by lia)) (I.run.on j (by lia))
  have up:upto lo (q+1)=.int lo :: upto (lo+1) q:=by
   unfold upto
   rw[R0,Px,QG]
   simp only[Int.natCast_zero,Int.add_zero,Rg,true_and]
   apply Rr
   intro i _
   simp;lia
  rw[up]
  have s1:step t.p t.asked (itr t.p t.asked j)=itr t.p t.asked (j+1):=rfl
  rw[s1] at bh
  have ej:j+1+q=j+(q+1):=by lia
  rw[ej] at b
  have hb:evS (runN T G (k+7)) G atB [some (.o n),some w1,some (.p (itr t.p t.asked j).enc),some (.p (.int lo))] h=some (.nx [some (.o n),some w1,some (.p (itr t.p t.asked (j+1)).enc),some (.p (.int lo))] h):=by
   simp[atB,a.ob,jM,bh]
  simp[hb,b]
theorem An:gI=⟨["self","moment"],["self","moment","state","step"],(.seq (.ex (.meth (.var 0 "self") "check" (.cons (.var 1 "moment") .nil)))
 (.seq (.set 2 "state" (.idx (.fld (.var 0 "self") "kept") (.bin .fdiv (.var 1 "moment") (.fld (.var 0 "self") "gap"))))
 (.seq (.for [(3,"step")] .rng1 (.cons (.bin .mod (.var 1 "moment") (.fld (.var 0 "self") "gap")) .nil) atB)
 (.ret (.var 2 "state")))))⟩:=rfl
theorem Hj (P:TpP T G) (k:Nat) {t:Tp}{ev:Nat} (a:TAt h n r t) (I:TI t e ev) (m:Nat) (hm:m<=e) :
 Am (runN T G (k+11) (.m "Tape" "at") [.o n,.p (.int m)] h) (.p (itr t.p t.asked m).enc) n h r t e ev (max t.far m):=by
 obtain ⟨h',r',t',b,g,I',s,f⟩:=e9 P k a I m hm
 refine ⟨h',r',t',?_,g,I',s,f⟩
 rw[run_eq P.at_ rfl,An]
 have fn:=fun w=>dD g w
 have g0:=I'.g0
 have g1:=I'.g1
 have dm:=Sk m t'.gap
 have md:=T9 m g0
 have hq:m / t'.gap < t'.kept.length:=by
  rw[I'.len]
  have:m / t'.gap<=t'.far / t'.gap:=Ss (by lia)
  lia
 have hk:=I'.kept _ hq
 have le:=I'.run.le
 have m1:=I'.m1
 rw[s.p,s.asked] at hk
 have gz:(0:Int) < (t'.gap:Int):=by lia
 have gm:(t'.gap:Int) < 1073741824:=by lia
 have e1:(m:Int) / (t'.gap:Int)=((m / t'.gap:Nat):Int):=by simp
 have e2:(m:Int) % (t'.gap:Int)=((m % t'.gap:Nat):Int):=by simp
 have ix:aA (.lst (t'.kept.map St.enc)) (.int ((m / t'.gap:Nat):Int))=some (itr t.p t.asked (m / t'.gap*t'.gap)).enc:=by
  show atP _ _=_
  rw[cW,Pb,hk];rfl
 obtain ⟨x',lp⟩:=u6 P (k+3) g.b I' (.p (.int m)) (m % t'.gap) (m / t'.gap*t'.gap) none 0 (by rw[Q3];lia)
 rw[s.p,s.asked] at lp
 have em:m / t'.gap*t'.gap+m % t'.gap=m:=by rw[Q3];exact dm
 rw[em] at lp
 have rg:dY .rng1 [.int ((m % t'.gap:Nat):Int)]=some (upto 0 (m % t'.gap)):=by
  rw[eX]
  have c:((-100000<=(((m % t'.gap:Nat):Int)):Bool)&&(((m % t'.gap:Nat):Int)<=100000:Bool))=true:=by
   simp only[OQ,decide_eq_true_eq];lia
  rw[if_pos c];rfl
 simp[-bq,-eX,-Int.natCast_ediv,-Int.natCast_emod,a.ob,cI,b,g.b.ob,g.b.li,rd,gz,g0,gm,e1,e2,ix,rg,fD,lp,fn]
end
section
variable {T:FK->Option Fn}{G:Str->Option W}
theorem Ao  (i:Nat) (hi:i < h.length) (ne:h'[i]?≠h[i]?) (w:W):fin h w h'=some (w,h'):=by
 unfold fin
 by_cases c:h'.length=h.length
 ·rw[if_pos c]
 ·rw[if_neg c,if_neg]
  intro z
  apply ne
  have q:=Q0 (l:=h') hi
  rw[z] at q
  exact q.symm
noncomputable def Tp.new (p:Pg) (asked:List Int) (ev most:Nat):Tp:=⟨p,asked,ev,most,[St.zero],0,St.zero,0⟩
theorem Aq (P:TpP T G) (k:Nat) (p:Pg) (asked:List Int) (ev most:Nat) (hv:1<=ev) (h:HH) :
 runN T G (k+2) (.m "Tape" "__init__") [.o h.length,.p (aW p),.p (.lst (ah asked)),.p (.int ev),.p (.int most)] (h++[.o "Tape" []])=some (.p .non,h++[.o "Tape" ((Tp.new p asked ev most).fs (h.length+1)),.l [St.zero.enc]]):=by
 rw[run_eq P.init rfl]
 have b:=wO P.prg k
 have c0:(if (1:Int) > (ev:Int) then (1:Int) else (ev:Int))=(ev:Int):=if_neg (by lia)
 have c1:(if (0:Int) > (most:Int) then (0:Int) else (most:Int))=(most:Int):=if_neg (by lia)
 have f:∀ (c:Cl) (g:HH) (w:W),c≠.o "Tape" []->fin (h++[.o "Tape" []]) w (h++c :: g)=some (w,h++c :: g):=fun c g w hc=>by
  refine Ao h.length (by simp) ?_ w
  simp
  exact hc
 have f2:=f (.o "Tape" ((Tp.new p asked ev most).fs (h.length+1))) [.l [St.zero.enc]] (.p .non) (by simp[Tp.fs])
 have fs:(Tp.new p asked ev most).fs (h.length+1)=([("program",.p (aW p)),("asked",.p (.lst (ah asked))),("gap",.p (.int ev)),("most",.p (.int most)),("kept",.r (h.length+1)),("farthest",.p (.int 0)),("front",.p St.zero.enc),("now",.p (.int 0))]:List (Str×W)):=by simp[Tp.fs,Tp.new]
 rw[fs] at f2 ⊢
 rw[eV]
 simp only[br,Px,QZ,Ph,Qv]
 simp[c0,c1,b,f2]
theorem Hl {p:Pg}{ev most:Nat} (hp:Pg.ok p) (ha:Ask asked) (R:Run p asked most e) (h1:1<=ev) (h2:ev<=1000) (h3:most<=1000):TI (Tp.new p asked ev most) e ev :=
 ⟨R,hp,ha,h1,h2,h3,Qs _,rfl,by simp[Tp.new],by simp[Tp.new],fun j hj=>by
  have:j=0:=by simpa [Tp.new] using hj
  subst this
  simp[Tp.new,itr],Qs _,⟨0,by simp[Tp.new],fun z=>absurd z (Qh _)⟩⟩
theorem Ho (h:HH) (p:Pg) (asked:List Int) (ev most:Nat):TAt (h++[.o "Tape" ((Tp.new p asked ev most).fs (h.length+1)),.l [St.zero.enc]]) h.length (h.length+1) (Tp.new p asked ev most) :=
 ⟨by simp,by simp[Tp.new]⟩
end
noncomputable def ltC:E:=(.and (.cmp .isN (.var 3 "found") (.cst .non)) (.cmp .ge (.var 1 "moment") (.cst (.int 0))))
noncomputable def ltB:S:=(.seq (.set 4 "mark" (.bin .sub (.var 1 "moment") (.bin .mod (.var 1 "moment") (.fld (.var 0 "self") "gap"))))
 (.seq (.set 3 "found" (.meth (.var 0 "self") "last_between" (.cons (.var 4 "mark") (.cons (.var 1 "moment") (.cons (.var 2 "test") .nil)))))
 (.set 1 "moment" (.bin .sub (.var 4 "mark") (.cst (.int 1))))))
noncomputable def cJ:Fn:=⟨["self","moment","test"],["self","moment","test","found","mark"],
 (.seq (.ex (.meth (.var 0 "self") "check" (.cons (.var 1 "moment") .nil)))
 (.seq (.set 3 "found" (.cst .non))
 (.seq (.whl ltC ltB)
 (.ret (.var 3 "found")))))⟩
noncomputable def lbB:S:=(.seq (.ife (.cmp .gt (.var 6 "number") (.var 1 "mark")) (.set 4 "state" (.meth (.var 0 "self") "behind" (.cons (.var 4 "state") .nil))) .nil)
 (.ife (.callv 3 "test" (.cons (.var 4 "state") .nil)) (.set 5 "found" (.var 6 "number")) .nil))
noncomputable def bf:Fn:=⟨["self","mark","moment","test"],["self","mark","moment","test","state","found","number"],
 (.seq (.set 4 "state" (.idx (.fld (.var 0 "self") "kept") (.bin .fdiv (.var 1 "mark") (.fld (.var 0 "self") "gap"))))
 (.seq (.set 5 "found" (.cst .non))
 (.seq (.for [(6,"number")] .rng2 (.cons (.var 1 "mark") (.cons (.bin .add (.var 2 "moment") (.cst (.int 1))) .nil)) lbB)
 (.ret (.var 5 "found")))))⟩
structure TpB (T:FK->Option Fn):Prop where
 last:T (.m "Tape" "last_to")=some cJ
 betw:T (.m "Tape" "last_between")=some bf
noncomputable def dF:Option Nat->D
 | none=>.non
 | some j=>.int j
@[simp] theorem Ar:dF none=.non:=rfl
@[simp] theorem Nx (j:Nat):dF (some j)=.int j:=rfl
structure FL (g:Nat->Bool) (a b:Nat) (o:Option Nat):Prop where
 yes:∀ j,o=some j->a<=j/\j<=b/\g j=true/\∀ i,j < i->i<=b->g i=false
 no:o=none->∀ i,a<=i->i<=b->g i=false
section
variable {T:FK->Option Fn}{G:Str->Option W}
def Tst (T:FK->Option Fn) (G:Str->Option W) (n:Nat) (t:Tp) (q:FK) (cs:List Cp) (g:Nat->Bool) (e:Nat):Prop :=
 ∀ k h r t',TAt h n r t'->Sm8 t t'->∀ i,i<=e->runN T G (k+10) q (.p (itr t.p t.asked i).enc :: cs.map Cp.w) h=some (.p (.bl (g i)),h)
theorem As (t:Tp) (r:Nat):aX "last_to" (t.fs r)=none:=eU t r rfl
theorem Hq (t:Tp) (r:Nat):aX "last_between" (t.fs r)=none:=eU t r rfl
theorem gK (lo:Int) (q:Nat):upto lo (q+1)=.int lo :: upto (lo+1) q:=by
 unfold upto
 rw[R0,Px,QG]
 simp only[Int.natCast_zero,Int.add_zero,Rg,true_and]
 apply Rr
 intro i _
 simp;lia
theorem u9 (P:TpP T G) (k:Nat) {n r:Nat}{t:Tp}{h:HH}{e ev:Nat} (A:TAt h n r t) (I:TI t e ev) {t0:Tp} (s0:Sm8 t0 t) {q:FK}{cs:List Cp}{g:Nat->Bool}{E:Nat} (tt:Tst T G n t0 q cs g E) (a:Nat) (w2:W):∀ (c j:Nat) (o:Option Nat) (x:Option W),a<=j->j+c<=e->j+c<=E->FL g a j o →
 ∃ o' x',bM (evS (runN T G (k+10)) G lbB) [(6,"number")] (upto ((j+1:Nat):Int) c) [some (.o n),some (.p (.int a)),some w2,some (.c q cs),some (.p (itr t.p t.asked j).enc),some (.p (dF o)),x] h =
  some (.nx [some (.o n),some (.p (.int a)),some w2,some (.c q cs),some (.p (itr t.p t.asked (j+c)).enc),some (.p (dF o')),x'] h)/\FL g a (j+c) o'
 | 0,j,o,x,_,_,_,F=>⟨o,x,rfl,F⟩
 | c+1,j,o,x,h1,h2,h2',F=>by
  have le:=I.run.le
  have m1:=I.m1
  have t1:=tt k h r t A s0 (j+1) (by lia)
  rw[← s0.p,← s0.asked] at t1
  have bh:=jn P (k+3) A I.ok (j:=j) (st:=itr t.p t.asked j) (by lia) (jl I.ok I.ask I.run j (by lia)) (I.run.on j (by lia))
  have s1:step t.p t.asked (itr t.p t.asked j)=itr t.p t.asked (j+1):=rfl
  rw[s1] at bh
  have gt:(a:Int) < ((j+1:Nat):Int):=by lia
  have F1:FL g a (j+1) (if g (j+1)=true then some (j+1) else o):=by
   by_cases c1:g (j+1)=true
   ·rw[if_pos c1]
    exact ⟨fun i e1=>by cases e1;exact ⟨by lia,OX _,c1,fun i h3 h4=>by lia⟩,fun z=>by cases z⟩
   ·rw[if_neg c1]
    have c2:g (j+1)=false:=by simpa using c1
    refine ⟨fun i e1=>?_,fun z i h3 h4=>?_⟩
    ·obtain ⟨q1,q2,q3,q4⟩:=F.yes i e1
     refine ⟨q1,by lia,q3,fun i' h3 h4=>?_⟩
     by_cases c3:i'=j+1
     ·rw[c3];exact c2
     ·exact q4 i' h3 (by lia)
    ·by_cases c3:i=j+1
     ·rw[c3];exact c2
     ·exact F.no z i h3 (by lia)
  obtain ⟨o',x',b,F'⟩:=u9 P k A I s0 tt a w2 c (j+1) _ (some (.p (.int ((j+1:Nat):Int)))) (by lia) (by lia) (by lia) F1
  have ej:j+1+c=j+(c+1):=by lia
  rw[ej] at b F'
  refine ⟨o',x',?_,F'⟩
  have bd:evS (runN T G (k+10)) G lbB [some (.o n),some (.p (.int a)),some w2,some (.c q cs),some (.p (itr t.p t.asked j).enc),some (.p (dF o)),some (.p (.int ((j+1:Nat):Int)))] h =
   some (.nx [some (.o n),some (.p (.int a)),some w2,some (.c q cs),some (.p (itr t.p t.asked (j+1)).enc),some (.p (dF (if g (j+1)=true then some (j+1) else o))),some (.p (.int ((j+1:Nat):Int)))] h):=by
   generalize hz:((j+1:Nat):Int)=z at gt
   have ez:∀ i:Nat,i=j+1->(D.int (i:Int))=D.int z:=fun i e1=>by rw[e1,hz]
   cases g1:g (j+1) with
   | true =>
    rw[g1] at t1
    simp[lbB,gt,A.ob,jM,bh,t1,hz]
   | false =>
    rw[g1] at t1
    simp[lbB,gt,A.ob,jM,bh,t1]
  have e1:((j+1:Nat):Int)+1=((j+1+1:Nat):Int):=by lia
  rw[gK,e1]
  have st:∀ (d:D) (l:List D) (s':Sl) (w:Option W),bM (evS (runN T G (k+10)) G lbB) [(6,"number")] (d :: l) [some (.o n),some (.p (.int a)),some w2,some (.c q cs),some (.p (itr t.p t.asked j).enc),some (.p (dF o)),w] h =
   gj (evS (runN T G (k+10)) G lbB [some (.o n),some (.p (.int a)),some w2,some (.c q cs),some (.p (itr t.p t.asked j).enc),some (.p (dF o)),some (.p d)] h) (bM (evS (runN T G (k+10)) G lbB) [(6,"number")] l):=fun d l s' w=>rfl
  rw[st _ _ [] x,bd,bU,b]
theorem Au (P:TpP T G) (L:TpB T) (k:Nat) {t:Tp}{ev:Nat} (A:TAt h n r t) (I:TI t e ev) {t0:Tp} (s0:Sm8 t0 t) {q:FK}{cs:List Cp}{E:Nat} (tt:Tst T G n t0 q cs g E) (a m:Nat) (h1:a<=m) (h2:m<=t.far) (hE:m<=E) (h3:a % t.gap=0) :
 ∃ o,runN T G (k+11) (.m "Tape" "last_between") [.o n,.p (.int a),.p (.int m),.c q cs] h=some (.p (dF o),h)/\FL g a m o:=by
 have le:=I.run.le
 have m1:=I.m1
 have fr:=I.far
 have g0:=I.g0
 have g1':=I.g1
 have t1:=tt k h r t A s0 a (by lia)
 rw[← s0.p,← s0.asked] at t1
 have F0:FL g a a (if g a=true then some a else none):=by
  by_cases c:g a=true
  ·rw[if_pos c];exact ⟨fun i e1=>by cases e1;exact ⟨OX _,OX _,c,fun i h3 h4=>by lia⟩,fun z=>by cases z⟩
  ·rw[if_neg c];exact ⟨fun i e1=>(by cases e1),fun _ i h3 h4=>by rw[show i=a by lia];simpa using c⟩
 obtain ⟨o,x',b,F⟩:=u9 P k A I s0 tt a (.p (.int m)) (m - a) a _ (some (.p (.int (a:Int)))) (OX _) (by lia) (by lia) F0
 rw[show a+(m - a)=m by lia] at b F
 refine ⟨o,?_,F⟩
 rw[run_eq L.betw rfl,bf]
 have hq:a / t.gap < t.kept.length:=by
  rw[I.len]
  have:a / t.gap<=t.far / t.gap:=Ss (by lia)
  lia
 have hk:=I.kept _ hq
 have ea:a / t.gap*t.gap=a:=Nat.div_mul_cancel (Nat.dvd_of_mod_eq_zero h3)
 rw[ea] at hk
 have e1:(a:Int) / (t.gap:Int)=((a / t.gap:Nat):Int):=by simp
 have ix:aA (.lst (t.kept.map St.enc)) (.int ((a / t.gap:Nat):Int))=some (itr t.p t.asked a).enc:=by
  show atP _ _=_
  rw[cW,Pb,hk];rfl
 have gz:(0:Int) < (t.gap:Int):=by lia
 have gm:(t.gap:Int) < 1073741824:=by lia
 have rg:dY .rng2 [.int (a:Int),.int ((m:Int)+1)]=some (.int (a:Int) :: upto ((a+1:Nat):Int) (m - a)):=by
  rw[eY]
  have c:((-100000<=(a:Int):Bool)&&((a:Int)<=100000:Bool)&&((-100000<=(m:Int)+1:Bool))&&(((m:Int)+1<=100000:Bool)))=true:=by
   simp only[OQ,decide_eq_true_eq];lia
  rw[if_pos c,show ((m:Int)+1 - (a:Int)).toNat=(m - a)+1 by lia,gK]
  rfl
 have bd:evS (runN T G (k+10)) G lbB [some (.o n),some (.p (.int a)),some (.p (.int m)),some (.c q cs),some (.p (itr t.p t.asked a).enc),some (.p .non),some (.p (.int (a:Int)))] h =
  some (.nx [some (.o n),some (.p (.int a)),some (.p (.int m)),some (.c q cs),some (.p (itr t.p t.asked a).enc),some (.p (dF (if g a=true then some a else none))),some (.p (.int (a:Int)))] h):=by
  cases g1:g a with
  | _=>rw[g1] at t1;simp[lbB,t1]
 have st:∀ (d:D) (l:List D) (w:Option W),bM (evS (runN T G (k+10)) G lbB) [(6,"number")] (d :: l) [some (.o n),some (.p (.int a)),some (.p (.int m)),some (.c q cs),some (.p (itr t.p t.asked a).enc),some (.p .non),w] h =
  gj (evS (runN T G (k+10)) G lbB [some (.o n),some (.p (.int a)),some (.p (.int m)),some (.c q cs),some (.p (itr t.p t.asked a).enc),some (.p .non),some (.p d)] h) (bM (evS (runN T G (k+10)) G lbB) [(6,"number")] l):=fun d l w=>rfl
 have lp:bM (evS (runN T G (k+10)) G lbB) [(6,"number")] (.int (a:Int) :: upto ((a+1:Nat):Int) (m - a)) [some (.o n),some (.p (.int a)),some (.p (.int m)),some (.c q cs),some (.p (itr t.p t.asked a).enc),some (.p .non),none] h=some (.nx [some (.o n),some (.p (.int a)),some (.p (.int m)),some (.c q cs),some (.p (itr t.p t.asked m).enc),some (.p (dF o)),x'] h):=by
  rw[st,bd,bU,b]
 generalize upto ((a+1:Nat):Int) (m - a)=ll at rg lp
 simp[-bq,-eY,-Int.natCast_ediv,A.ob,A.li,rd,gz,g0,gm,e1,ix,rg,fD,-bM,lp,af]
theorem vc (P:TpP T G) (L:TpB T) (k:Nat) {n r:Nat}{t:Tp}{h:HH}{e ev:Nat} (A:TAt h n r t) (I:TI t e ev) {t0:Tp} (s0:Sm8 t0 t) {q:FK}{cs:List Cp}{g:Nat->Bool}{E:Nat} (tt:Tst T G n t0 q cs g E) (M:Nat) (hM:M<=t.far) (hE:M<=E):∀ (f mm:Nat) (o:Option Nat) (x:Option W),mm < f->mm<=M+1 →
 (o=none->∀ i,mm<=i->i<=M->g i=false)->(∀ j,o=some j->FL g 0 M (some j)) →
 ∃ o' y x',b9 (BT.ev (runN T G (k+11)) G ltC) (evS (runN T G (k+11)) G ltB) f [some (.o n),some (.p (.int ((mm:Int) - 1))),some (.c q cs),some (.p (dF o)),x] h=some (.nx [some (.o n),y,some (.c q cs),some (.p (dF o')),x'] h)/\FL g 0 M o'
 | 0,mm,o,x,hf,_,_,_=>absurd hf (TR _)
 | f+1,mm,some j,x,hf,hm,i1,i2=>by
  refine ⟨some j,some (.p (.int ((mm:Int) - 1))),x,?_,i2 j rfl⟩
  have ts:BT.ev (runN T G (k+11)) G ltC [some (.o n),some (.p (.int ((mm:Int) - 1))),some (.c q cs),some (.p (dF (some j))),x] h=some (.p (.bl false),h):=by simp[ltC]
  rw[b9,ts,g9,lP]
 | f+1,0,none,x,hf,hm,i1,i2=>by
  refine ⟨none,some (.p (.int (((0:Nat):Int) - 1))),x,?_,⟨fun j z=>(by cases z),fun _ i h1 h2=>i1 rfl i h1 h2⟩⟩
  have ts:BT.ev (runN T G (k+11)) G ltC [some (.o n),some (.p (.int (((0:Nat):Int) - 1))),some (.c q cs),some (.p (dF none)),x] h=some (.p (.bl false),h):=by simp[ltC]
  rw[b9,ts,g9,lP]
 | f+1,m+1,none,x,hf,hm,i1,i2=>by
  have e0:((m+1:Nat):Int) - 1=(m:Int):=by lia
  rw[e0]
  have ts:BT.ev (runN T G (k+11)) G ltC [some (.o n),some (.p (.int (m:Int))),some (.c q cs),some (.p (dF none)),x] h=some (.p (.bl true),h):=by simp[ltC]
  have g0:=I.g0
  have dm:=Sk m t.gap
  have md:=T9 m g0
  have mk:(m - m % t.gap) % t.gap=0:=by
   have:m - m % t.gap=t.gap*(m / t.gap):=by lia
   rw[this];exact Nat.mul_mod_right _ _
  obtain ⟨o1,b1,F1⟩:=Au P L k A I s0 tt (m - m % t.gap) m (by lia) (by lia) (by lia) mk
  have hmm:m % t.gap<=m:=Nat.mod_le _ _
  have em:(m:Int) - (m:Int) % (t.gap:Int)=((m - m % t.gap:Nat):Int):=by
   have:(m:Int) % (t.gap:Int)=((m % t.gap:Nat):Int):=by simp
   rw[this];lia
  have gz:(0:Int) < (t.gap:Int):=by lia
  have bd:evS (runN T G (k+11)) G ltB [some (.o n),some (.p (.int (m:Int))),some (.c q cs),some (.p (dF none)),x] h=some (.nx [some (.o n),some (.p (.int (((m - m % t.gap:Nat):Int) - 1))),some (.c q cs),some (.p (dF o1)),some (.p (.int ((m - m % t.gap:Nat):Int)))] h):=by
   generalize hz:((m - m % t.gap:Nat):Int)=z at b1 em
   simp[ltB,A.ob,gz,g0,em,Hq,b1]
  obtain ⟨o',y,x',b2,F2⟩:=vc P L k A I s0 tt M hM hE f (m - m % t.gap) o1 (some (.p (.int ((m - m % t.gap:Nat):Int)))) (by lia) (by lia) (fun z i h1 h2=>by
   by_cases c:i<=m
   ·exact F1.no z i h1 c
   ·exact i1 rfl i (by lia) h2) (fun j z=>by
   obtain ⟨q1,q2,q3,q4⟩:=F1.yes j z
   refine ⟨fun j' z'=>?_,fun z'=>by cases z'⟩
   cases z'
   refine ⟨Qs _,by lia,q3,fun i h1 h2=>?_⟩
   by_cases c:i<=m
   ·exact q4 i h1 c
   ·exact i1 rfl i (by lia) h2)
  refine ⟨o',y,x',?_,F2⟩
  rw[b9,ts,g9,lO,bd,bU,b2]
theorem Av (P:TpP T G) (L:TpB T) (k:Nat) {t:Tp}{ev:Nat} (a:TAt h n r t) (I:TI t e ev) {q:FK}{cs:List Cp}{E:Nat} (tt:Tst T G n t q cs g E) (m:Nat) (hm:m<=e) (hE:m<=E) :
 Ku (runN T G (k+12) (.m "Tape" "last_to") [.o n,.p (.int m),.c q cs] h) dF (FL g 0 m) n h r t e ev:=by
 obtain ⟨h',r',t',b,g1,I',s,f⟩:=e9 P (k+1) a I m hm
 have le:=I.run.le
 have m1:=I.m1
 obtain ⟨o,y,x',w1,F⟩:=vc P L k g1.b I' s tt m (by lia) hE 100000 (m+1) none none (by lia) (OX _) (fun _ i h1 h2=>by lia) (fun j z=>by cases z)
 refine ⟨o,h',r',t',?_,F,g1,I',s⟩
 rw[run_eq L.last rfl,cJ]
 have fn:=fun w=>dD g1 w
 have e0:((m+1:Nat):Int) - 1=(m:Int):=by lia
 rw[e0] at w1
 simp only[Ar] at w1
 simp[a.ob,cI,b,turns,w1,fn]
end
noncomputable def fz:Fn:=⟨["thing"],["thing"],
 (.ret (.and (.call "is_whole" (.cons (.var 0 "thing") .nil)) (.chain .le .lt (.cst (.int 0)) (.var 0 "thing") (.glo "CELL_COUNT"))))⟩
noncomputable def bC:Fn:=⟨["thing"],["thing"],
 (.ife (.and (.not (.call "is_name" (.cons (.var 0 "thing") .nil))) (.not (.call "is_cell" (.cons (.var 0 "thing") .nil)))) .bad .nil)⟩
noncomputable def cC:Fn:=⟨["row","state"],["row","state","word"],
 (.seq (.set 2 "word" (.idx (.var 0 "row") (.cst (.int 0))))
 (.seq (.ife (.or (.cmp .eq (.var 2 "word") (.cst (.str "set"))) (.cmp .eq (.var 2 "word") (.cst (.str "ask")))) (.ret (.idx (.var 0 "row") (.cst (.int 1)))) .nil)
 (.ret (.ite (.cmp .eq (.var 2 "word") (.cst (.str "put"))) (.call "cell_by" (.cons (.idx (.var 0 "row") (.cst (.int 1))) (.cons (.var 1 "state") .nil))) (.cst .non)))))⟩
noncomputable def bP:Fn:=⟨["tape","state"],["tape","state"],
 (.ret (.call "written_by" (.cons (.idx (.fld (.var 0 "tape") "program") (.idx (.var 1 "state") (.glo "ROW"))) (.cons (.var 1 "state") .nil))))⟩
noncomputable def aD:Fn:=⟨["tape","moment"],["tape","moment"],
 (.seq (.ex (.meth (.var 0 "tape") "check" (.cons (.var 1 "moment") .nil)))
 (.ex (.meth (.var 0 "tape") "check" (.cons (.bin .sub (.var 1 "moment") (.cst (.int 1))) .nil))))⟩
noncomputable def bD:Fn:=⟨["tape","moment"],["tape","moment"],
 (.seq (.ex (.call "check_step" (.cons (.var 0 "tape") (.cons (.var 1 "moment") .nil))))
 (.ret (.call "written_next" (.cons (.var 0 "tape") (.cons (.meth (.var 0 "tape") "at" (.cons (.bin .sub (.var 1 "moment") (.cst (.int 1))) .nil)) .nil)))))⟩
noncomputable def aP:Fn:=⟨["tape","moment","thing"],["tape","moment","thing","ahead","<writer_of>"],
 (.seq (.ex (.call "check_thing" (.cons (.var 2 "thing") .nil)))
 (.seq (.ex (.meth (.var 0 "tape") "check" (.cons (.var 1 "moment") .nil)))
 (.seq (.ife (.cmp .eq (.var 1 "moment") (.cst (.int 0))) (.ret (.cst .non)) .nil)
 (.seq (.set 3 "ahead" (.methL (.var 0 "tape") "last_to" (.cons (.bin .sub (.var 1 "moment") (.cst (.int 1))) .nil) 12 [(0,"tape"),(2,"thing")]))
 (.ret (.ite (.cmp .isN (.var 3 "ahead") (.cst .non)) (.cst .non) (.bin .add (.var 3 "ahead") (.cst (.int 1)))))))))⟩
structure ThP (T:FK->Option Fn):Prop where
 is_cell:T "is_cell"=some fz
 check:T "check_thing"=some bC
structure WrP (T:FK->Option Fn):Prop where
 written_by:T "written_by"=some cC
 written_next:T "written_next"=some bP
 check_step:T "check_step"=some aD
 thing_written:T "thing_written"=some bD
 writer_of:T "writer_of"=some aP
 l12:T (.l 12)=some ue
inductive Th where
 | nm (x:Nm)|cl (i:Nat) (h:i < 4)
noncomputable def Th.enc:Th->D
 | .nm x=>.str x.w
 | .cl i _=>.int i
noncomputable def Th.val (st:St):Th->Int
 | .nm x=>st.names.getD x.ix 0
 | .cl i _=>st.cells.getD i 0
noncomputable def cZ:Option Th->D
 | none=>.non
 | some th=>th.enc
theorem Nm.Kv {x y:Nm} (h:O3 x.w=O3 y.w):x=y:=by
 cases x<;>cases y<;>first|rfl|(simp[Nm.w] at h)
theorem Kw (o:Option Th) (th:Th):eqv (cZ o) th.enc=true↔o=some th:=by
 cases o with
 | none=>cases th<;>simp[cZ,Th.enc]
 | some t =>
  cases t with
  | nm x =>
   cases th with
   | nm y =>
    simp only[cZ,Th.enc,eqv,beq_iff_eq,QB,Th.nm.injEq]
    exact ⟨Nm.Kv,fun h=>by rw[h]⟩
   | cl i h=>simp[cZ,Th.enc]
  | cl i h =>
   cases th with
   | nm y=>simp[cZ,Th.enc]
   | cl j h' =>
    simp only[cZ,Th.enc,eqv,beq_iff_eq,QB,Th.cl.injEq]
    lia
noncomputable def wb (st:St):Rw->Option Th
 | .set x _=>some (.nm x)
 | .ask x=>some (.nm x)
 | .put s _=>some (.cl (s.val st % 4).toNat (by lia))
 | _=>none
noncomputable def wn (t:Tp) (i:Nat):Option Th:=(t.p[(itr t.p t.asked i).row]?).bind (wb (itr t.p t.asked i))
section
variable {T:FK->Option Fn}{G:Str->Option W}
theorem nA (P:Prg T G) (k:Nat) (i:Int) (h:HH):runN T G (k+1) "is_name" [.p (.int i)] h=some (.p (.bl false),h):=by
 rw[run_eq P.is_name rfl]
 simp[dB,P.LETTERS,af]
theorem rj (P:TpP T G) (C:ThP T) (k:Nat)  (hi:i < 4) (h:HH):runN T G (k+2) "is_cell" [.p (.int i)] h=some (.p (.bl true),h):=by
 rw[run_eq C.is_cell rfl]
 have w:=gJ P k i h
 have c:(i:Int) < 4:=by lia
 have c0:(0:Int)<=(i:Int):=by lia
 simp[fz,w,P.prg.CELL_COUNT,c,c0,af]
theorem gO (P:TpP T G) (C:ThP T) (k:Nat) (th:Th) (h:HH):runN T G (k+3) "check_thing" [.p th.enc] h=some (.p .non,h):=by
 rw[run_eq C.check rfl]
 cases th with
 | nm x =>
  have n:=kE P.prg (k+1) x h
  simp[bC,Th.enc,n,af]
 | cl i hi =>
  have n:=nA P.prg (k+1) i h
  have c:=rj P C k hi h
  simp[bC,Th.enc,n,c,af]
theorem iE (P:Prg T G) (Wr:WrP T) (k:Nat) (m:Nat) (r:Rw) (hr:r.ok m) {st:St} (ho:st.ok) (h:HH):runN T G (k+6) "written_by" [.p r.enc,.p st.enc] h=some (.p (cZ (wb st r)),h):=by
 rw[run_eq Wr.written_by rfl]
 cases r with
 | put s u =>
  have c:=kF P k s hr.1 st ho h
  have e:((s.val st % 4).toNat:Int)=s.val st % 4:=by lia
  simp[cC,Rw.enc,c,wb,cZ,Th.enc,e,af]
 | _=>simp[cC,Rw.enc,wb,cZ,Th.enc,af]
theorem sW {t:Tp} (R:Run t.p t.asked t.most e)  (hi:i < e):∃ r,t.p[(itr t.p t.asked i).row]?=some r:=by
 have on:=R.on i hi
 unfold over at on
 cases g:t.p[(itr t.p t.asked i).row]? with
 | none=>rw[g] at on;cases on
 | some x=>exact ⟨x,rfl⟩
theorem j8 (P:TpP T G) (Wr:WrP T) (k:Nat) {t:Tp}{ev:Nat} (a:TAt h n r t) (I:TI t e ev) (i:Nat) (hi:i < e):runN T G (k+7) "written_next" [.o n,.p (itr t.p t.asked i).enc] h=some (.p (cZ (wn t i)),h):=by
 rw[run_eq Wr.written_next rfl]
 obtain ⟨rw0,hr0⟩:=sW I.run hi
 have at_:=jl I.ok I.ask I.run i (by lia)
 have w:=iE P.prg Wr k t.p.length rw0 (I.ok _ (O5 hr0)) at_.ok h
 have i1:aA (itr t.p t.asked i).enc (.int 0)=some (.int ((itr t.p t.asked i).row:Int)):=rfl
 have i2:aA (aW t.p) (.int ((itr t.p t.asked i).row:Int))=some rw0.enc:=by
  show atP _ _=_
  rw[cW,Pb,hr0];rfl
 have e1:wn t i=wb (itr t.p t.asked i) rw0:=by unfold wn;rw[hr0];rfl
 rw[e1]
 simp[-aB,bP,a.ob,P.prg.ROW,i1,i2,w,af]
noncomputable def gw (t:Tp) (th:Th):Nat->Bool:=fun i=>eqv (cZ (wn t i)) th.enc
theorem Kx {t t':Tp} (s:Sm8 t t') (th:Th):gw t' th=gw t th:=by unfold gw wn;rw[s.p,s.asked]
theorem vd (o:Option Th) (th:Th):aV (cZ o) th.enc=true:=by cases th<;>simp[Th.enc]
theorem TI.run' {t t':Tp} (s:Sm8 t t') {ev:Nat} (I:TI t e ev):Run t'.p t'.asked t'.most e/\Pg.ok t'.p/\Ask t'.asked:=by rw[s.p,s.asked,s.most];exact ⟨I.run,I.ok,I.ask⟩
theorem jN (P:TpP T G) (Wr:WrP T) (k:Nat) {t:Tp} (a:TAt h n r t) (R:Run t.p t.asked t.most e) (ok:Pg.ok t.p) (ask:Ask t.asked) (i:Nat) (hi:i < e):runN T G (k+7) "written_next" [.o n,.p (itr t.p t.asked i).enc] h=some (.p (cZ (wn t i)),h):=by
 rw[run_eq Wr.written_next rfl]
 obtain ⟨rw0,hr0⟩:=sW R hi
 have at_:=jl ok ask R i (by lia)
 have w:=iE P.prg Wr k t.p.length rw0 (ok _ (O5 hr0)) at_.ok h
 have i1:aA (itr t.p t.asked i).enc (.int 0)=some (.int ((itr t.p t.asked i).row:Int)):=rfl
 have i2:aA (aW t.p) (.int ((itr t.p t.asked i).row:Int))=some rw0.enc:=by
  show atP _ _=_
  rw[cW,Pb,hr0];rfl
 have e1:wn t i=wb (itr t.p t.asked i) rw0:=by unfold wn;rw[hr0];rfl
 rw[e1]
 simp[-aB,bP,a.ob,P.prg.ROW,i1,i2,w,af]
theorem Kz (P:TpP T G) (Wr:WrP T) {t:Tp}{ev:Nat} (I:TI t e ev) (th:Th) (h0:0 < e):Tst T G n t (.l 12) [.o n,.p th.enc] (gw t th) (e - 1):=fun k h r t' a s i hi=>by
 rw[run_eq (k:=k+9) Wr.l12 rfl]
 obtain ⟨R,ok,ask⟩:=TI.run' s I
 have w:=jN P Wr (k+2) a R ok ask i (by lia)
 rw[s.p,s.asked] at w
 have e1:wn t' i=wn t i:=by unfold wn;rw[s.p,s.asked]
 rw[e1] at w
 have ok:=vd (wn t i) th
 simp[-eqv,ue,w,ok,af,gw]
theorem mR (P:TpP T G) (Wr:WrP T) (k:Nat) {t:Tp}{ev:Nat} (a:TAt h n r t) (I:TI t e ev) (m:Nat) (h1:1<=m) (hm:m<=e) :
 kN (runN T G (k+11) "check_step" [.o n,.p (.int m)] h) (.p .non) n h r t e ev:=by
 obtain ⟨h1',r1,t1,b1,g1,I1,s1,f1⟩:=e9 P k a I m hm
 obtain ⟨h2,r2,t2,b2,g2,I2,s2,f2⟩:=e9 P k g1.b I1 (m - 1) (by lia)
 have G2:=g1.trans g2
 refine ⟨h2,r2,t2,?_,G2,I2,s1.trans s2⟩
 rw[run_eq Wr.check_step rfl]
 have fn:=dD G2 (.p .non)
 have e1:(m:Int) - 1=((m - 1:Nat):Int):=by lia
 generalize hz:((m - 1:Nat):Int)=z at b2 e1
 simp[aD,a.ob,cI,b1,g1.b.ob,e1,b2,fn]
theorem jO (P:TpP T G) (Wr:WrP T) (k:Nat) {t:Tp}{ev:Nat} (a:TAt h n r t) (I:TI t e ev) (m:Nat) (h1:1<=m) (hm:m<=e) :
 kN (runN T G (k+12) "thing_written" [.o n,.p (.int m)] h) (.p (cZ (wn t (m - 1)))) n h r t e ev:=by
 obtain ⟨h1',r1,t1,b1,g1,I1,s1⟩:=mR P Wr k a I m h1 hm
 obtain ⟨h2,r2,t2,b2,g2,I2,s2,f2⟩:=Hj P k g1.b I1 (m - 1) (by lia)
 have G2:=g1.trans g2
 have S2:=s1.trans s2
 have b3:=j8 P Wr (k+4) g2.b I2 (m - 1) (by lia)
 rw[S2.p,S2.asked] at b3
 rw[s1.p,s1.asked] at b2
 have e2:wn t2 (m - 1)=wn t (m - 1):=by unfold wn;rw[S2.p,S2.asked]
 rw[e2] at b3
 refine ⟨h2,r2,t2,?_,G2,I2,S2⟩
 rw[run_eq Wr.thing_written rfl]
 have fn:=fun w=>dD G2 w
 have e1:(m:Int) - 1=((m - 1:Nat):Int):=by lia
 generalize hz:((m - 1:Nat):Int)=z at b2 e1
 simp[bD,b1,g1.b.ob,Nv,e1,b2,b3,fn]
noncomputable def DC:Option Nat->D
 | none=>.non
 | some j=>.int ((j:Int)+1)
@[simp] theorem Ny:DC none=.non:=rfl
@[simp] theorem Hr (j:Nat):DC (some j)=.int ((j:Int)+1):=rfl
theorem sY (P:TpP T G) (L:TpB T) (C:ThP T) (Wr:WrP T) (k:Nat) {t:Tp}{ev:Nat} (a:TAt h n r t) (I:TI t e ev) (th:Th) (m:Nat) (hm:m<=e) :
 ∃ o h' r' t',runN T G (k+13) "writer_of" [.o n,.p (.int m),.p th.enc] h=some (.p (DC o),h')/\(m=0->o=none)/\(0 < m->FL (gw t th) 0 (m - 1) o)/\Go n h r t h' r' t'/\TI t' e ev/\Sm8 t t':=by
 have b0:=gO P C (k+9) th h
 obtain ⟨h1,r1,t1,b1,g1,I1,s1,f1⟩:=e9 P (k+2) a I m hm
 by_cases c:m=0
 ·subst c
  refine ⟨none,h1,r1,t1,?_,fun _=>rfl,fun z=>absurd z (Qh _),g1,I1,s1⟩
  rw[run_eq Wr.writer_of rfl]
  have fn:=fun w=>dD g1 w
  have b1':runN T G (k+12) (.m "Tape" "check") [.o n,.p (.int 0)] h=some (.p .non,h1):=b1
  simp[aP,b0,a.ob,cI,b1',fn]
 ·have tt:=Kz (n:=n) P Wr I1 th (by lia)
  rw[Kx s1] at tt
  obtain ⟨o,h2,r2,t2,b2,F,g2,I2,s2⟩:=Av P L k g1.b I1 tt (m - 1) (by lia) (by lia)
  have G2:=g1.trans g2
  refine ⟨o,h2,r2,t2,?_,fun z=>absurd z c,fun _=>F,G2,I2,s1.trans s2⟩
  rw[run_eq Wr.writer_of rfl]
  have fn:=fun w=>dD G2 w
  have e1:(m:Int) - 1=((m - 1:Nat):Int):=by lia
  have c1:((m:Int)==0)=false:=by rw[beq_eq_false_iff_ne];lia
  generalize hz:((m - 1:Nat):Int)=z at b2 e1
  cases o with
  | _=>simp[aP,b0,a.ob,cI,b1,c,c1,g1.b.ob,e1,As,b2,fn]
end
noncomputable def c5:Fn:=⟨["_law_script","_law_at"],["_law_script","_law_at"],
 (.ret (.idx (.lst false (.cons (.cst (.str "a")) (.cons (.cst (.str "b")) (.cons (.cst (.str "c")) (.cons (.cst (.str "f")) (.cons (.cst (.int 0)) (.cons (.cst (.int 1)) (.cons (.cst (.int 2)) (.cons (.cst (.int 3)) .nil))))))))) (.call "_law_drawn" (.cons (.var 0 "_law_script") (.cons (.var 1 "_law_at") (.cons (.cst (.int 8)) .nil))))))⟩
theorem wX {T:FK->Option Fn}{G:Str->Option W} (L:Lw T) (ns:List Int) (hl:ns.length<=1000) (q many:Int) (hm:0 < many):∃ z:Nat,(z:Int) < many/\∀ k h,runN T G (k+2) "_law_drawn" [.p (.lst (ah ns)),.p (.int q),.p (.int many)] h=some (.p (.int (z:Int)),h):=by
 have h0:=cj ns q hm
 have h1:=cu ns q hm
 refine ⟨(drw ns q many).toNat,by lia,fun k h=>?_⟩
 have:=b7 (G:=G) L k ns hl q many hm h
 rw[this]
 congr 4
 lia
section
variable {T:FK->Option Fn}{G:Str->Option W}
theorem wY (L:Lw T) (hT:T "_law_thing"=some c5) (ns:List Int) (hl:ns.length<=1000) (p:Int):∃ th:Th,∀ k h,runN T G (k+3) "_law_thing" [.p (.lst (ah ns)),.p (.int p)] h=some (.p th.enc,h):=by
 obtain ⟨z,hz,dz⟩:=wX (G:=G) L ns hl p 8 (by decide)
 have key:∃ th:Th,aA (.lst [.str "a",.str "b",.str "c",.str "f",.int 0,.int 1,.int 2,.int 3]) (.int (z:Int))=some th.enc:=by
  have:z=0\/z=1\/z=2\/z=3\/z=4\/z=5\/z=6\/z=7:=by lia
  rcases this with rfl|rfl|rfl|rfl|rfl|rfl|rfl|rfl
  ·exact ⟨.nm .a,rfl⟩
  ·exact ⟨.nm .b,rfl⟩
  ·exact ⟨.nm .c,rfl⟩
  ·exact ⟨.nm .f,rfl⟩
  ·exact ⟨.cl 0 (by decide),rfl⟩
  ·exact ⟨.cl 1 (by decide),rfl⟩
  ·exact ⟨.cl 2 (by decide),rfl⟩
  ·exact ⟨.cl 3 (by decide),rfl⟩
 obtain ⟨th,e⟩:=key
 refine ⟨th,fun k h=>?_⟩
 rw[run_eq hT rfl]
 have d:=dz k h
 simp[-bq,c5,d,e,af]
end
section
variable {T:FK->Option Fn}{G:Str->Option W}
noncomputable def each (f:Nat->D) (e:Nat):List D:=(Pu (e+1)).map f
end
theorem DE {F:FK->List W->HH->Option (W×HH)}{G:Str->Option W}{sr:Sr}{sa:Es}{tg:List Str}{fv:List (Nat×Str)}{cond:Es}{elt:E}{s:Sl}{h1 h2:HH}{ws:List W}{ds xs:List D}{fs:Sl} (e1:evs F G sa s h=some (ws,h1)) (e2:(rds ws h1).bind (dY sr)=some ds) (e3:frees s fv=some fs) (e4:fD ws=true) (e5:bJ (fK (evs F G cond) (BT.ev F G elt) fs) tg.length ds h1=some (xs,h2)) (e6:xs.length<=100000):BT.ev F G (.comp false sr sa tg fv cond elt) s h=some (.p (.lst xs),h2):=by
 rw[BT.ev,e1,bR]
 unfold lM
 rw[e2,e3]
 show (if fD ws=true then _ else _)=_
 rw[if_pos e4,e5,bR]
 unfold fk
 rw[if_pos (show xs.length<=lim from e6)];rfl
theorem Hs  (f:List D->HH->Option (Option D×HH)) (mk:α->D) (g:α->Option D) (h:HH):∀ (l:List α),(∀ x∈l,f [mk x] h=some (g x,h))->bJ f 1 (l.map mk) h=some (l.filterMap g,h):=by
 intro l
 induction l with
 | nil=>intro _;rfl
 | cons x r ih =>
  intro hf
  rw[Px,bJ,jw]
  show bnd (f [mk x] h) (BV (bJ f 1 (r.map mk)))=_
  rw[hf x Pj,bR,BW,ih fun y hy=>hf y (O8 _ hy),bR,yh,PV]
  cases g x<;>rfl
theorem DF {β:Type} (p:α->Bool) (m:α->β) (l:List α):l.filterMap (fun x=>if p x=true then some (m x) else none)=(l.filter p).map m:=by
 induction l with
 | nil=>rfl
 | cons x r ih =>
  rw[PV,RX]
  cases p x with
  | _=>simp[ih]
noncomputable def wv (t:Tp) (th:Th) (i:Nat):Int:=th.val (itr t.p t.asked i)
section
variable {T:FK->Option Fn}{G:Str->Option W}
@[simp] theorem OL (h:HH) (a:Cl) (r:HH):dat (h++a :: r) h.length=ya a:=by simp[dat]
end
noncomputable def mom (g:Nat->Bool) (e:Nat):List Nat:=(Pu (e+1)).filter g
section
variable {T:FK->Option Fn}{G:Str->Option W}
end
noncomputable def bK:Fn:=⟨["_law_asked_sum","_law_state"],["_law_asked_sum","_law_state","_law_word","_law_one","_law_other"],
 (.seq (.set 2 "_law_word" (.idx (.var 0 "_law_asked_sum") (.cst (.int 0))))
 (.seq (.ife (.cmp .eq (.var 2 "_law_word") (.cst (.str "num"))) (.ret (.idx (.var 0 "_law_asked_sum") (.cst (.int 1)))) .nil)
 (.seq (.ife (.cmp .eq (.var 2 "_law_word") (.cst (.str "name"))) (.ret (.idx (.idx (.var 1 "_law_state") (.cst (.int 1))) (.me .sindex (.cst (.str "abcdef")) (.cons (.idx (.var 0 "_law_asked_sum") (.cst (.int 1))) .nil)))) .nil)
 (.seq (.set 3 "_law_one" (.call "_law_worth" (.cons (.idx (.var 0 "_law_asked_sum") (.cst (.int 1))) (.cons (.var 1 "_law_state") .nil))))
 (.seq (.ife (.cmp .eq (.var 2 "_law_word") (.cst (.str "cell"))) (.ret (.idx (.idx (.var 1 "_law_state") (.cst (.int 2))) (.bin .mod (.var 3 "_law_one") (.cst (.int 4))))) .nil)
 (.seq (.set 4 "_law_other" (.call "_law_worth" (.cons (.idx (.var 0 "_law_asked_sum") (.cst (.int 2))) (.cons (.var 1 "_law_state") .nil))))
 (.seq (.ife (.cmp .eq (.var 2 "_law_word") (.cst (.str "add"))) (.ret (.bin .mod (.bin .add (.var 3 "_law_one") (.var 4 "_law_other")) (.cst (.int 10007)))) .nil)
 (.seq (.ife (.cmp .eq (.var 2 "_law_word") (.cst (.str "sub"))) (.ret (.bin .mod (.bin .sub (.var 3 "_law_one") (.var 4 "_law_other")) (.cst (.int 10007)))) .nil)
 (.ret (.ite (.cmp .eq (.var 2 "_law_word") (.cst (.str "mul"))) (.bin .mod (.bin .mul (.var 3 "_law_one") (.var 4 "_law_other")) (.cst (.int 10007))) (.bi .int false (.cons (.cmp .lt (.var 3 "_law_one") (.var 4 "_law_other")) .nil))))))))))))⟩
noncomputable def aT:Fn:=⟨["_law_program_here","_law_state"],["_law_program_here","_law_state","_law_row_here"],
 (.seq (.set 2 "_law_row_here" (.idx (.bin .add (.var 0 "_law_program_here") (.tup (.cons (.tup (.cons (.cst (.str "stop")) .nil)) .nil))) (.idx (.var 1 "_law_state") (.cst (.int 0)))))
 (.ret (.or (.cmp .eq (.var 2 "_law_row_here") (.tup (.cons (.cst (.str "stop")) .nil))) (.or (.and (.cmp .eq (.var 2 "_law_row_here") (.tup (.cons (.cst (.str "back")) .nil))) (.cmp .eq (.idx (.var 1 "_law_state") (.cst (.int 3))) (.tup .nil))) (.and (.cmp .eq (.idx (.var 2 "_law_row_here") (.cst (.int 0))) (.cst (.str "call"))) (.cmp .gt (.bi .len false (.cons (.idx (.var 1 "_law_state") (.cst (.int 3))) .nil)) (.cst (.int 5))))))))⟩
noncomputable def bL:Fn:=⟨["_law_program_here","_law_asked_here","_law_state"],["_law_program_here","_law_asked_here","_law_state","_law_row_here"],
 (.seq (.set 3 "_law_row_here" (.idx (.var 0 "_law_program_here") (.idx (.var 2 "_law_state") (.cst (.int 0)))))
 (.seq (.ife (.cmp .eq (.idx (.var 3 "_law_row_here") (.cst (.int 0))) (.cst (.str "set"))) (.ret (.tup (.cons (.idx (.var 3 "_law_row_here") (.cst (.int 1))) (.cons (.call "_law_worth" (.cons (.idx (.var 3 "_law_row_here") (.cst (.int 2))) (.cons (.var 2 "_law_state") .nil))) .nil)))) .nil)
 (.seq (.ife (.cmp .eq (.idx (.var 3 "_law_row_here") (.cst (.int 0))) (.cst (.str "put"))) (.ret (.tup (.cons (.bin .mod (.call "_law_worth" (.cons (.idx (.var 3 "_law_row_here") (.cst (.int 1))) (.cons (.var 2 "_law_state") .nil))) (.cst (.int 4))) (.cons (.call "_law_worth" (.cons (.idx (.var 3 "_law_row_here") (.cst (.int 2))) (.cons (.var 2 "_law_state") .nil))) .nil)))) .nil)
 (.seq (.ife (.cmp .eq (.idx (.var 3 "_law_row_here") (.cst (.int 0))) (.cst (.str "ask"))) (.ret (.tup (.cons (.idx (.var 3 "_law_row_here") (.cst (.int 1))) (.cons (.idx (.bin .add (.var 1 "_law_asked_here") (.bin .mul (.lst false (.cons (.cst (.int 0)) .nil)) (.bin .add (.idx (.var 2 "_law_state") (.cst (.int 4))) (.cst (.int 1))))) (.idx (.var 2 "_law_state") (.cst (.int 4)))) .nil)))) .nil)
 (.ret (.cst .non))))))⟩
noncomputable def fT (x:Str):Fn:=⟨["_law_state",x,"_law_worth_here"],["_law_state",x,"_law_worth_here","_law_names","_law_cells"],
 (.seq (.set 3 "_law_names" (.bi .list true (.cons (.idx (.var 0 "_law_state") (.cst (.int 1))) .nil)))
 (.seq (.set 4 "_law_cells" (.bi .list true (.cons (.idx (.var 0 "_law_state") (.cst (.int 2))) .nil)))
 (.seq (.ife (.bi .isStr false (.cons (.var 1 x) .nil)) (.put 3 "_law_names" (.me .sindex (.cst (.str "abcdef")) (.cons (.var 1 x) .nil)) (.var 2 "_law_worth_here")) (.put 4 "_law_cells" (.var 1 x) (.var 2 "_law_worth_here")))
 (.ret (.bin .add (.tup (.cons (.idx (.var 0 "_law_state") (.cst (.int 0))) (.cons (.bi .tuple false (.cons (.var 3 "_law_names") .nil)) (.cons (.bi .tuple false (.cons (.var 4 "_law_cells") .nil)) .nil)))) (.slc (.var 0 "_law_state") (.cons (.cst (.int 3)) .nil) .nil))))))⟩
noncomputable def kG:Fn:=fT "_law_thing_here"
noncomputable def slJ:S:=(.ife (.or (.cmp .eq (.idx (.var 3 "_law_row_here") (.cst (.int 0))) (.cst (.str "jump"))) (.and (.cmp .eq (.idx (.var 3 "_law_row_here") (.cst (.int 0))) (.cst (.str "unless"))) (.cmp .eq (.call "_law_worth" (.cons (.idx (.var 3 "_law_row_here") (.cst (.int 1))) (.cons (.var 2 "_law_state") .nil))) (.cst (.int 0))))) (.set 4 "_law_goal" (.idx (.var 3 "_law_row_here") (.neg (.cst (.int 1))))) .nil)
noncomputable def slC:S:=(.ife (.cmp .eq (.idx (.var 3 "_law_row_here") (.cst (.int 0))) (.cst (.str "call"))) (.seq (.set 5 "_law_open_ones" (.bin .add (.var 5 "_law_open_ones") (.tup (.cons (.var 4 "_law_goal") .nil))))
 (.set 4 "_law_goal" (.idx (.var 3 "_law_row_here") (.cst (.int 1))))) .nil)
noncomputable def slK:S:=(.ife (.cmp .eq (.idx (.var 3 "_law_row_here") (.cst (.int 0))) (.cst (.str "back"))) (.seq (.set 4 "_law_goal" (.idx (.var 5 "_law_open_ones") (.neg (.cst (.int 1)))))
 (.set 5 "_law_open_ones" (.slc (.var 5 "_law_open_ones") .nil (.cons (.neg (.cst (.int 1))) .nil)))) .nil)
noncomputable def slW:S:=(.ife (.cmp .notN (.var 6 "_law_told_here") (.cst .non)) (.set 2 "_law_state" (.call "_law_put" (.cons (.var 2 "_law_state") (.cons (.idx (.var 6 "_law_told_here") (.cst (.int 0))) (.cons (.idx (.var 6 "_law_told_here") (.cst (.int 1))) .nil))))) .nil)
noncomputable def slY:S:=(.ife (.cmp .eq (.idx (.var 3 "_law_row_here") (.cst (.int 0))) (.cst (.str "say"))) (.set 7 "_law_said" (.bin .add (.var 7 "_law_said") (.tup (.cons (.call "_law_worth" (.cons (.idx (.var 3 "_law_row_here") (.cst (.int 1))) (.cons (.var 2 "_law_state") .nil))) .nil)))) .nil)
noncomputable def slR:S:=(.ret (.tup (.cons (.var 4 "_law_goal") (.cons (.idx (.var 2 "_law_state") (.cst (.int 1))) (.cons (.idx (.var 2 "_law_state") (.cst (.int 2))) (.cons (.var 5 "_law_open_ones") (.cons (.bin .add (.idx (.var 2 "_law_state") (.cst (.int 4))) (.bi .int false (.cons (.cmp .eq (.idx (.var 3 "_law_row_here") (.cst (.int 0))) (.cst (.str "ask"))) .nil))) (.cons (.var 7 "_law_said") .nil))))))))
noncomputable def fU:Fn:=⟨["_law_program_here","_law_asked_here","_law_state"],["_law_program_here","_law_asked_here","_law_state","_law_row_here","_law_goal","_law_open_ones","_law_told_here","_law_said"],
 (.seq (.set 3 "_law_row_here" (.idx (.var 0 "_law_program_here") (.idx (.var 2 "_law_state") (.cst (.int 0)))))
 (.seq (.set 4 "_law_goal" (.bin .add (.idx (.var 2 "_law_state") (.cst (.int 0))) (.cst (.int 1))))
 (.seq (.set 5 "_law_open_ones" (.idx (.var 2 "_law_state") (.cst (.int 3))))
 (.seq slJ
 (.seq slC
 (.seq slK
 (.seq (.set 6 "_law_told_here" (.call "_law_write" (.cons (.var 0 "_law_program_here") (.cons (.var 1 "_law_asked_here") (.cons (.var 2 "_law_state") .nil)))))
 (.seq slW
 (.seq (.set 7 "_law_said" (.idx (.var 2 "_law_state") (.cst (.int 5))))
 (.seq slY
 slR))))))))))⟩
noncomputable def k2C:E:=(.and (.cmp .le (.bi .len false (.cons (.var 3 "_law_found") .nil)) (.var 2 "_law_many")) (.not (.call "_law_is_over" (.cons (.var 0 "_law_program_here") (.cons (.idx (.var 3 "_law_found") (.neg (.cst (.int 1)))) .nil)))))
noncomputable def k2B:S:=(.ex (.me .append (.var 3 "_law_found") (.cons (.call "_law_step" (.cons (.var 0 "_law_program_here") (.cons (.var 1 "_law_asked_here") (.cons (.idx (.var 3 "_law_found") (.neg (.cst (.int 1)))) .nil)))) .nil)))
noncomputable def dO:Fn:=⟨["_law_program_here","_law_asked_here","_law_many"],["_law_program_here","_law_asked_here","_law_many","_law_found"],
 (.seq (.set 3 "_law_found" (.lst true (.cons (.tup (.cons (.cst (.int 0)) (.cons (.tup (.cons (.cst (.int 0)) (.cons (.cst (.int 0)) (.cons (.cst (.int 0)) (.cons (.cst (.int 0)) (.cons (.cst (.int 0)) (.cons (.cst (.int 0)) .nil))))))) (.cons (.tup (.cons (.cst (.int 0)) (.cons (.cst (.int 0)) (.cons (.cst (.int 0)) (.cons (.cst (.int 0)) .nil))))) (.cons (.tup .nil) (.cons (.cst (.int 0)) (.cons (.tup .nil) .nil))))))) .nil)))
 (.seq (.whl k2C k2B)
 (.ret (.var 3 "_law_found"))))⟩
structure LwS (T:FK->Option Fn):Prop where
 worth:T "_law_worth"=some bK
 isover:T "_law_is_over"=some aT
 write:T "_law_write"=some bL
 put:∃ x,T "_law_put"=some (fT x)
 step:T "_law_step"=some fU
 states:T "_law_states"=some dO
section
variable {T:FK->Option Fn}{G:Str->Option W}
theorem Aw {st:St} (ho:st.ok) (x:Nm):aA (.tup (ah st.names)) (.int x.ix)=some (.int (st.names.getD x.ix 0)):=by
 have xl:x.ix < st.names.length:=by rw[ho.nlen];exact x.uS
 rw[aB,cW]
 simp[ah,xl]
theorem Ax {st:St} (ho:st.ok) (v:Int):aA (.tup (ah st.cells)) (.int (v % 4))=some (.int (st.cells.getD (v % 4).toNat 0)):=by
 have xl:(v % 4).toNat < st.cells.length:=by rw[ho.clen];lia
 have e:aA (.tup (ah st.cells)) (.int (((v % 4).toNat:Nat):Int))=some (.int (st.cells.getD (v % 4).toNat 0)):=by
  rw[aB,cW]
  simp[ah,xl]
 have e2:(((v % 4).toNat:Nat):Int)=v % 4:=by lia
 rw[e2] at e
 exact e
theorem i7 (L:LwS T) (st:St) (ho:st.ok):∀ (s:Sm),s.ok->∀ (m:Nat) (h:HH),runN T G (m+s.size) "_law_worth" [.p s.enc,.p st.enc] h=some (.p (.int (s.val st)),h):=by
 intro s
 induction s with
 | num n =>
  intro _ m h
  rw[Sm.size,run_eq L.worth rfl]
  simp[bK,Sm.enc,af,Sm.val]
 | nam i =>
  intro _ m h
  rw[Sm.size,run_eq L.worth rfl]
  have e:=i6 i
  have x:=Aw ho i
  simp[-aB,-P8,bK,Sm.enc,af,e,x,Sm.val,ix0,ix1]
 | cell s ih =>
  intro hok m h
  rw[Sm.size,← Nat.add_assoc,run_eq L.worth rfl]
  have r:=ih hok m
  have x:=Ax ho (s.val st)
  simp[-aB,-P8,bK,Sm.enc,af,r,x,Sm.val,ix0,ix1]
 | two o s t ihs iht =>
  intro hok m h
  rw[Sm.size,← Nat.add_assoc,run_eq L.worth rfl]
  have r1:=fun h=>ihs hok.1 (m+t.size) h
  have r2:=fun h=>iht hok.2 (m+s.size) h
  have e1:m+t.size+s.size=m+(s.size+t.size):=by lia
  have e2:m+s.size+t.size=m+(s.size+t.size):=by lia
  rw[e1] at r1
  rw[e2] at r2
  have b:big (s.val st)=true:=by have:=Sm.nY (s:=s) ho hok.1;exact j7 this.1 (by have:=this.2;lia)
  cases o<;>simp[bK,Sm.enc,Op.w,af,r1,r2,Sm.val,BT.two,b]
theorem kO (L:LwS T) (k:Nat) (p:Pg) (hpl:p.length<=1000) (st:St) (hi:InP p st) (h:HH):runN T G (k+1) "_law_is_over" [.p (aW p),.p st.enc] h=some (.p (.bl (over p st)),h):=by
 rw[run_eq L.isover rfl]
 have add:iW .add (aW p) (.tup [.tup [.str "stop"]])=some (.tup ((p++[Rw.stop]).map Rw.enc)):=by
  show iW .add (.tup (p.map Rw.enc)) _=_
  rw[cL,if_pos (by simp;lia)]
  simp[Rw.enc]
 obtain ⟨r,er,eo⟩:∃ r,(p++[Rw.stop])[st.row]?=some r/\over p st=r.over st:=by
  rcases Pi st.row p.length with q|q
  ·refine ⟨p[st.row],by rw[OW q];exact OZ q,?_⟩
   rw[over,OZ q]
  ·have e:st.row=p.length:=Nat.le_antisymm hi.row q
   refine ⟨.stop,by rw[Pd q,e];simp,?_⟩
   rw[over,O0 q];rfl
 have ix:aA (.tup ((p++[Rw.stop]).map Rw.enc)) (.int st.row)=some r.enc:=by rw[aB,cW,Pb,er];rfl
 have ok1:∀ x:D,aV x (.tup [.str "stop"])=true:=fun x=>fX (by simp)
 have ok2:∀ x:D,aV x (.tup [.str "back"])=true:=fun x=>fX (by simp)
 rw[eo]
 cases r with
 | call q =>
  have e:decide ((5:Int) < (st.calls.length:Int))=decide (6<=st.calls.length):=by
   by_cases c:6<=st.calls.length
   ·simp[c];lia
   ·simp[c];lia
  simp only[Rw.enc] at ix
  simp[-aB,-QH,aT,add,ix,ok1,ok2,Rw.over,au,af,ix0,e]
 | back =>
  simp only[Rw.enc] at ix
  cases hc:st.calls with
  | _=>simp[-aB,-QH,aT,add,ix,ok1,ok2,Rw.over,au,af,ix0,hc]
 | _ =>
  simp only[Rw.enc] at ix
  simp[-aB,-QH,aT,add,ix,ok1,ok2,Rw.over,au,af,ix0]
noncomputable def Rw.told (asked:List Int) (st:St):Rw->D
 | .set x s=>.tup [.str x.w,.int (s.val st)]
 | .put s t=>.tup [.int (s.val st % 4),.int (t.val st)]
 | .ask x=>.tup [.str x.w,.int (asked.getD st.asked 0)]
 | _=>.non
theorem Ay (asked:List Int) (i:Nat):aA (.lst (ah asked++rep (i+1) [.int 0])) (.int i)=some (.int (asked.getD i 0)):=by
 rw[pK,bq,cW]
 rcases Pi i asked.length with c|c
 ·rw[OW (by rw[bN];exact c)]
  simp[ah,c]
 ·have e:asked[i]?=none:=O0 (by lia)
  rw[Pd (by rw[bN];lia),bN,Qg,if_pos (by lia)]
  simp[e]
theorem i8 (L:LwS T) (k:Nat) (p:Pg) (asked:List Int) (hal:asked.length<=1000) (st:St) (ho:st.ok) (hk:st.asked<=100) (r:Rw) (hr:r.ok p.length) (er:p[st.row]?=some r) (h:HH) :
 runN T G (k+16) "_law_write" [.p (aW p),.p (.lst (ah asked)),.p st.enc] h=some (.p (r.told asked st),h):=by
 rw[run_eq L.write rfl]
 have row:aA (aW p) (.int st.row)=some r.enc:=by
  show aA (.tup (p.map Rw.enc)) _=_
  rw[aB,cW,Pb,er];rfl
 have wt:∀ s:Sm,mJ s->∀ h,runN T G (k+15) "_law_worth" [.p s.enc,.p st.enc] h=some (.p (.int (s.val st)),h):=fun s hs h=>by
  have:=i7 (G:=G) L st ho s hs.1 (k+(15 - s.size)) h
  have e:k+(15 - s.size)+s.size=k+15:=by have:=hs.2;lia
  rw[e] at this;exact this
 cases r with
 | set x s=>simp only[Rw.enc] at row;simp[-aB,bL,row,wt s hr,af,Rw.told,ix0,ix1,ix2]
 | put s t=>simp only[Rw.enc] at row;simp[-aB,bL,row,wt s hr.1,wt t hr.2,af,Rw.told,ix0,ix1,ix2]
 | ask x =>
  have z:=Ay asked st.asked
  have a1:(-1000:Int)<=(st.asked:Int)+1:=by lia
  have a2:(st.asked:Int)+1<=1000:=by lia
  have a3:((st.asked:Int)+1).toNat=st.asked+1:=by lia
  have a4:st.asked+1<=100000:=by lia
  have a5:(ah asked).length+(rep (st.asked+1) [D.int 0]).length<=100000:=by rw[pK,bN];simp;lia
  simp only[Rw.enc] at row
  simp only[P8] at z
  simp[-aB,-bq,bL,row,af,Rw.told,ix0,ix1,a1,a2,a3,a4,a5,z]
 | _=>simp only[Rw.enc] at row;simp[-aB,bL,row,af,Rw.told,ix0]
@[simp] theorem Nz (st:St):oM st.enc (some 3) none=some (.tup [.tup (au st.calls),.int st.asked,.tup (ah st.said)]):=rfl
theorem i9 (L:LwS T) (k:Nat) (st:St) (ho:st.ok) (x:Nm) (v:Int) (h:HH):runN T G (k+1) "_law_put" [.p st.enc,.p (.str x.w),.p (.int v)] h=some (.p ({ st with names:=st.names.set x.ix v }:St).enc,h):=by
 obtain ⟨nx,hx⟩:=L.put
 rw[run_eq hx rfl]
 have e:=i6 x
 have xl:(x.ix:Int) < ((ah st.names).length:Int):=by rw[bN,ho.nlen];have:=x.uS;lia
 have s1:(ah st.names).set x.ix (.int v)=ah (st.names.set x.ix v):=ints_set _ _ _
 have bl1:biD .list [.tup (ah st.names)]=some (.lst (ah st.names)):=rfl
 have bl2:biD .list [.tup (ah st.cells)]=some (.lst (ah st.cells)):=rfl
 have p1:place (ah st.names).length (x.ix:Int)=some x.ix:=by simp[place,xl]
 simp[-place,fT,e,bl1,bl2,p1,s1,rd,gu]
 simp[St.enc,gu]
theorem nB (L:LwS T) (k:Nat) (st:St) (ho:st.ok) (q v:Int) (hq:0<=q) (hq4:q < 4) (h:HH):runN T G (k+1) "_law_put" [.p st.enc,.p (.int q),.p (.int v)] h=some (.p ({ st with cells:=st.cells.set q.toNat v }:St).enc,h):=by
 obtain ⟨nx,hx⟩:=L.put
 rw[run_eq hx rfl]
 have s1:(ah st.cells).set q.toNat (.int v)=ah (st.cells.set q.toNat v):=ints_set _ _ _
 have bl1:biD .list [.tup (ah st.names)]=some (.lst (ah st.names)):=rfl
 have bl2:biD .list [.tup (ah st.cells)]=some (.lst (ah st.cells)):=rfl
 have p1:place (ah st.cells).length q=some q.toNat:=by
  have:q < ((ah st.cells).length:Int):=by rw[bN,ho.clen];lia
  simp[place,hq,this]
 simp[-place,fT,bl1,bl2,p1,s1,rd,gu]
 simp[St.enc,gu]
theorem NB (xs:List D) (a:D):aA (.tup (xs++[a])) (.int (-1))=some a:=by
 have e2:-((xs.length:Int)+1)<=-1:=by lia
 have e3:(-1+((xs.length:Int)+1)).toNat=xs.length:=by lia
 simp[e2,e3]
section
variable {F:FK->List W->HH->Option (W×HH)}
theorem sJ0 {w:Str} (e:aA d (.int 0)=some (.str w)) (h1:eqv (.str w) (.str "jump")=false) (h2:eqv (.str w) (.str "unless")=false) (sl:Sl) (h:HH) (g:sl[3]?=some (some (.p d))):evS F G slJ sl h=some (.nx sl h):=by
 simp[-aB,-eqv,slJ,g,e,h1,h2]
theorem sC0 {w:Str} (e:aA d (.int 0)=some (.str w)) (h1:eqv (.str w) (.str "call")=false) (sl:Sl) (h:HH) (g:sl[3]?=some (some (.p d))):evS F G slC sl h=some (.nx sl h):=by
 simp[-aB,-eqv,slC,g,e,h1]
theorem sK0 {w:Str} (e:aA d (.int 0)=some (.str w)) (h1:eqv (.str w) (.str "back")=false) (sl:Sl) (h:HH) (g:sl[3]?=some (some (.p d))):evS F G slK sl h=some (.nx sl h):=by
 simp[-aB,-eqv,slK,g,e,h1]
theorem sY0 {w:Str} (e:aA d (.int 0)=some (.str w)) (h1:eqv (.str w) (.str "say")=false) (sl:Sl) (h:HH) (g:sl[3]?=some (some (.p d))):evS F G slY sl h=some (.nx sl h):=by
 simp[-aB,-eqv,slY,g,e,h1]
theorem sW0 (sl:Sl) (h:HH) (g:sl[6]?=some (some (.p .non))):evS F G slW sl h=some (.nx sl h):=by
 simp[slW,g]
theorem sW1 {st x y z:D} (e:F "_law_put" [.p st,.p x,.p y] h=some (.p z,h)) (sl:Sl) (g:sl[6]?=some (some (.p (.tup [x,y])))) (g2:sl[2]?=some (some (.p st))):evS F G slW sl h=some (.nx (sl.set 2 (some (.p z))) h):=by
 simp[slW,g,g2,e]
theorem sR1 {dn dc dr:D}{w:Str}{i b:Int} (e:aA d (.int 0)=some (.str w)) (e1:aA dr (.int 1)=some dn) (e2:aA dr (.int 2)=some dc) (e4:aA dr (.int 4)=some (.int i)) (hb:(if eqv (.str w) (.str "ask")=true then (1:Int) else 0)=b) (sl:Sl) (h:HH) {x4 x5 x7:D}
 (g2:sl[2]?=some (some (.p dr))) (g3:sl[3]?=some (some (.p d))) (g4:sl[4]?=some (some (.p x4))) (g5:sl[5]?=some (some (.p x5))) (g7:sl[7]?=some (some (.p x7))):evS F G slR sl h=some (.rt (.p (.tup [x4,dn,dc,x5,.int (i+b),x7])) h):=by
 subst hb
 simp[-aB,-eqv,slR,g2,g3,g4,g5,g7,e,e1,e2,e4]
end
theorem pN (L:LwS T) (k:Nat) (p:Pg) (hp:Pg.ok p) (asked:List Int) (hal:asked.length<=1000) (st:St) (ho:st.ok) (hs:st.small) (hk:st.asked<=100) (hb:over p st=false) (h:HH) :
 runN T G (k+17) "_law_step" [.p (aW p),.p (.lst (ah asked)),.p st.enc] h=some (.p (step p asked st).enc,h):=by
 rw[run_eq L.step rfl]
 have c:st.row < p.length:=by
  rcases Pi st.row p.length with q|q
  ·exact q
  ·rw[over,O0 q] at hb;cases hb
 have e:p[st.row]?=some p[st.row]:=OZ c
 have hr:=hp _ (RV c)
 have hb':(p[st.row]).over st=false:=by rw[over,e] at hb;exact hb
 rw[step,e]
 revert hr hb'
 generalize p[st.row]=r at *
 intro hr hb'
 have row:aA (aW p) (.int st.row)=some r.enc:=by
  show aA (.tup (p.map Rw.enc)) _=_
  rw[aB,cW,Pb,e];rfl
 have wr:=i8 (G:=G) L k p asked hal st ho hk r hr e
 have wt:∀ s:Sm,mJ s->∀ h,runN T G (k+16) "_law_worth" [.p s.enc,.p st.enc] h=some (.p (.int (s.val st)),h):=fun s hs h=>by
  have:=i7 (G:=G) L st ho s hs.1 (k+(16 - s.size)) h
  have e:k+(16 - s.size)+s.size=k+16:=by have:=hs.2;lia
  rw[e] at this;exact this
 have l1:=hs.sl
 have l2:=hs.cl
 have q0:aA st.enc (.int 0)=some (.int st.row):=rfl
 have q3:aA st.enc (.int 3)=some (.tup (au st.calls)):=rfl
 have rt:∀ (x:St) (w:Str) (b:Int),aA r.enc (.int 0)=some (.str w)->(if eqv (.str w) (.str "ask")=true then (1:Int) else 0)=b->∀ (sl:Sl) (h:HH) (x4 x5 x7:D),sl[2]?=some (some (.p x.enc))->sl[3]?=some (some (.p r.enc))->sl[4]?=some (some (.p x4))->sl[5]?=some (some (.p x5))->sl[7]?=some (some (.p x7)) →
  evS (runN T G (k+16)) G slR sl h=some (.rt (.p (.tup [x4,.tup (ah x.names),.tup (ah x.cells),x5,.int (x.asked+b),x7])) h):=fun x w b e hb sl h x4 x5 x7 g2 g3 g4 g5 g7=>sR1 e rfl rfl rfl hb sl h g2 g3 g4 g5 g7
 have q5:∀ x:St,aA x.enc (.int 5)=some (.tup (ah x.said)):=fun _=>rfl
 rw[fU]
 cases r with
 | set x s =>
  have pt:=i9 (G:=G) L (k+15) st ho x (s.val st) h
  have w0:aA (Rw.set x s).enc (.int 0)=some (.str "set"):=rfl
  have J:=sJ0 (G:=G) (F:=runN T G (k+16)) w0 (by decide) (by decide)
  have C:=sC0 (G:=G) (F:=runN T G (k+16)) w0 (by decide)
  have K:=sK0 (G:=G) (F:=runN T G (k+16)) w0 (by decide)
  have Y:=sY0 (G:=G) (F:=runN T G (k+16)) w0 (by decide)
  have R:=rt { st with names:=st.names.set x.ix (s.val st) } "set" 0 w0 rfl
  have Wq:=sW1 (G:=G) (F:=runN T G (k+16)) pt
  simp only[Rw.told] at wr
  simp[-aB,q0,q3,row,J,C,K,wr,Wq,q5,Y,R,af]
  rfl
 | put s t =>
  have pt:=nB (G:=G) L (k+15) st ho (s.val st % 4) (t.val st) (by lia) (by lia) h
  have w0:aA (Rw.put s t).enc (.int 0)=some (.str "put"):=rfl
  have J:=sJ0 (G:=G) (F:=runN T G (k+16)) w0 (by decide) (by decide)
  have C:=sC0 (G:=G) (F:=runN T G (k+16)) w0 (by decide)
  have K:=sK0 (G:=G) (F:=runN T G (k+16)) w0 (by decide)
  have Y:=sY0 (G:=G) (F:=runN T G (k+16)) w0 (by decide)
  have R:=rt { st with cells:=st.cells.set (s.val st % 4).toNat (t.val st) } "put" 0 w0 rfl
  have Wq:=sW1 (G:=G) (F:=runN T G (k+16)) pt
  simp only[Rw.told] at wr
  simp[-aB,q0,q3,row,J,C,K,wr,Wq,q5,Y,R,af]
  rfl
 | ask x =>
  have pt:=i9 (G:=G) L (k+15) st ho x (asked.getD st.asked 0) h
  have w0:aA (Rw.ask x).enc (.int 0)=some (.str "ask"):=rfl
  have J:=sJ0 (G:=G) (F:=runN T G (k+16)) w0 (by decide) (by decide)
  have C:=sC0 (G:=G) (F:=runN T G (k+16)) w0 (by decide)
  have K:=sK0 (G:=G) (F:=runN T G (k+16)) w0 (by decide)
  have Y:=sY0 (G:=G) (F:=runN T G (k+16)) w0 (by decide)
  have R:=rt { st with names:=st.names.set x.ix (asked.getD st.asked 0) } "ask" 1 w0 (by decide)
  have Wq:=sW1 (G:=G) (F:=runN T G (k+16)) pt
  simp only[Rw.told] at wr
  show _=some (W.p (D.tup [.int ((st.row+1:Nat):Int),.tup (ah (st.names.set x.ix (asked.getD st.asked 0))),.tup (ah st.cells),.tup (au st.calls),.int ((st.asked+1:Nat):Int),.tup (ah st.said)]),h)
  generalize asked.getD st.asked 0=av at *
  simp[-aB,q0,q3,row,J,C,K,wr,Wq,q5,Y,R,af]
 | say s =>
  have l3:(ah st.said).length+1<=100000:=by rw[bN];lia
  have w0:aA (Rw.say s).enc (.int 0)=some (.str "say"):=rfl
  have w1:aA (Rw.say s).enc (.int 1)=some s.enc:=rfl
  have J:=sJ0 (G:=G) (F:=runN T G (k+16)) w0 (by decide) (by decide)
  have C:=sC0 (G:=G) (F:=runN T G (k+16)) w0 (by decide)
  have K:=sK0 (G:=G) (F:=runN T G (k+16)) w0 (by decide)
  have R:=rt st "say" 0 w0 rfl
  simp only[Rw.told] at wr
  have wv:=wt s hr h
  have Y:∀ (sl:Sl),sl[2]?=some (some (.p st.enc))->sl[3]?=some (some (.p (Rw.say s).enc))->sl[7]?=some (some (.p (.tup (ah st.said))))->evS (runN T G (k+16)) G slY sl h=some (.nx (sl.set 7 (some (.p (.tup (ah (st.said++[s.val st])))))) h):=fun sl g2 g3 g7=>by
   simp[-aB,slY,g2,g3,g7,w0,w1,wv,l3,ints_snoc]
  simp[-aB,q0,q3,row,J,C,K,wr,sW0,q5,Y,R,af]
  rfl
 | jump q =>
  have w0:aA (Rw.jump q).enc (.int 0)=some (.str "jump"):=rfl
  have m1:aA (Rw.jump q).enc (.int (-1))=some (.int q):=rfl
  have J:∀ (sl:Sl),sl[3]?=some (some (.p (Rw.jump q).enc))->evS (runN T G (k+16)) G slJ sl h=some (.nx (sl.set 4 (some (.p (.int q)))) h):=fun sl g3=>by
   simp[-aB,slJ,g3,w0,m1]
  have C:=sC0 (G:=G) (F:=runN T G (k+16)) w0 (by decide)
  have K:=sK0 (G:=G) (F:=runN T G (k+16)) w0 (by decide)
  have Y:=sY0 (G:=G) (F:=runN T G (k+16)) w0 (by decide)
  have R:=rt st "jump" 0 w0 rfl
  simp only[Rw.told] at wr
  simp[-aB,q0,q3,row,J,C,K,wr,sW0,q5,Y,R,af]
  rfl
 | «unless» s q =>
  have w0:aA (Rw.unless s q).enc (.int 0)=some (.str "unless"):=rfl
  have w1:aA (Rw.unless s q).enc (.int 1)=some s.enc:=rfl
  have m1:aA (Rw.unless s q).enc (.int (-1))=some (.int q):=rfl
  have wv:=wt s hr.1 h
  have C:=sC0 (G:=G) (F:=runN T G (k+16)) w0 (by decide)
  have K:=sK0 (G:=G) (F:=runN T G (k+16)) w0 (by decide)
  have Y:=sY0 (G:=G) (F:=runN T G (k+16)) w0 (by decide)
  have R:=rt st "unless" 0 w0 rfl
  simp only[Rw.told] at wr
  by_cases z:s.val st=0
  ·have J:∀ (sl:Sl),sl[2]?=some (some (.p st.enc))->sl[3]?=some (some (.p (Rw.unless s q).enc))->evS (runN T G (k+16)) G slJ sl h=some (.nx (sl.set 4 (some (.p (.int q)))) h):=fun sl g2 g3=>by
    simp[-aB,slJ,g2,g3,w0,w1,m1,wv,z]
   simp[-aB,q0,q3,row,J,C,K,wr,sW0,q5,Y,R,af,Rw.next,z]
   rfl
  ·have J:∀ (sl:Sl),sl[2]?=some (some (.p st.enc))->sl[3]?=some (some (.p (Rw.unless s q).enc))->evS (runN T G (k+16)) G slJ sl h=some (.nx sl h):=fun sl g2 g3=>by
    simp[-aB,slJ,g2,g3,w0,w1,m1,wv,z]
   simp[-aB,q0,q3,row,J,C,K,wr,sW0,q5,Y,R,af,Rw.next,z]
   rfl
 | call q =>
  have l3:(au st.calls).length+1<=100000:=by simp[au];lia
  have e4:au st.calls++[.int ((st.row:Int)+1)]=au (st.calls++[st.row+1]):=by rw[← n9];simp
  have w0:aA (Rw.call q).enc (.int 0)=some (.str "call"):=rfl
  have w1:aA (Rw.call q).enc (.int 1)=some (.int q):=rfl
  have J:=sJ0 (G:=G) (F:=runN T G (k+16)) w0 (by decide) (by decide)
  have C:∀ (sl:Sl),sl.length=8->sl[3]?=some (some (.p (Rw.call q).enc))->sl[4]?=some (some (.p (.int ((st.row:Int)+1))))->sl[5]?=some (some (.p (.tup (au st.calls))))->evS (runN T G (k+16)) G slC sl h=some (.nx ((sl.set 5 (some (.p (.tup (au (st.calls++[st.row+1])))))).set 4 (some (.p (.int q)))) h):=fun sl ln g3 g4 g5=>by
   simp[-aB,slC,g3,g4,g5,w0,w1,l3,e4]
  have K:=sK0 (G:=G) (F:=runN T G (k+16)) w0 (by decide)
  have Y:=sY0 (G:=G) (F:=runN T G (k+16)) w0 (by decide)
  have R:=rt st "call" 0 w0 rfl
  simp only[Rw.told] at wr
  simp[-aB,q0,q3,row,J,C,K,wr,sW0,q5,Y,R,af]
  rfl
 | back =>
  have cn:st.calls≠[]:=by
   intro e;simp[Rw.over,e] at hb'
  obtain ⟨l,x,el⟩:∃ l x,st.calls=l++[x]:=⟨st.calls.dropLast,st.calls.getLast cn,(Ro cn).symm⟩
  have m1:=NB (au l) (.int x)
  have en:au st.calls=au l++[.int x]:=by rw[el];simp[au]
  rw[← en] at m1
  have e5:oM (.tup (au st.calls)) none (some (-1))=some (.tup (au st.calls.dropLast)):=by rw[oO,qR]
  have gl:st.calls.getLast?.getD 0=x:=by simp[el]
  have w0:aA Rw.back.enc (.int 0)=some (.str "back"):=rfl
  have J:=sJ0 (G:=G) (F:=runN T G (k+16)) w0 (by decide) (by decide)
  have C:=sC0 (G:=G) (F:=runN T G (k+16)) w0 (by decide)
  have K:∀ (sl:Sl),sl[3]?=some (some (.p Rw.back.enc))->sl[5]?=some (some (.p (.tup (au st.calls))))->evS (runN T G (k+16)) G slK sl h=some (.nx ((sl.set 4 (some (.p (.int x)))).set 5 (some (.p (.tup (au st.calls.dropLast))))) h):=fun sl g3 g5=>by
   simp[-aB,-oO,slK,g3,g5,w0,m1,e5]
  have Y:=sY0 (G:=G) (F:=runN T G (k+16)) w0 (by decide)
  have R:=rt st "back" 0 w0 rfl
  simp only[Rw.told] at wr
  simp[-aB,q0,q3,row,J,C,K,wr,sW0,q5,Y,R,af,Rw.next,gl]
  simp[St.enc]
 | stop=>simp[Rw.over] at hb'
theorem Az (L:LwS T) (k:Nat) (h:HH) (p:Pg) (hp:Pg.ok p) (hpl:p.length<=1000) (asked:List Int) (ha:Ask asked) (hal:asked.length<=1000) (many:Nat) (hm:many<=60):∀ (r f:Nat) (pre:List D) (st:St),pre.length+r=many->r<=f->At pre.length st->InP p st->st.asked<=pre.length →
 b9 (ev (runN T G (k+17)) G k2C) (evS (runN T G (k+17)) G k2B) (f+1) [some (.p (aW p)),some (.p (.lst (ah asked))),some (.p (.int many)),some (.r h.length)] (h++[.l (pre++[st.enc])]) =
  some (.nx [some (.p (aW p)),some (.p (.lst (ah asked))),some (.p (.int many)),some (.r h.length)] (h++[.l (pre++(sts p asked r st).map St.enc)])):=by
 intro r
 induction r with
 | zero =>
  intro f pre st hl hf a ip hk
  have c:¬ ((pre.length:Int)+1<=(many:Int)):=by lia
  simp[b9,k2C,rd,c,sts]
 | succ r ih =>
  intro f pre st hl hf a ip hk
  have c:(pre.length:Int)+1<=(many:Int):=by lia
  have e2:-((pre.length:Int)+1)<=-1:=by lia
  have e3:(-1+((pre.length:Int)+1)).toNat=pre.length:=by lia
  have o:=kO (G:=G) L (k+16) p hpl st ip
  cases hb:over p st with
  | true =>
   rw[hb] at o
   simp[b9,k2C,rd,c,sts,e2,e3,o,hb]
  | false =>
   rw[hb] at o
   have s:=pN (G:=G) L k p hp asked hal st a.ok (a.small (by lia)) (by lia) hb
   cases f with
   | zero=>lia
   | succ f =>
    have q:=ih f (pre++[st.enc]) (step p asked st) (by simp;lia) (by lia) (by simpa using uU hp ha a hb) (Ac hp ip hb) (by have:=sV p asked st;simp;lia)
    have hc:ev (runN T G (k+17)) G k2C [some (.p (aW p)),some (.p (.lst (ah asked))),some (.p (.int many)),some (.r h.length)] (h++[.l (pre++[st.enc])])=some (.p (.bl true),h++[.l (pre++[st.enc])]):=by
     simp[k2C,rd,c,e2,e3,o]
    have l:pre.length+1 < 100000:=by lia
    have hbd:evS (runN T G (k+17)) G k2B [some (.p (aW p)),some (.p (.lst (ah asked))),some (.p (.int many)),some (.r h.length)] (h++[.l (pre++[st.enc])]) =
     some (.nx [some (.p (aW p)),some (.p (.lst (ah asked))),some (.p (.int many)),some (.r h.length)] (h++[.l ((pre++[st.enc])++[(step p asked st).enc])])):=by
     simp[k2B,rd,e2,e3,s,l]
    rw[b9,hc,g9,lO,hbd,bU,q]
    simp[sts,hb]
theorem mS (L:LwS T) (k:Nat) (p:Pg) (hp:Pg.ok p) (hpl:p.length<=1000) (asked:List Int) (ha:Ask asked) (hal:asked.length<=1000) (many:Nat) (hm:many<=60) (h:HH) :
 runN T G (k+18) "_law_states" [.p (aW p),.p (.lst (ah asked)),.p (.int many)] h=some (.p (.lst ((sts p asked many St.zero).map St.enc)),h):=by
 rw[run_eq L.states rfl]
 have q:=Az (G:=G) L k h p hp hpl asked ha hal many hm many 99999 [] St.zero (by simp) (by lia) uT (Ab p) (OX _)
 simp only[Q5] at q
 have q':b9 (ev (runN T G (k+17)) G k2C) (evS (runN T G (k+17)) G k2B) 100000 [some (.p (aW p)),some (.p (.lst (ah asked))),some (.p (.int many)),some (.r h.length)] (h++[.l [St.zero.enc]]) =
  some (.nx [some (.p (aW p)),some (.p (.lst (ah asked))),some (.p (.int many)),some (.r h.length)] (h++[.l ((sts p asked many St.zero).map St.enc)])):=q
 have z:St.zero.enc=.tup [.int 0,.tup [.int 0,.int 0,.int 0,.int 0,.int 0,.int 0],.tup [.int 0,.int 0,.int 0,.int 0],.tup [],.int 0,.tup []]:=rfl
 rw[z] at q'
 simp[dO,turns,q',EG]
end
noncomputable def iF:Fn:=⟨["self","moment"],["self","moment"],(.ife (.not (.meth (.var 0 "self") "has" (.cons (.var 1 "moment") .nil))) (.rai "NoMoment" (.var 1 "moment")) .nil)⟩
noncomputable def ve:Fn:=⟨["self","moment"],["self","moment","state","step"],(.seq (.ex (.meth (.var 0 "self") "check" (.cons (.var 1 "moment") .nil))) .bad)⟩
structure TpX (TX:FK->Option Fn):Prop where
 check:TX (.m "Tape" "check")=some iF
 at_:TX (.m "Tape" "at")=some ve
def NoM (e:Nat) (z:Int):Prop:=z < 0\/(e:Int) < z
section
variable {T TX:FK->Option Fn}{G:Str->Option W}
theorem AB (P:TpP T G) (k:Nat) {t:Tp}{ev:Nat} (a:TAt h n r t) (I:TI t e ev) (z:Int) (hz:NoM e z) :
 kN (runN T G (k+9) (.m "Tape" "has") [.o n,.p (.int z)] h) (.p (.bl false)) n h r t e ev:=by
 by_cases c:0<=z/\z<=(t.most:Int)
 ·obtain ⟨m,rfl⟩:∃ m:Nat,z=(m:Int):=⟨z.toNat,by lia⟩
  obtain ⟨h',r',t',b,g,I',s,f⟩:=u5 P k a I m (by lia)
  refine ⟨h',r',t',?_,g,I',s⟩
  rw[b,decide_eq_false]
  rcases hz with hz|hz<;>lia
 ·refine ⟨h,r,t,?_,.refl a,I,⟨rfl,rfl,rfl,rfl⟩⟩
  rw[run_eq P.has rfl]
  have w:=gJ P (k+7) z
  have c1:z < 0\/(t.most:Int) < z:=by lia
  by_cases c2:z < 0
  ·simp[cS,w,c2,af]
  ·have c3:(t.most:Int) < z:=by lia
   simp[cS,w,c2,c3,a.ob,af]
theorem mT (P:TpP T G) (k:Nat) {t:Tp}{ev:Nat} (a:TAt h n r t) (I:TI t e ev) (z:Int) (hz:NoM e z):runN T G (k+10) (.m "Tape" "check") [.o n,.p (.int z)] h=none:=by
 obtain ⟨h',r',t',b,g,I',s⟩:=AB P k a I z hz
 rw[run_eq P.check rfl]
 simp[cB,a.ob,Al,b]
theorem pO (P:TpP T G) (X:TpX TX) (k:Nat) {t:Tp}{ev:Nat} (a:TAt h n r t) (I:TI t e ev) (z:Int) (hz:NoM e z) (hb:big z=true) :
 kN (dw T TX G (k+10) (.m "Tape" "check") [.o n,.p (.int z)] h) (O3 "NoMoment") n h r t e ev:=by
 obtain ⟨h',r',t',b,g,I',s⟩:=AB P k a I z hz
 refine ⟨h',r',t',?_,g,I',s⟩
 rw[gE X.check rfl]
 simp[iF,rsS,rsI,a.ob,Al,b,hb]
end
noncomputable def bX:Fn:=⟨["thing"],["thing"],
 (.ife (.and (.not (.call "is_name" (.cons (.var 0 "thing") .nil))) (.not (.call "is_cell" (.cons (.var 0 "thing") .nil)))) (.rai "NoThing" (.var 0 "thing")) .nil)⟩
noncomputable def bE:Fn:=⟨["tape","moment"],["tape","moment"],(.seq (.ex (.call "check_step" (.cons (.var 0 "tape") (.cons (.var 1 "moment") .nil)))) .bad)⟩
noncomputable def b8:Fn:=⟨["tape","moment","thing"],["tape","moment","thing","ahead","<writer_of>"],
 (.seq (.ex (.call "check_thing" (.cons (.var 2 "thing") .nil))) (.seq (.ex (.meth (.var 0 "tape") "check" (.cons (.var 1 "moment") .nil))) .bad))⟩
structure CtX (TX:FK->Option Fn):Prop where
 thing:TX "check_thing"=some bX
structure WrX (TX:FK->Option Fn):Prop where
 check_step:TX "check_step"=some aD
 thing_written:TX "thing_written"=some bE
 writer_of:TX "writer_of"=some b8
inductive NoT:D->Prop where
 | g:NoT (.str "g") | four:NoT (.int 4) | non:NoT .non | nul:NoT (.str "")
section
variable {T TX:FK->Option Fn}{G:Str->Option W}
theorem vf (P:Prg T G) (k:Nat)  (hd:NoT d) (h:HH):runN T G (k+1) "is_name" [.p d] h=some (.p (.bl false),h):=by
 rw[run_eq P.is_name rfl]
 cases hd<;>simp[dB,P.LETTERS,af]
theorem vg (P:TpP T G) (C:ThP T) (k:Nat)  (hd:NoT d) (h:HH):runN T G (k+2) "is_cell" [.p d] h=some (.p (.bl false),h):=by
 rw[run_eq C.is_cell rfl]
 have w:runN T G (k+1) "is_whole" [.p d] h=some (.p (.bl (isI d)),h):=by
  rw[run_eq P.is_whole rfl]
  cases hd<;>simp[dU,af]
 cases hd<;>simp[fz,w,P.prg.CELL_COUNT,af]
theorem AC (P:TpP T G) (C:ThP T) (k:Nat)  (hd:NoT d) (h:HH):runN T G (k+3) "check_thing" [.p d] h=none:=by
 rw[run_eq C.check rfl]
 have n:=vf P.prg (k+1) hd h
 have c:=vg P C k hd h
 simp[bC,n,c]
theorem DG (P:TpP T G) (C:ThP T) (Y:CtX TX) (k:Nat)  (hd:NoT d) (h:HH):dw T TX G (k+3) "check_thing" [.p d] h=some (O3 "NoThing",h):=by
 rw[gE Y.thing rfl]
 have n:=vf P.prg (k+1) hd h
 have c:=vg P C k hd h
 have r:nW d=true:=by cases hd<;>decide +kernel
 simp[bX,rsS,rsI,n,c,r]
theorem DH (P:TpP T G) (Wr:WrP T) (X:TpX TX) (Y:WrX TX) (k:Nat) {t:Tp}{ev:Nat} (a:TAt h n r t) (I:TI t e ev) (z:Int) (hz:NoM e z\/z=0) (hb:big z=true) :
 runN T G (k+11) "check_step" [.o n,.p (.int z)] h=none/\kN (dw T TX G (k+11) "check_step" [.o n,.p (.int z)] h) (O3 "NoMoment") n h r t e ev:=by
 by_cases q:NoM e z
 ·have c:=mT P k a I z q
  obtain ⟨h',r',t',b,g,I',s⟩:=pO P X k a I z q hb
  refine ⟨?_,h',r',t',?_,g,I',s⟩
  ·rw[run_eq Wr.check_step rfl]
   simp[aD,a.ob,cI,c]
  ·rw[gE Y.check_step rfl]
   simp[aD,rsS,rsE,rsM,a.ob,cI,c,b]
 ·have z0:z=0:=hz.resolve_left q
  subst z0
  obtain ⟨h1,r1,t1,b1,g1,I1,s1,f1⟩:=e9 P k a I 0 (Qs _)
  have q1:NoM e (-1):=.inl (by decide)
  have c:=mT P k g1.b I1 (-1) q1
  obtain ⟨h',r',t',b,g,I',s⟩:=pO P X k g1.b I1 (-1) q1 (by decide)
  have b1':runN T G (k+10) (.m "Tape" "check") [.o n,.p (.int 0)] h=some (.p .non,h1):=b1
  refine ⟨?_,h',r',t',?_,g1.trans g,I',s1.trans s⟩
  ·rw[run_eq Wr.check_step rfl]
   simp[aD,a.ob,g1.b.ob,cI,b1',c]
  ·rw[gE Y.check_step rfl]
   simp[aD,rsS,rsE,rsM,a.ob,g1.b.ob,cI,b1',c,b]
theorem sZ (P:TpP T G) (Wr:WrP T) (X:TpX TX) (Y:WrX TX) (k:Nat) {t:Tp}{ev:Nat} (a:TAt h n r t) (I:TI t e ev) (z:Int) (hz:NoM e z\/z=0) (hb:big z=true) :
 runN T G (k+12) "thing_written" [.o n,.p (.int z)] h=none/\kN (dw T TX G (k+12) "thing_written" [.o n,.p (.int z)] h) (O3 "NoMoment") n h r t e ev:=by
 obtain ⟨c,h',r',t',b,g,I',s⟩:=DH P Wr X Y k a I z hz hb
 refine ⟨?_,h',r',t',?_,g,I',s⟩
 ·rw[run_eq Wr.thing_written rfl]
  simp[bD,c]
 ·rw[gE Y.thing_written rfl]
  simp[bE,rsS,rsE,rsC,c,b]
theorem wZ (P:TpP T G) (C:ThP T) (Wr:WrP T) (X:TpX TX) (Y:WrX TX) (k:Nat) {t:Tp}{ev:Nat} (a:TAt h n r t) (I:TI t e ev) (z:Int) (hz:NoM e z) (hb:big z=true) (th:Th) :
 runN T G (k+11) "writer_of" [.o n,.p (.int z),.p th.enc] h=none/\kN (dw T TX G (k+11) "writer_of" [.o n,.p (.int z),.p th.enc] h) (O3 "NoMoment") n h r t e ev:=by
 have b0:=gO P C (k+7) th h
 have c:=mT P k a I z hz
 obtain ⟨h',r',t',b,g,I',s⟩:=pO P X k a I z hz hb
 refine ⟨?_,h',r',t',?_,g,I',s⟩
 ·rw[run_eq Wr.writer_of rfl]
  simp[aP,b0,a.ob,cI,c]
 ·rw[gE Y.writer_of rfl]
  simp[b8,rsS,rsE,rsC,rsM,b0,a.ob,cI,c,b]
theorem w5 (P:TpP T G) (C:ThP T) (Wr:WrP T) (U:CtX TX) (Y:WrX TX) (k:Nat) (w z:W)  (hd:NoT d) (h:HH) :
 runN T G (k+4) "writer_of" [w,z,.p d] h=none/\dw T TX G (k+4) "writer_of" [w,z,.p d] h=some (O3 "NoThing",h):=by
 have c:=AC P C k hd h
 have b:=DG P C U k hd h
 refine ⟨?_,?_⟩
 ·rw[run_eq Wr.writer_of rfl]
  simp[aP,c]
 ·rw[gE Y.writer_of rfl]
  simp[b8,rsS,rsE,rsC,c,b]
end
noncomputable def aU:Fn:=⟨["_law_e"],["_law_e","_law_flags"],
 (.seq (.set 1 "_law_flags" (.lst false (.cons (.isx "NoMoment" (.var 0 "_law_e")) (.cons (.isx "NoRun" (.var 0 "_law_e")) (.cons (.isx "NoThing" (.var 0 "_law_e")) .nil)))))
 (.seq (.set 1 "_law_flags" (.bin .add (.var 1 "_law_flags") (.lst false (.cons (.isx "NoText" (.var 0 "_law_e")) .nil))))
 (.seq (.ife (.or (.cmp .ne (.me .count (.var 1 "_law_flags") (.cons (.cst (.bl true)) .nil)) (.cst (.int 1))) (.not (.isx "ValueError" (.var 0 "_law_e")))) (.ret (.tup (.cons (.cst (.str "refused")) (.cons (.neg (.cst (.int 1))) .nil)))) .nil)
 (.ret (.tup (.cons (.cst (.str "refused")) (.cons (.me .lindex (.var 1 "_law_flags") (.cons (.cst (.bl true)) .nil)) .nil)))))))⟩
theorem oi (h:HH):BS.pB aU [.x "NoMoment"] h=some (.p (.tup [.str "refused",.int 0]),h):=by
 unfold BS.pB BS.j6
 simp[aU,kI,af,rV,rW,fj]
section
variable {T TX:FK->Option Fn}{G:Str->Option W}
noncomputable def due (pg:Pg) (asked:List Int) (e:Nat):D:=.lst (((Pu (e+1)).map (itr pg asked)).map St.enc)
theorem DI (pg:Pg) (asked:List Int) (e:Nat):biD .len [due pg asked e]=some (.int ((e:Int)+1)):=by simp[due]
theorem Hu (pg:Pg) (asked:List Int) (e i:Nat) (h:i<=e):aA (due pg asked e) (.int (i:Int))=some (itr pg asked i).enc:=by
 rw[due,bq,cW,Pb,Pb,QY (by lia)];rfl
variable {F:FK->List W->HH->Option (W×HH)}
theorem AD:dX .ne (.tup [.str "refused",.int 0]) (.tup [.str "refused",.int 0])=some false:=by
 rw[dG,if_pos (fX (by simp))];simp
end
section
variable {T TX:FK->Option Fn}{G:Str->Option W}
end
theorem Hv {a b:Nat}{o o':Option Nat} (x:FL g a b o) (y:FL g a b o'):o=o':=by
 cases o with
 | none =>
  cases o' with
  | none=>rfl
  | some j=>obtain ⟨h1,h2,h3,_⟩:=y.yes j rfl;rw[x.no rfl j h1 h2] at h3;cases h3
 | some i =>
  obtain ⟨h1,h2,h3,h4⟩:=x.yes i rfl
  cases o' with
  | none=>rw[y.no rfl i h1 h2] at h3;cases h3
  | some j =>
   obtain ⟨k1,k2,k3,k4⟩:=y.yes j rfl
   rcases Nat.lt_trichotomy i j with z|z|z
   ·rw[h4 j z k2] at k3;cases k3
   ·rw[z]
   ·rw[k4 i z h2] at h3;cases h3
theorem AE (g:Nat->Bool) (m:Nat):mom g (m+1)=mom g m++(if g (m+1)=true then [m+1] else []):=by
 unfold mom
 rw[List.range_succ,SO]
 congr 1
 rw[RX]
 rfl
theorem AF (g:Nat->Bool):∀ m,FL g 0 m (mom g m).getLast?
 | 0=>by
  cases c:g 0 with
  | true =>
   have e:mom g 0=[0]:=by unfold mom;simp[c]
   rw[e]
   exact ⟨fun j h=>by cases h;exact ⟨OX _,OX _,c,fun i h1 h2=>by lia⟩,fun h=>nomatch h⟩
  | false =>
   have e:mom g 0=[]:=by unfold mom;simp[c]
   rw[e]
   exact ⟨(fun j h=>nomatch h),fun _ i h1 h2=>by rw[show i=0 by lia];exact c⟩
 | m+1=>by
  have ih:=AF g m
  rw[AE]
  cases c:g (m+1) with
  | true =>
   have e:(mom g m++(if true=true then [m+1] else [])).getLast?=some (m+1):=by simp
   rw[e]
   exact ⟨fun j h=>by cases h;exact ⟨Qs _,OX _,c,fun i h1 h2=>by lia⟩,fun h=>nomatch h⟩
  | false =>
   rw[if_neg Qc,Pr]
   refine ⟨fun j h=>?_,fun h i h1 h2=>?_⟩
   ·obtain ⟨h1,h2,h3,h4⟩:=ih.yes j h
    refine ⟨h1,by lia,h3,fun i k1 k2=>?_⟩
    by_cases q:i=m+1
    ·rw[q];exact c
    ·exact h4 i k1 (by lia)
   ·by_cases q:i=m+1
    ·rw[q];exact c
    ·exact ih.no h i h1 (by lia)
theorem DJ (l:List Nat):aA (.lst (.non :: au l)) (.int (-1))=some (dF l.getLast?):=by
 have key:∀ (xs:List D) (a:D),aA (.lst (xs++[a])) (.int (-1))=some a:=fun xs a=>by
  have e2:-((xs.length:Int)+1)<=-1:=by lia
  have e3:(-1+((xs.length:Int)+1)).toNat=xs.length:=by lia
  simp[e2,e3]
 rcases List.eq_nil_or_concat l with rfl|⟨r,j,rfl⟩
 ·exact key [] .non
 ·have:=key (.non :: au r) (.int (j:Int))
  have e:D.non :: au (r++[j])=(D.non :: au r)++[.int (j:Int)]:=by simp[au]
  rw[List.concat_eq_append,e,this]
  simp
noncomputable def xz (pg:Pg) (asked:List Int) (e:Nat):D:=.lst (each (fun i=>(itr pg asked i).enc) e)
theorem mU (pg:Pg) (asked:List Int) (e:Nat):due pg asked e=xz pg asked e:=by
 unfold due xz each
 rw[QG];rfl
section
variable {T TX:FK->Option Fn}{G:Str->Option W}{F:FK->List W->HH->Option (W×HH)}
theorem tnx (s:Sl) (h:HH) (k:Sl->HH->Option Fl):ku (some (.nx s h)) k=k s h:=Eq.trans rfl rfl
theorem DK (o:Option Nat):dX .ne (dF o) (dF o)=some false:=by
 cases o with
 | none=>rw[Ar,dG,if_pos (fX (by simp))];simp
 | some j=>simp
end
noncomputable def aS:Fn:=⟨["_law_way","_law_tape","_law_moment","_law_thing_here"],["_law_way","_law_tape","_law_moment","_law_thing_here","_law_e"],
 (.seq (.ife (.cmp .eq (.var 0 "_law_way") (.cst (.int 0))) (.ret (.call "thing_written" (.cons (.var 1 "_law_tape") (.cons (.var 2 "_law_moment") .nil)))) .nil)
 (.ret (.call "writer_of" (.cons (.var 1 "_law_tape") (.cons (.var 2 "_law_moment") (.cons (.var 3 "_law_thing_here") .nil))))))⟩
noncomputable def Hw:E:=(.comp false .seq (.cons (.var 7 "_law_writers") .nil) ["_law_at"] [(11,"_law_moment")] (.cons (.cmp .le (.var 0 "_law_at") (.var 1 "_law_moment")) .nil) (.var 0 "_law_at"))
noncomputable def Hx:E:=(.comp false .seq (.cons (.tup (.cons (.cst (.str "g")) (.cons (.cst (.int 4)) (.cons (.cst .non) (.cons (.cst (.str "")) .nil))))) .nil) ["_law_bad"] [(5,"_law_tape")] (.cons (.cmp .ne (.call "_law_told" (.cons (.cst (.int 1)) (.cons (.var 1 "_law_tape") (.cons (.cst (.int 0)) (.cons (.var 0 "_law_bad") .nil))))) (.tup (.cons (.cst (.str "refused")) (.cons (.cst (.int 2)) .nil)))) .nil) (.var 0 "_law_bad"))
noncomputable def Hy:E:=(.ite (.cmp .isN (.var 9 "_law_told_here") (.cst .non)) (.cst .non) (.idx (.var 9 "_law_told_here") (.cst (.int 0))))
noncomputable def tw:S:=(.seq (.set 9 "_law_told_here" (.call "_law_write" (.cons (.var 1 "_law_program_here") (.cons (.var 2 "_law_asked_here") (.cons (.idx (.var 4 "_law_row_here") (.bin .sub (.var 8 "_law_at") (.cst (.int 1)))) .nil)))))
 (.seq (.set 10 "_law_due" Hy)
 (.seq (.ife (.cmp .ne (.call "_law_told" (.cons (.cst (.int 0)) (.cons (.var 5 "_law_tape") (.cons (.var 8 "_law_at") (.cons (.cst (.int 0)) .nil))))) (.var 10 "_law_due")) (.ret (.cst (.bl false))) .nil)
 (.ife (.and (.cmp .eq (.var 10 "_law_due") (.var 6 "_law_thing_here")) (.cmp .eq (.bi .isStr false (.cons (.var 10 "_law_due") .nil)) (.bi .isStr false (.cons (.var 6 "_law_thing_here") .nil)))) (.ex (.me .append (.var 7 "_law_writers") (.cons (.var 8 "_law_at") .nil))) .nil))))
noncomputable def mV:S:=(.seq (.set 10 "_law_due" (.idx (.bin .add (.lst false (.cons (.cst .non) .nil)) Hw) (.neg (.cst (.int 1)))))
 (.ife (.cmp .ne (.call "_law_told" (.cons (.cst (.int 1)) (.cons (.var 5 "_law_tape") (.cons (.var 11 "_law_moment") (.cons (.var 6 "_law_thing_here") .nil))))) (.var 10 "_law_due")) (.ret (.cst (.bl false))) .nil))
noncomputable def mW:S:=(.ife (.or (.cmp .ne (.call "_law_told" (.cons (.cst (.int 0)) (.cons (.var 5 "_law_tape") (.cons (.var 12 "_law_bad") (.cons (.cst (.int 0)) .nil))))) (.tup (.cons (.cst (.str "refused")) (.cons (.cst (.int 0)) .nil)))) (.cmp .ne (.call "_law_told" (.cons (.cst (.int 1)) (.cons (.var 5 "_law_tape") (.cons (.var 12 "_law_bad") (.cons (.var 6 "_law_thing_here") .nil))))) (.tup (.cons (.cst (.str "refused")) (.cons (.cst (.int 0)) .nil))))) (.ret (.cst (.bl false))) .nil)
noncomputable def Hz:S:=(.seq (.ife (.cmp .ne (.call "_law_told" (.cons (.cst (.int 0)) (.cons (.var 5 "_law_tape") (.cons (.cst (.int 0)) (.cons (.cst (.int 0)) .nil))))) (.tup (.cons (.cst (.str "refused")) (.cons (.cst (.int 0)) .nil)))) (.ret (.cst (.bl false))) .nil)
 (.ret (.cmp .eq Hx (.lst false .nil))))
noncomputable def KA:S:=(.seq (.for [(12,"_law_bad")] .seq (.cons (.tup (.cons (.neg (.cst (.int 1))) (.cons (.bi .len false (.cons (.var 4 "_law_row_here") .nil)) (.cons (.bin .add (.var 3 "_law_most") (.cst (.int 1))) .nil)))) .nil) mW)
 Hz)
noncomputable def KB:S:=(.seq (.for [(11,"_law_moment")] .rng1 (.cons (.bi .len false (.cons (.var 4 "_law_row_here") .nil)) .nil) mV)
 KA)
noncomputable def HA:S:=(.seq (.for [(8,"_law_at")] .rng2 (.cons (.cst (.int 1)) (.cons (.bi .len false (.cons (.var 4 "_law_row_here") .nil)) .nil)) tw)
 KB)
noncomputable def fB:Fn:=⟨["_law_script"],["_law_script","_law_program_here","_law_asked_here","_law_most","_law_row_here","_law_tape","_law_thing_here","_law_writers","_law_at","_law_told_here","_law_due","_law_moment","_law_bad"],
 (.seq (.set 1 "_law_program_here" (.call "_law_program" (.cons (.var 0 "_law_script") (.cons (.cst (.int 20)) .nil))))
 (.seq (.set 2 "_law_asked_here" (.call "_law_asked" (.cons (.var 0 "_law_script") (.cons (.cst (.int 450)) .nil))))
 (.seq (.set 3 "_law_most" (.call "_law_drawn" (.cons (.var 0 "_law_script") (.cons (.cst (.int 440)) (.cons (.cst (.int 15)) .nil)))))
 (.seq (.set 4 "_law_row_here" (.call "_law_states" (.cons (.var 1 "_law_program_here") (.cons (.var 2 "_law_asked_here") (.cons (.var 3 "_law_most") .nil)))))
 (.seq (.set 5 "_law_tape" (.make "Tape" (.cons (.var 1 "_law_program_here") (.cons (.var 2 "_law_asked_here") (.cons (.cst (.int 2)) (.cons (.var 3 "_law_most") .nil))))))
 (.seq (.set 6 "_law_thing_here" (.call "_law_thing" (.cons (.var 0 "_law_script") (.cons (.cst (.int 442)) .nil))))
 (.seq (.set 7 "_law_writers" (.lst true .nil))
 HA)))))))⟩
theorem Go.lst {n:Nat}{h h':HH}{r r' q:Nat}{t t':Tp}{ds:List D} (x:Go n h r t h' r' t') (l:lat h q=some ds) (hr:q≠r):lat h' q=some ds/\q≠r':=by
 have qn:q≠n:=(u0 x.a.ob l).symm
 refine ⟨(Hg (x.fr q qn hr (mP l))).trans l,?_⟩
 rcases x.len with ⟨a1,a2⟩|a1
 ·rw[a2];exact hr
 ·have:=mP l;lia
theorem TAt.put {t:Tp} (a:TAt h n r t) {ds:List D} (l:lat h q=some ds) (hr:q≠r) (c:Cl):TAt (h.set q c) n r t :=
 ⟨(mQ (u0 a.ob l) c).trans a.ob,(jm hr.symm c).trans a.li⟩
theorem oj (p:Pg) (asked:List Int):∀ i,(itr p asked i).asked<=i
 | 0=>OX _
 | i+1=>by
  have ih:=oj p asked i
  show (step p asked (itr p asked i)).asked<=i+1
  unfold step
  cases p[(itr p asked i).row]? with
  | none=>show (itr p asked i).asked<=i+1;lia
  | some r=>cases r<;>simp only[Rw.next]<;>lia
theorem KC (asked:List Int) (st:St) (r:Rw):(r.told asked st=.non/\wb st r=none)\/∃ th v,wb st r=some th/\r.told asked st=.tup [th.enc,v]:=by
 cases r with
 | set x s=>exact .inr ⟨_,_,rfl,rfl⟩
 | ask x=>exact .inr ⟨_,_,rfl,rfl⟩
 | put s u =>
  have e:((s.val st % 4).toNat:Int)=s.val st % 4:=by lia
  exact .inr ⟨_,.int (u.val st),rfl,by rw[Th.enc,e];rfl⟩
 | _=>exact .inl ⟨rfl,rfl⟩
theorem KG (n:Nat) (o:Option Th):dok n (cZ o)=true:=by
 cases o with
 | none=>exact BN n
 | some th=>cases th with
  | nm x=>exact BP n _
  | cl i h=>exact BO n _
theorem DL (o:Option Th):dX .ne (cZ o) (cZ o)=some false:=ne_self (KG 100 o)
theorem DM:dX .ne (.tup [.str "refused",.int 2]) (.tup [.str "refused",.int 2])=some false:=ne_self (by decide)
theorem HB {o:Option Th}{th:Th} (h:eqv (cZ o) th.enc=true):isS (cZ o)=isS th.enc:=by rw[(Kw o th).mp h];rfl
noncomputable def wl (g:Nat->Bool) (q:Nat):List Nat:=((Pu q).filter g).map (·+1)
theorem vh (g:Nat->Bool) (q:Nat):wl g (q+1)=wl g q++(if g q=true then [q+1] else []):=by
 unfold wl
 rw[List.range_succ,SO,QH]
 congr 1
 rw[RX]
 split<;>rfl
theorem tE (g:Nat->Bool) (q:Nat):(wl g q).length<=q:=by
 unfold wl
 rw[Pq]
 exact PL (List.length_filter_le _ _) (by simp)
theorem HC  (h:i∈wl g q):i<=q:=by
 unfold wl at h
 obtain ⟨j,hj,rfl⟩:=List.mem_map.mp h
 have:=List.mem_range.mp (List.mem_filter.mp hj).1
 lia
theorem vj (g:Nat->Bool) {m:Nat}:∀ d,(wl g (m+d)).filter (fun i=>decide (i<=m))=wl g m
 | 0=>List.filter_eq_self.mpr fun i hi=>by have:=HC hi;simp;lia
 | d+1=>by
  rw[show m+(d+1)=(m+d)+1 by lia,vh,SO,vj g d]
  have:(if g (m+d)=true then [m+d+1] else []).filter (fun i=>decide (i<=m))=[]:=by
   split
   ·rw[RX,if_neg (by simp;lia)];rfl
   ·rfl
  rw[this,Pr]
theorem DN (g:Nat->Bool) (m:Nat) (o:Option Nat) (h0:m=0->o=none) (h1:0 < m->FL g 0 (m - 1) o):dF (wl g m).getLast?=DC o:=by
 cases m with
 | zero=>rw[h0 rfl];rfl
 | succ m =>
  rw[Hv (h1 (Nat.succ_pos _)) (AF g m)]
  show dF (List.map (·+1) (mom g m)).getLast?=_
  rw[List.getLast?_map]
  cases (mom g m).getLast? with
  | none=>rfl
  | some j=>show D.int ((j+1:Nat):Int)=.int ((j:Int)+1);congr 1
section
variable {T TX:FK->Option Fn}{G:Str->Option W}{F:FK->List W->HH->Option (W×HH)}
structure jP (T TX:FK->Option Fn) (G:Str->Option W):Prop where
 lw:Lw T
 program:T "_law_program"=some aY
 own:LwS T
 thing:T "_law_thing"=some c5
 th:ThP T
 wr:WrP T
 l:TpB T
 x:TpX TX
 u:CtX TX
 y:WrX TX
noncomputable def c6 (T TX:FK->Option Fn) (G:Str->Option W) (k:Nat):List W->HH->Option (W×HH):=BS.iY (runN T G k) (dw T TX G k) (dk T) G aS aU
theorem w6 (h:HH):BS.pB aU [.x "NoThing"] h=some (.p (.tup [.str "refused",.int 2]),h):=by
 unfold BS.pB BS.j6
 simp[aU,kI,af,rV,rW,fj]
theorem AG (P:TpP T G) (L:jP T TX G) (k:Nat) {t:Tp}{ev:Nat} (a:TAt h n r t) (I:TI t e ev) (m:Nat) (h1:1<=m) (hm:m<=e) (d:D) :
 kN (c6 T TX G (k+13) [.p (.int 0),.o n,.p (.int (m:Int)),.p d] h) (.p (cZ (wn t (m - 1)))) n h r t e ev:=by
 obtain ⟨h',r',t',b,g,I',s⟩:=jO P L.wr (k+1) a I m h1 hm
 refine ⟨h',r',t',?_,g,I',s⟩
 have fg:=fun w=>dD g w
 unfold c6 BS.iY
 simp[aS,b,fg]
theorem AH (P:TpP T G) (L:jP T TX G) (k:Nat) {t:Tp}{ev:Nat} (a:TAt h n r t) (I:TI t e ev) (m:Nat) (hm:m<=e) (th:Th) :
 kN (c6 T TX G (k+13) [.p (.int 1),.o n,.p (.int (m:Int)),.p th.enc] h) (.p (dF (wl (gw t th) m).getLast?)) n h r t e ev:=by
 obtain ⟨o,h',r',t',b,o1,o2,g,I',s⟩:=sY P L.l L.th L.wr k a I th m hm
 refine ⟨h',r',t',?_,g,I',s⟩
 have fg:=fun w=>dD g w
 rw[DN _ _ _ o1 o2]
 unfold c6 BS.iY
 simp[-Hr,aS,b,fg]
theorem om (P:TpP T G) (L:jP T TX G) (k:Nat) {t:Tp}{ev:Nat} (a:TAt h n r t) (I:TI t e ev) (z:Int) (hz:NoM e z\/z=0) (hb:big z=true) (d:D) :
 kN (c6 T TX G (k+13) [.p (.int 0),.o n,.p (.int z),.p d] h) (.p (.tup [.str "refused",.int 0])) n h r t e ev:=by
 have hx:BS.fm (O3 "NoMoment")=true:=by decide
 obtain ⟨c,h',r',t',b,g,I',s⟩:=sZ P L.wr L.x L.y (k+1) a I z hz hb
 refine ⟨h',r',t',?_,g,I',s⟩
 have rf:=oi h'
 unfold c6 BS.iY
 simp[aS,c,b,rsS,rsI,rsE,rsC,hx,rf]
theorem w9 (P:TpP T G) (L:jP T TX G) (k:Nat) {t:Tp}{ev:Nat} (a:TAt h n r t) (I:TI t e ev) (z:Int) (hz:NoM e z) (hb:big z=true) (th:Th) :
 kN (c6 T TX G (k+13) [.p (.int 1),.o n,.p (.int z),.p th.enc] h) (.p (.tup [.str "refused",.int 0])) n h r t e ev:=by
 have hx:BS.fm (O3 "NoMoment")=true:=by decide
 obtain ⟨c,h',r',t',b,g,I',s⟩:=wZ P L.th L.wr L.x L.y (k+2) a I z hz hb th
 refine ⟨h',r',t',?_,g,I',s⟩
 have rf:=oi h'
 unfold c6 BS.iY
 simp[aS,c,b,rsS,rsI,rsE,rsC,hx,rf]
theorem AI (P:TpP T G) (L:jP T TX G) (k:Nat) (w z:W)  (hd:NoT d) (h:HH) :
 c6 T TX G (k+13) [.p (.int 1),w,z,.p d] h=some (.p (.tup [.str "refused",.int 2]),h):=by
 have hx:BS.fm (O3 "NoThing")=true:=by decide
 obtain ⟨c,b⟩:=w5 (h:=h) P L.th L.wr L.u L.y (k+9) w z hd
 have rf:=w6 h
 unfold c6 BS.iY
 simp[aS,c,b,rsS,rsI,rsE,rsC,hx,rf]
structure F50 (T TX:FK->Option Fn) (G:Str->Option W) (k:Nat) (F:FK->List W->HH->Option (W×HH)):Prop where
 me:∀ c m,F (.m c m)=runN T G (k+18) (.m c m)
 fn:∀ y:Str,¬ y="_law_told"->F (.f y)=runN T G (k+18) (.f y)
 told:F (.f "_law_told")=c6 T TX G (k+17)
noncomputable def bQ (w0:W) (pg:Pg) (asked:List Int) (mo e n:Nat) (th:Th) (q:Nat) (x8 x9 x10 x11 x12:Option W):Sl :=
 [some w0,some (.p (aW pg)),some (.p (.lst (ah asked))),some (.p (.int (mo:Int))),some (.p (xz pg asked e)),some (.o n),some (.p th.enc),some (.r q),x8,x9,x10,x11,x12]
structure Wl (h:HH) (n r q:Nat) (t:Tp) (e gv:Nat) (pg:Pg) (asked:List Int) (mo:Nat) (l:List Nat):Prop where
 a:TAt h n r t
 i:TI t e gv
 l:lat h q=some (au l)
 r:q≠r
 p:t.p=pg
 k:t.asked=asked
 m:t.most=mo
theorem Wl.go {t:Tp}{pg:Pg}{r':Nat}{t':Tp} (A:Wl h n r q t e gv pg asked mo l) (g:Go n h r t h' r' t') (I:TI t' e gv) (s:Sm8 t t'):Wl h' n r' q t' e gv pg asked mo l:=by
 obtain ⟨b,c⟩:=g.lst A.l A.r
 exact ⟨g.b,I,b,c,s.p.trans A.p,s.asked.trans A.k,s.most.trans A.m⟩
inductive Wx (x:Option Fl) (f:HH->Fl) (n q e gv:Nat) (pg:Pg) (asked:List Int) (mo:Nat) (l:List Nat):Prop where
 | mk (h':HH) (r':Nat) (t':Tp) (b:x=some (f h')) (a:Wl h' n r' q t' e gv pg asked mo l):Wx x f n q e gv pg asked mo l
noncomputable def gW (pg:Pg) (asked:List Int) (th:Th) (i:Nat):Bool:=eqv (cZ ((pg[(itr pg asked i).row]?).bind (wb (itr pg asked i)))) th.enc
theorem EK {t:Tp}{pg:Pg} (A:Wl h n r q t e gv pg asked mo l) (th:Th):gw t th=gW pg asked th:=by
 funext i;unfold gw gW wn;rw[A.p,A.k]
theorem AJ (P:TpP T G) (L:jP T TX G)  (Y:F50 T TX G k F) (w0:W) {pg:Pg} (th:Th) (hal:asked.length<=1000) (x9 x10 x11 x12:Option W) {t:Tp} (lo:Nat) (hlo:lo < e) (he:e<=100) (A:Wl h n r q t e gv pg asked mo (wl (gW pg asked th) lo)) :
 ∃ y9 y10,Wx (evS F G tw (bQ w0 pg asked mo e n th q (some (.p (.int ((lo+1:Nat):Int)))) x9 x10 x11 x12) h) (.nx (bQ w0 pg asked mo e n th q (some (.p (.int ((lo+1:Nat):Int)))) y9 y10 x11 x12)) n q e gv pg asked mo (wl (gW pg asked th) (lo+1)):=by
 obtain ⟨rw0,hr0⟩:=sW A.i.run hlo
 have at_:=jl A.i.ok A.i.ask A.i.run lo (by lia)
 have rok:=A.i.ok _ (O5 hr0)
 have ew:wn t lo=wb (itr t.p t.asked lo) rw0:=by unfold wn;rw[hr0];rfl
 have hg:=EK A th
 obtain ⟨h1,r1,t1,b1,g1,I1,s1⟩:=AG P L (k+4) A.a A.i (lo+1) (by lia) (by lia) (.int 0)
 have A1:=A.go g1 I1 s1
 rw[Nat.add_sub_cancel] at b1
 have gi:gW pg asked th lo=eqv (cZ (wn t lo)) th.enc:=by rw[← hg];rfl
 rw[A.p,A.k] at hr0 ew
 rw[A.p] at rok
 rw[A.p,A.k] at at_
 have wr:F "_law_write" [.p (aW pg),.p (.lst (ah asked)),.p (itr pg asked lo).enc] h=some (.p (rw0.told asked (itr pg asked lo)),h):=by
  rw[Y.fn _ (by decide)];exact i8 (G:=G) L.own (k+2) pg asked hal _ at_.ok (by have:=oj pg asked lo;lia) rw0 rok hr0 h
 have ix:aA (xz pg asked e) (.int (lo:Int))=some (itr pg asked lo).enc:=by rw[← mU];exact Hu pg asked e lo (by lia)
 have em:((lo+1:Nat):Int) - 1=(lo:Int):=by lia
 have n1:=DL (wn t lo)
 have eo:=vd (wn t lo) th
 have l1:=A1.l
 have wll:=tE (gW pg asked th) lo
 have ln:(au (wl (gW pg asked th) lo)).length < 100000:=by unfold au;rw[Pq];lia
 have du:∀ (s:Sl),s[9]?=some (some (.p (rw0.told asked (itr pg asked lo))))->BT.ev F G Hy s h=some (.p (cZ (wn t lo)),h):=fun s q9=>by
  rw[Hy]
  rcases KC asked (itr pg asked lo) rw0 with ⟨z1,z2⟩|⟨y,v,z1,z2⟩
  ·rw[z1] at q9;rw[ew,z2];simp[q9,cZ]
  ·rw[z2] at q9;rw[ew,z1];simp[q9,cZ]
 refine ⟨some (.p (rw0.told asked (itr pg asked lo))),some (.p (cZ (wn t lo))),?_⟩
 have du':=du (bQ w0 pg asked mo e n th q (some (.p (.int ((lo+1:Nat):Int)))) (some (.p (rw0.told asked (itr pg asked lo)))) x10 x11 x12) rfl
 rw[vh,gi]
 rw[tw]
 unfold bQ at du' ⊢
 cases c:eqv (cZ (wn t lo)) th.enc with
 | false =>
  refine ⟨h1,r1,t1,?_,?_⟩
  ·generalize ((lo+1:Nat):Int)=z at *
   generalize xz pg asked e=RR at *
   generalize aW pg=PP at *
   generalize rw0.told asked (itr pg asked lo)=TT at *
   generalize (itr pg asked lo).enc=AA at *
   generalize cZ (wn t lo)=EE at *
   simp[-jx,tnx,-dG,-bq,em,ix,wr,du',Y.told,b1,n1,eo,c]
  ·rw[if_neg (by simp),Pr];exact A1
 | true =>
  have iS:=HB c
  refine ⟨h1.set q (.l (au (wl (gW pg asked th) lo)++[.int ((lo+1:Nat):Int)])),r1,t1,?_,?_⟩
  ·generalize ((lo+1:Nat):Int)=z at *
   generalize xz pg asked e=RR at *
   generalize aW pg=PP at *
   generalize rw0.told asked (itr pg asked lo)=TT at *
   generalize (itr pg asked lo).enc=AA at *
   generalize cZ (wn t lo)=EE at *
   generalize au (wl (gW pg asked th) lo)=LL at *
   simp[-jx,tnx,-dG,-bq,em,ix,wr,du',Y.told,b1,n1,eo,c,iS,l1,ln]
  ·refine ⟨A1.a.put A1.l A1.r _,A1.i,?_,A1.r,A1.p,A1.k,A1.m⟩
   rw[if_pos rfl,qX (mP A1.l)]
   show some _=_
   unfold au
   rw[QH];rfl
theorem rm (P:TpP T G) (L:jP T TX G) {k:Nat} (Y:F50 T TX G k F) (w0:W) {pg:Pg}{asked:List Int}{mo e n q gv:Nat} (th:Th) (hal:asked.length<=1000) (he:e<=100) (x11 x12:Option W):∀ (d lo:Nat) (x8 x9 x10:Option W) (h:HH) (r:Nat) (t:Tp),lo+d=e->Wl h n r q t e gv pg asked mo (wl (gW pg asked th) lo) →
 ∃ y8 y9 y10,Wx (bM (evS F G tw) [(8,"_law_at")] (upto ((lo+1:Nat):Int) d) (bQ w0 pg asked mo e n th q x8 x9 x10 x11 x12) h) (.nx (bQ w0 pg asked mo e n th q y8 y9 y10 x11 x12)) n q e gv pg asked mo (wl (gW pg asked th) e)
 | 0,lo,x8,x9,x10,h,r,t,hq,A=>⟨x8,x9,x10,h,r,t,rfl,by subst hq;exact A⟩
 | d+1,lo,x8,x9,x10,h,r,t,hq,A=>by
  obtain ⟨y9,y10,h1,r1,t1,b1,A1⟩:=AJ P L Y w0 th hal x9 x10 x11 x12 lo (by lia) he A
  obtain ⟨z8,z9,z10,h2,r2,t2,b2,A2⟩:=rm P L Y w0 th hal he x11 x12 d (lo+1) (some (.p (.int ((lo+1:Nat):Int)))) y9 y10 h1 r1 t1 (by lia) A1
  refine ⟨z8,z9,z10,h2,r2,t2,?_,A2⟩
  have e1:(((lo+1:Nat):Int)+1)=((lo+1+1:Nat):Int):=by lia
  rw[gK,e1]
  have st:bM (evS F G tw) [(8,"_law_at")] (.int ((lo+1:Nat):Int) :: upto ((lo+1+1:Nat):Int) d) (bQ w0 pg asked mo e n th q x8 x9 x10 x11 x12) h =
   gj (evS F G tw (bQ w0 pg asked mo e n th q (some (.p (.int ((lo+1:Nat):Int)))) x9 x10 x11 x12) h) (bM (evS F G tw) [(8,"_law_at")] (upto ((lo+1+1:Nat):Int) d)):=rfl
  rw[st,b1,bU,b2]
theorem HD (P:TpP T G) (L:jP T TX G)  (Y:F50 T TX G k F) (w0:W) {pg:Pg} (th:Th) (x8 x9 x10 x12:Option W) {t:Tp} (m:Nat) (hm:m<=e) (he:e<=100) (A:Wl h n r q t e gv pg asked mo (wl (gW pg asked th) e)) :
 ∃ y10,Wx (evS F G mV (bQ w0 pg asked mo e n th q x8 x9 x10 (some (.p (.int (m:Int)))) x12) h) (.nx (bQ w0 pg asked mo e n th q x8 x9 y10 (some (.p (.int (m:Int)))) x12)) n q e gv pg asked mo (wl (gW pg asked th) e):=by
 obtain ⟨h1,r1,t1,b1,g1,I1,s1⟩:=AH P L (k+4) A.a A.i m hm th
 rw[EK A th] at b1
 have wll:=tE (gW pg asked th) e
 have wlm:=tE (gW pg asked th) m
 have co:BT.ev F G Hw (bQ w0 pg asked mo e n th q x8 x9 x10 (some (.p (.int (m:Int)))) x12) h=some (.p (.lst (au (wl (gW pg asked th) m))),h):=by
  rw[Hw,BT.ev]
  have e1:evs F G (.cons (.var 7 "_law_writers") .nil) (bQ w0 pg asked mo e n th q x8 x9 x10 (some (.p (.int (m:Int)))) x12) h=some ([.r q],h):=by simp[bQ]
  have e2:(rds [.r q] h).bind (dY .seq)=some (au (wl (gW pg asked th) e)):=by simp[rds,rd,A.l]
  have e3:frees (bQ w0 pg asked mo e n th q x8 x9 x10 (some (.p (.int (m:Int)))) x12) [(11,"_law_moment")]=some [some (.p (.int (m:Int)))]:=rfl
  rw[e1,bR]
  unfold lM
  rw[e2,e3]
  show (if fD [.r q]=true then _ else _)=_
  rw[if_neg (by simp[fD]),qm]
  have key:bJ (chk q (au (wl (gW pg asked th) e)) (fK (evs F G (.cons (.cmp .le (.var 0 "_law_at") (.var 1 "_law_moment")) .nil)) (BT.ev F G (.var 0 "_law_at")) [some (.p (.int (m:Int)))])) 1 (au (wl (gW pg asked th) e)) h=some (au (wl (gW pg asked th) m),h):=by
   obtain ⟨d,rfl⟩:∃ d,e=m+d:=⟨e - m,by lia⟩
   have e0:au (wl (gW pg asked th) m)=(wl (gW pg asked th) (m+d)).filterMap fun k=>if decide (k<=m)=true then some (D.int (k:Int)) else none:=by
    rw[← vj (gW pg asked th) d];exact (DF _ _ _).symm
   rw[e0]
   refine Hs _ (fun (k:Nat)=>D.int (k:Int)) _ h (wl (gW pg asked th) (m+d)) fun i _=>?_
   unfold chk
   by_cases c:i<=m
   ·have c1:(i:Int)<=(m:Int):=by lia
    simp[fK,dZ,c,c1,A.l]
   ·have c1:¬ (i:Int)<=(m:Int):=by lia
    simp[fK,dZ,c,c1,A.l]
  rw[show (["_law_at"]:List Str).length=1 from rfl,key,bR]
  unfold fk
  rw[if_pos (show (au (wl (gW pg asked th) m)).length<=lim by unfold au;rw[Pq];simp;lia)];rfl
 have li:=DJ (wl (gW pg asked th) m)
 have n1:=DK (wl (gW pg asked th) m).getLast?
 have lm:(au (wl (gW pg asked th) m)).length+1<=100000:=by unfold au;rw[Pq];lia
 refine ⟨some (.p (dF (wl (gW pg asked th) m).getLast?)),h1,r1,t1,?_,A.go g1 I1 s1⟩
 rw[mV]
 unfold bQ at co ⊢
 generalize au (wl (gW pg asked th) m)=LL at *
 generalize dF (wl (gW pg asked th) m).getLast?=OO at *
 generalize xz pg asked e=RR at *
 have ad:iW .add (.lst [.non]) (.lst LL)=some (.lst (.non :: LL)):=by
  rw[bS,if_pos (by simp;lia)];rfl
 simp[-jx,tnx,-dG,-bq,-bS,co,ad,li,Y.told,b1,n1]
theorem oq (P:TpP T G) (L:jP T TX G) {k:Nat} (Y:F50 T TX G k F) (w0:W) {pg:Pg}{asked:List Int}{mo e n q gv:Nat} (th:Th) (he:e<=100) (x8 x9 x12:Option W):∀ (d lo:Nat) (x10 x11:Option W) (h:HH) (r:Nat) (t:Tp),lo+d=e+1->Wl h n r q t e gv pg asked mo (wl (gW pg asked th) e) →
 ∃ y10 y11,Wx (bM (evS F G mV) [(11,"_law_moment")] (upto (lo:Int) d) (bQ w0 pg asked mo e n th q x8 x9 x10 x11 x12) h) (.nx (bQ w0 pg asked mo e n th q x8 x9 y10 y11 x12)) n q e gv pg asked mo (wl (gW pg asked th) e)
 | 0,lo,x10,x11,h,r,t,hq,A=>⟨x10,x11,h,r,t,rfl,A⟩
 | d+1,lo,x10,x11,h,r,t,hq,A=>by
  obtain ⟨y10,h1,r1,t1,b1,A1⟩:=HD P L Y w0 th x8 x9 x10 x12 lo (by lia) he A
  obtain ⟨z10,z11,h2,r2,t2,b2,A2⟩:=oq P L Y w0 th he x8 x9 x12 d (lo+1) y10 (some (.p (.int (lo:Int)))) h1 r1 t1 (by lia) A1
  refine ⟨z10,z11,h2,r2,t2,?_,A2⟩
  have e1:((lo:Int)+1)=((lo+1:Nat):Int):=by lia
  rw[gK,e1]
  have st:bM (evS F G mV) [(11,"_law_moment")] (.int (lo:Int) :: upto ((lo+1:Nat):Int) d) (bQ w0 pg asked mo e n th q x8 x9 x10 x11 x12) h =
   gj (evS F G mV (bQ w0 pg asked mo e n th q x8 x9 x10 (some (.p (.int (lo:Int)))) x12) h) (bM (evS F G mV) [(11,"_law_moment")] (upto ((lo+1:Nat):Int) d)):=rfl
  rw[st,b1,bU,b2]
theorem tF (P:TpP T G) (L:jP T TX G)  (Y:F50 T TX G k F) (w0:W) {pg:Pg} (th:Th) (x8 x9 x10 x11:Option W) {t:Tp} (z:Int) (hz:NoM e z) (hb:big z=true) (A:Wl h n r q t e gv pg asked mo l) :
 Wx (evS F G mW (bQ w0 pg asked mo e n th q x8 x9 x10 x11 (some (.p (.int z)))) h) (.nx (bQ w0 pg asked mo e n th q x8 x9 x10 x11 (some (.p (.int z))))) n q e gv pg asked mo l:=by
 obtain ⟨h1,r1,t1,b1,g1,I1,s1⟩:=om P L (k+4) A.a A.i z (.inl hz) hb (.int 0)
 have A1:=A.go g1 I1 s1
 obtain ⟨h2,r2,t2,b2,g2,I2,s2⟩:=w9 P L (k+4) A1.a A1.i z hz hb th
 refine ⟨h2,r2,t2,?_,A1.go g2 I2 s2⟩
 rw[mW]
 unfold bQ
 generalize xz pg asked e=RR at *
 simp[-dG,Y.told,b1,b2,AD]
theorem KH (P:TpP T G) (L:jP T TX G)  (Y:F50 T TX G k F) (w0:W) {pg:Pg} (th:Th) (x8 x9 x10 x11 x12:Option W) {t:Tp} (A:Wl h n r q t e gv pg asked mo l) :
 ∃ h',evS F G Hz (bQ w0 pg asked mo e n th q x8 x9 x10 x11 x12) h=some (.rt (.p (.bl true)) h'):=by
 obtain ⟨h1,r1,t1,b1,g1,I1,s1⟩:=om P L (k+4) A.a A.i 0 (.inr rfl) (by decide) (.int 0)
 refine ⟨h1,?_⟩
 have tt:=fun (d:D) (hd:NoT d)=>AI P L (k+4) (.o n) (.p (.int 0)) hd h1
 have t1:=tt _ .g
 have t2:=tt _ .four
 have t3:=tt _ .non
 have t4:=tt _ .nul
 have ce:BT.ev F G Hx (bQ w0 pg asked mo e n th q x8 x9 x10 x11 x12) h1=some (.p (.lst []),h1):=by
  rw[Hx]
  refine DE (ws:=[.p (.tup [.str "g",.int 4,.non,.str ""])]) (h1:=h1) (fs:=[some (.o n)]) (ds:=[.str "g",.int 4,.non,.str ""]) (by simp) rfl rfl rfl ?_ (by simp)
  simp[-dG,bJ,fK,dZ,Y.told,t1,t2,t3,t4,DM]
 have q5:(bQ w0 pg asked mo e n th q x8 x9 x10 x11 x12)[5]?=some (some (.o n)):=rfl
 have eqn:dX .eq (.lst []) (.lst [])=some true:=rfl
 rw[Hz]
 generalize bQ w0 pg asked mo e n th q x8 x9 x10 x11 x12=sl at *
 simp[-dG,-tY,q5,Y.told,b1,AD,ce,eqn]
theorem KI (P:TpP T G) (L:jP T TX G)  (Y:F50 T TX G k F) (w0:W) {pg:Pg} (th:Th) (hal:asked.length<=1000) (hmo:mo<=100) {t:Tp} (A:Wl h n r q t e gv pg asked mo []) :
 ∃ h',evS F G HA (bQ w0 pg asked mo e n th q none none none none none) h=some (.rt (.p (.bl true)) h'):=by
 have le:e<=mo:=by have:=A.i.run.le;rw[A.m] at this;exact this
 obtain ⟨y8,y9,y10,h1,r1,t1,b1,A1⟩:=rm P L Y w0 th hal (by lia) none none e 0 none none none h r t (by lia) A
 obtain ⟨z10,z11,h2,r2,t2,b2,A2⟩:=oq P L Y w0 th (by lia) y8 y9 none (e+1) 0 y10 none h1 r1 t1 (by lia) A1
 obtain ⟨h3,r3,t3,b3,A3⟩:=tF P L Y w0 th y8 y9 z10 z11 (-1) (.inl (by lia)) (by decide) A2
 obtain ⟨h4,r4,t4,b4,A4⟩:=tF P L Y w0 th y8 y9 z10 z11 ((e:Int)+1) (.inr (by lia)) (by simp[big];lia) A3
 obtain ⟨h5,r5,t5,b5,A5⟩:=tF P L Y w0 th y8 y9 z10 z11 ((mo:Int)+1) (.inr (by lia)) (by simp[big];lia) A4
 obtain ⟨h6,b6⟩:=KH P L Y w0 th y8 y9 z10 z11 (some (.p (.int ((mo:Int)+1)))) A5
 refine ⟨h6,?_⟩
 have lp:bM (evS F G mW) [(12,"_law_bad")] [.int (-1),.int ((e:Int)+1),.int ((mo:Int)+1)] (bQ w0 pg asked mo e n th q y8 y9 z10 z11 none) h2=some (.nx (bQ w0 pg asked mo e n th q y8 y9 z10 z11 (some (.p (.int ((mo:Int)+1))))) h5):=by
  have st:∀ (z:Int) (l:List D) (y:Option W) (g:HH),bM (evS F G mW) [(12,"_law_bad")] (.int z :: l) (bQ w0 pg asked mo e n th q y8 y9 z10 z11 y) g=gj (evS F G mW (bQ w0 pg asked mo e n th q y8 y9 z10 z11 (some (.p (.int z)))) g) (bM (evS F G mW) [(12,"_law_bad")] l):=fun z l y g=>rfl
  rw[st,b3,bU,st,b4,bU,st,b5,bU];rfl
 have ln:biD .len [xz pg asked e]=some (.int ((e:Int)+1)):=by rw[← mU];exact DI pg asked e
 have sr:dY .rng2 [.int 1,.int ((e:Int)+1)]=some (upto ((0+1:Nat):Int) e):=by
  rw[eY,if_pos (by simp;lia)]
  have:((e:Int)+1 - 1).toNat=e:=by lia
  rw[this];rfl
 have sr1:dY .rng1 [.int ((e:Int)+1)]=some (upto ((0:Nat):Int) (e+1)):=by
  rw[eX,if_pos (by simp;lia)]
  have:((e:Int)+1).toNat=e+1:=by lia
  rw[this];rfl
 have z1:((0+1:Nat):Int)=1:=rfl
 have z0:((0:Nat):Int)=0:=rfl
 rw[z1] at b1 sr
 rw[z0] at b2 sr1
 rw[HA,KB,KA]
 generalize hsa:bQ w0 pg asked mo e n th q none none none none none=sa at b1 ⊢
 generalize hsb:bQ w0 pg asked mo e n th q y8 y9 y10 none none=sb at b1 b2
 generalize hsc:bQ w0 pg asked mo e n th q y8 y9 z10 z11 none=sc at b2 lp
 generalize hsd:bQ w0 pg asked mo e n th q y8 y9 z10 z11 (some (.p (.int ((mo:Int)+1))))=sd at lp b6
 have a4:sa[4]?=some (some (.p (xz pg asked e))):=by subst hsa;rfl
 have b4':sb[4]?=some (some (.p (xz pg asked e))):=by subst hsb;rfl
 have c4:sc[4]?=some (some (.p (xz pg asked e))):=by subst hsc;rfl
 have c3:sc[3]?=some (some (.p (.int (mo:Int)))):=by subst hsc;rfl
 simp[-vP,-eY,-eX,-bM,a4,ln,sr,sr1,fD,b1,b4',b2,c3,c4,lp,b6]
theorem xg (P:TpP T G) (L:jP T TX G)  (Y:F50 T TX G k F) (ns:List Int) (hl:ns.length<=1000):∃ h',BS.j6 F G fB [.p (.lst (ah ns))] []=some (.p (.bl true),h'):=by
 obtain ⟨pg,dp,rp⟩:=pJ (G:=G) L.lw L.program ns hl 20
 obtain ⟨asked,ha,hal,ra⟩:=wU (G:=G) L.lw ns hl 450
 obtain ⟨th,rt⟩:=wY (G:=G) L.lw L.thing ns hl 442
 have rp':∀ h,F "_law_program" [.p (.lst (ah ns)),.p (.int 20)] h=some (.p (aW pg),h):=fun h=>by rw[Y.fn _ (by decide)];exact rp (k+11) h
 have ra':∀ h,F "_law_asked" [.p (.lst (ah ns)),.p (.int 450)] h=some (.p (.lst (ah asked)),h):=fun h=>by rw[Y.fn _ (by decide)];exact ra (k+15) h
 have rt':∀ h,F "_law_thing" [.p (.lst (ah ns)),.p (.int 442)] h=some (.p th.enc,h):=fun h=>by rw[Y.fn _ (by decide)];exact rt (k+15) h
 have dr:∃ z:Nat,(z:Int) < 15/\∀ h,F "_law_drawn" [.p (.lst (ah ns)),.p (.int 440),.p (.int 15)] h=some (.p (.int (z:Int)),h):=by
  have h0:=cj ns 440 (many:=15) (by decide)
  have h1:=cu ns 440 (many:=15) (by decide)
  refine ⟨(drw ns 440 15).toNat,by lia,fun h=>?_⟩
  rw[Y.fn _ (by decide),b7 (G:=G) L.lw (k+16) ns hl 440 15 (by decide) h]
  congr 4
  lia
 obtain ⟨mo,hmo,rmo⟩:=dr
 obtain ⟨e,R,es⟩:=Dt pg asked mo
 have le:=R.le
 have rl:∀ h,F "_law_states" [.p (aW pg),.p (.lst (ah asked)),.p (.int mo)] h=some (.p (xz pg asked e),h):=fun h=>by
  rw[Y.fn _ (by decide),mS (G:=G) L.own k pg dp.ok (by have:=dp.hi;lia) asked ha (by lia) mo (by lia) h,es,← mU];rfl
 have in1:F (.m "Tape" "__init__") [.o 0,.p (aW pg),.p (.lst (ah asked)),.p (.int 2),.p (.int (mo:Int))] [.o "Tape" []]=some (.p .non,[.o "Tape" ((Tp.new pg asked 2 mo).fs 1),.l [St.zero.enc]]):=by
  rw[Y.me];exact Aq P (k+16) pg asked 2 mo (by lia) []
 have A0:TAt [.o "Tape" ((Tp.new pg asked 2 mo).fs 1),.l [St.zero.enc]] 0 1 (Tp.new pg asked 2 mo):=Ho [] pg asked 2 mo
 have I0:TI (Tp.new pg asked 2 mo) e 2:=Hl dp.ok ha R (by lia) (by lia) (by lia)
 have A1:Wl [.o "Tape" ((Tp.new pg asked 2 mo).fs 1),.l [St.zero.enc],.l []] 0 1 2 (Tp.new pg asked 2 mo) e 2 pg asked mo []:=⟨⟨A0.ob,A0.li⟩,I0,rfl,by decide,rfl,rfl,rfl⟩
 obtain ⟨h3,b3⟩:=KI P L Y (.p (.lst (ah ns))) th (by lia) (by lia) A1
 have f0:fin [] (.p (.bl true)) h3=some (.p (.bl true),[]):=by
  have:=gu [] h3 (.bl true)
  simpa using this
 refine ⟨[],?_⟩
 rw[BS.j6,if_pos (show [W.p (D.lst (ah ns))].length=fB.ps.length from rfl),fB]
 unfold bQ at b3
 generalize xz pg asked e=RR at *
 generalize aW pg=PP at *
 simp[-jx,tnx,rp',ra',rmo,rl,in1,rt',fD,b3,f0]
end
end BT
end
section
namespace BF
open PySem PySem.Spec PyProof.Rows L2 BS
variable {K:OM}{P:OU}{h:Heap}{mg:Str->Option Value}{x:Str}
def tG (P:OU) (w:Pa) (K:OM) (mg:Str->Option Value) (x:Str) (z:BT.W):Prop:=∃ u v,mg x=some u/\RelV v u/\∀ m H,RW P w K m H v z
theorem AK {w:Pa} (X:K.In h) (G:h.Ns O4 mg) {n:Int}{t:Tok} (a:PB K O4 x=some (some (.int n t))):tG P w K mg x (.p (.int n)) :=
 ⟨_,.int n,PR X G a,⟨t,rfl⟩,fun _ _=>.p (.int n)⟩
inductive c7:List Str->List Value->Prop where
 | nil:c7 [] []
 | cons {x:Str}{xs:List Str}{t:Tok}{vs:List Value} (h:PyData.strOk x=true) (r:c7 xs vs):c7 (x :: xs) (.str x t :: vs)
theorem c7.vals:∀ {xs:List Str}{vs:List Value},c7 xs vs->az (xs.map V.str) vs
 | _,_,.nil=>.nil
 | _,_,.cons _ r=>.cons ⟨_,rfl⟩ r.vals
theorem c7.rds {K:OM}{m:List OR}{H:Hp}:∀ {xs:List Str}{vs:List Value},c7 xs vs->RDs K m H (xs.map V.str) (xs.map BT.D.str)
 | _,_,.nil=>.nil
 | _,_,.cons h r=>.cons (.str _ h) r.rds
theorem c7.len:∀ {xs:List Str}{vs:List Value},c7 xs vs->vs.length=xs.length
 | _,_,.nil=>rfl
 | _,_,.cons _ r=>by simp[r.len]
theorem AL {w:Pa} (X:K.In h) (G:h.Ns O4 mg) {f:OR}{its:Array Value}{n:Nat}{sl:Array (Option Value)}{xs:List Str} (a:PB K O4 x=some (some (.ref f)))
 (l:K.lookup f=some ⟨.type "tuple",none,.seq its n,sl⟩) (hl:xs.length<=1000) (r:c7 xs its.toList):tG P w K mg x (.p (.tup (xs.map BT.D.str))):=by
 refine ⟨_,.ref f,PR X G a,rfl,fun m H=>.p (.tup (.inr ⟨_,its,n,⟨l,rfl,rfl,?_,r.vals⟩,rfl⟩) r.rds)⟩
 have:=r.len
 have e:its.size=xs.length:=by rw[← this];simp
 rw[e]
 exact QK (vM hl)
inductive fV (w:Pa):List (Str×Int)->List Tw->Prop where
 | nil:fV w [] []
 | cons {x:Str}{n:Int}{kvs:List (Str×Int)}{t u:Tok}{es:List Tw} (r:fV w kvs es):fV w ((x,n) :: kvs) (⟨PyData.keyHash w.params x,.str x t,.int n u⟩ :: es)
theorem fV.ex {P:OU}{w:Pa}:∀ {kvs:List (Str×Int)}{es:List Tw},fV w kvs es->∃ vs:List (Key×Value),KV ((kvs.map fun q=>(q.1,V.int q.2)).map fun q=>((Sum.inr q.1:Key),q.2)) vs/\Pairs (cT P w) es vs/\vs.map (·.1)=kvs.map (fun q=>(Sum.inr q.1:Key))/\(∀ e∈es,∃ k,(cT P w).is k e.key=true/\e.hash=(cT P w).hash k)
 | _,_,.nil=>⟨[],.nil,.nil,rfl,fun e he=>nomatch he⟩
 | _,_,@fV.cons _ x n kvs t u es r=>by
  obtain ⟨vs,h1,h2,h3,h4⟩:=r.ex (P:=P)
  have is:(cT P w).is (Sum.inr x) (.str x t)=true:=by show SE x (.str x t)=true;simp[SE]
  refine ⟨(Sum.inr x,.int n u) :: vs,.cons ⟨rfl,u,rfl⟩ h1,.cons is rfl h2,by simp[h3],fun e he=>?_⟩
  rcases List.mem_cons.mp he with rfl|he
  ·exact ⟨Sum.inr x,is,rfl⟩
  ·exact h4 e he
theorem xh {w:Pa} (X:K.In h) (G:h.Ns O4 mg) {f:OR}{es:Array Tw}{n:Nat}{kvs:List (Str×Int)} (a:PB K O4 x=some (some (.ref f)))
 (l:K.lookup f=some { cls:=.type "dict",data:=.dict es n }) (hf:(f==TH)=false) (r:fV w kvs es.toList) (nd:(kvs.map (·.1)).Nodup):tG P w K mg x (.k (kvs.map fun q=>(q.1,BT.D.int q.2))):=by
 obtain ⟨vs,h1,h2,h3,h4⟩:=r.ex (P:=P)
 refine ⟨_,.ref f,PR X G a,rfl,fun m H=>.k (es:=kvs.map fun q=>(q.1,V.int q.2)) ⟨hf,vs,h1,fun hh Kh=>⟨_,es,n,Kh _ _ l,⟨rfl,rfl,rfl⟩,rfl,fun e he=>h4 e (by simpa using he),h2,?_⟩⟩ ?_⟩
 ·rw[h3]
  have e:(kvs.map fun q=>(Sum.inr q.1:Key))=(kvs.map (·.1)).map Sum.inr:=by simp
  rw[e]
  exact List.pairwise_map.mpr (nd.imp fun h z=>h (Sum.inr.inj z))
 ·clear r nd h1 h2 h3 h4 l
  induction kvs with
  | nil=>exact .nil
  | cons q kvs ih=>exact .cons (fun _ _=>.int _) ih
noncomputable def look {κ α:Type} [DecidableEq κ] (l:List (κ×α)) (x:κ):Option α:=match l with
 | []=>none
 | (y,a) :: r=>if y=x then some a else look r x
theorem fC {κ α:Type} [DecidableEq κ] {Q:κ->α->Prop}:∀ {l:List (κ×α)} (_:∀ p∈l,Q p.1 p.2) {x:κ}{a:α},look l x=some a->Q x a
 | [],_,_,_,e=>by cases e
 | (y,b) :: r,h,x,a,e=>by
  rw[look] at e
  split at e
  ·rename_i z
   cases e
   subst z
   exact h (y,b) Pj
  ·exact fC (fun p hp=>h p (O8 _ hp)) e
theorem jF {K:OM}{m:List OR}{H:Hp}:∀ ns:List Int,RDs K m H (ns.map V.int) (BT.ah ns)
 | []=>.nil
 | n :: r=>.cons (.int n) (jF r)
theorem AM {w:Pa}{g:List BT.W->BT.HH->Option (BT.W×BT.HH)}{H:Hp}{a:OR}{ns:List Int} (tb:TB K H) (hS:LL K H a (ns.map V.int)) (e:∃ h',g [.p (.lst (BT.ah ns))] []=some (.p (.bl true),h')):spF P w K g [.ref a] H (fun v _=>v=.bl true) fun _ _ _=>False:=by
 obtain ⟨h',e⟩:=e
 refine ⟨[],_,[],_,h',⟨TU,rfl,fun i a xs z=>by simp at z,tb⟩,.cons (.p (.lst (hS.elim (fun q=>.inl ⟨q,by simp⟩) .inr) (jF ns))) .nil,e,fun v H' m' _ _ r=>jV r⟩
end BF
end
section
namespace BG
open PySem PySem.Spec PySem.Calls PyProof.Rows L2 BS BF
variable {C P b f:OR}{K:OM}{c m qual x:Str}{fd:PN}{fn:BT.Fn}{k:Nat}{mg:Str->Option Value}{ns:List Str}{st:Sx}
theorem DO {h:Heap} (H:∀ p∈K,h.get? p.1=some p.2):K.In h:=by
 intro a o e
 obtain ⟨p,hp,he⟩:∃ p∈K,p.1=a/\p.2=o:=by
  clear H
  induction K with
  | nil=>cases e
  | cons q r ih =>
   rw[Qm] at e
   split at e
   ·rename_i c
    cases e
    exact ⟨q,Pj,(eq_of_beq c).symm,rfl⟩
   ·obtain ⟨p,hp,he⟩:=ih e
    exact ⟨p,O8 _ hp,he⟩
 rw[← he.1,← he.2]
 exact H p hp
inductive KJ (K:OM) (x qual:Str) (st:Sx) (f:OR):Prop where
 | mk (fd:PN) (F:Fun K x qual st f fd) (kV doc pm:Value) (an:Option OR) (cdv ct:Value) (e:fd=P5 x qual (cE st) (ay st) (aa st) .none kV doc pm an cdv ct):KJ K x qual st f
theorem j9  (e:Bb K f=some (tK x qual st)):KJ K x qual st f:=by
 unfold Bb at e
 split at e
 ·rename_i oc od fd sl l
  have e':=OV e
  unfold tK at e'
  obtain ⟨nm,ql,pa,bo,sc,gl,cl,de,kw,dc,pm,an,co,ct,bu⟩:=fd
  simp only[FS.mk.injEq] at e'
  obtain ⟨rfl,rfl,rfl,rfl,rfl,rfl,rfl,rfl,rfl,hc⟩:=e'
  have F:=Fz (K:=K) (x:=nm) (qual:=ql) (st:=st) (f:=f) (kV:=kw) (doc:=dc) (pm:=pm) (an:=an) (cdv:=co) (ct:=ct) l hc (by simp only[Po,l])
  exact ⟨_,F,kw,dc,pm,an,co,ct,rfl⟩
 ·cases e
theorem nth {α:Type}{l:List α}{a:α} (i:Nat) (h:l[i]?=some a):a∈l:=O5 h
noncomputable def ja (ns:List Str):Bool:=ns.all fun n=>!(n.cps[0]?==some 60)
theorem KM (y:Str):(BT.bA y).cps[0]?=some 60:=by
 show (((#[60]:Array Nat)++y.cps)++#[62])[0]?=some 60
 rw[← Uq]
 simp
theorem DP {y z:Str} (h:BT.bA y=BT.bA z):y=z:=by
 have e:((#[60]:Array Nat)++y.cps)++#[62]=((#[60]:Array Nat)++z.cps)++#[62]:=congrArg Str.cps h
 have e2:y.cps.toList=z.cps.toList:=by
  have:=congrArg Up e
  simpa using this
 cases y;cases z;exact congrArg Str.mk (Array.toList_inj.mp e2)
theorem iG  (h:ja ns=true) (y:Str):ns.contains (BT.bA y)=false:=by
 cases e:ns.contains (BT.bA y) with
 | false=>rfl
 | true =>
  have:=List.all_eq_true.mp h _ (List.contains_iff_mem.mp e)
  rw[KM] at this
  cases this
theorem kg {q:Str} (h:ja fn.ns=true):gr K q fd fn:=fun y hy=>by rw[iG h y] at hy;cases hy
section
variable {P:OU}{w:Pa}{K:OM}{h:Heap}{mg:Str->Option Value}
theorem iH {o:Option (Option Value)} (e:refOf o=some f):o=some (some (.ref f)):=by
 unfold refOf at e
 split at e
 ·cases e;rfl
 ·cases e
theorem AN (X:K.In h) (G:h.Ns O4 mg)  (e:aQ K (.fn x f st)=aR w (.fn x f st))
 (sc:aN fn.ns fn.ps (aa st)) (hb:∀ (kV doc pm:Value) (an:Option OR) (cdv ct:Value) (us:List Value),us.length=fn.ps.length->T8 (P5 x x (cE st) (ay st) (aa st) .none kV doc pm an cdv ct) ⟨us,[]⟩=pure (fn.ps.zip us))
 (ck:CSs (aa st) fn.ns fn.body (ay st)) (tg:∀ fd,PB K O4 x=some (some (.ref f))->(∃ oc od sl,K.lookup f=some ⟨oc,od,.func fd,sl⟩)->gr K x fd fn):Def K mg x fn:=by
 simp only[aQ,aR,Ov.fn.injEq] at e
 obtain ⟨fd,F,kV,doc,pm,an,cdv,ct,rfl⟩:=j9 e.2
 refine ⟨f,_,st,PR X G (iH e.1),F,sc,F.binds hb,ck,tg _ (iH e.1) ?_⟩
 obtain ⟨oc,od,kV,doc,pm,an,cdv,ct,osl,e1,lk,_⟩:=F.ex
 exact ⟨oc,od,osl,lk⟩
theorem rA  (e:aQ K (.cls c C)=aR w (.cls c C)):jz K c C:=by
 simp only[aQ,aR,Ov.b.injEq,Ih,OQ,decide_eq_true_eq] at e
 obtain ⟨⟨⟨⟨⟨h1,h2⟩,h3⟩,h4⟩,h5⟩,h6⟩:=e
 refine ⟨h1,⟨h2,h3,h4,h5⟩,fun f hf=>?_⟩
 have hm:f∈attrs:=List.contains_iff_mem.mp hf
 exact of_decide_eq_true (p:=Pv K (.ref C) f=some none) (List.all_eq_true.mp h6 f hm)
theorem DQ (X:K.In h) (G:h.Ns O4 mg)  (ec:aQ K (.cls c C)=aR w (.cls c C)) (em:aQ K (.mk C)=aR w (.mk C)) (e:aQ K (.me C m x qual f st)=aR w (.me C m x qual f st))
 (sc:aN fn.ns fn.ps (aa st)) (hb:∀ (kV doc pm:Value) (an:Option OR) (cdv ct:Value) (us:List Value),us.length=fn.ps.length->T8 (P5 x qual (cE st) (ay st) (aa st) .none kV doc pm an cdv ct) ⟨us,[]⟩=pure (fn.ps.zip us))
 (ck:CSs (aa st) fn.ns fn.body (ay st)) (tg:ja fn.ns=true):zF K mg c m fn:=by
 have hC:=rA ec
 simp only[aQ,aR,Ov.fn.injEq] at e
 obtain ⟨e1,e2⟩:=e
 obtain ⟨fd,F,kV,doc,pm,an,cdv,ct,rfl⟩:=j9 e2
 have e1':meB K C m f=true:=by
  cases q:meB K C m f with
  | true=>rfl
  | false=>rw[q] at e1;cases e1
 simp only[meB,OQ,decide_eq_true_eq] at e1'
 simp only[aQ,aR,Ov.b.injEq,mkB,OQ] at em
 refine ⟨C,f,_,x,qual,st,hC,PR X G hC.cn,⟨e1'.1,e1'.2,F.kp⟩,fun z=>?_,F,sc,F.binds hb,ck,kg tg⟩
 subst z
 exact ⟨em.1,e1'.1,e1'.2,em.2⟩
theorem none_of (X:K.In h) (G:h.Ns O4 mg)  (e:aQ K (.no x)=aR w (.no x)):mg x=none:=by
 simp only[aQ,aR,Ov.b.injEq,decide_eq_true_eq] at e
 exact PySem.W.mg_none_of X G e
theorem AO {v:Value}{x:Int} (h:intOf v=some x):∃ t,v=.int x t:=by
 cases v<;>simp[intOf] at h
 exact ⟨_,by rw[h]⟩
theorem AQ {v:Value} (h:strOf v=some x):∃ t,v=.str x t:=by
 cases v<;>simp[strOf] at h
 exact ⟨_,by rw[h]⟩
theorem cD (X:K.In h) (G:h.Ns O4 mg) {n:Int} (e:aQ K (.int x n)=aR w (.int x n)):tG P w K mg x (.p (.int n)):=by
 simp only[aQ,aR,Ov.int.injEq] at e
 split at e
 ·rename_i v hv
  obtain ⟨t,rfl⟩:=AO e
  exact AK X G hv
 ·cases e
theorem vm:∀ {xs:List Str}{vs:List Value},xs.all PyData.strOk=true->vs.map strOf=xs.map some->c7 xs vs
 | [],[],_,_=>.nil
 | [],_ :: _,_,h=>by simp at h
 | _ :: _,[],_,h=>by simp at h
 | x :: xs,v :: vs,k,h=>by
  simp only[Px,Rg] at h
  simp only[Ub,OQ] at k
  obtain ⟨t,rfl⟩:=AQ h.1
  exact .cons k.1 (vm k.2 h.2)
theorem vn:∀ {kvs:List (Str×Int)}{es:List Tw},es.map (fun e=>(e.hash,strOf e.key,intOf e.val))=kvs.map (fun q=>(PyData.keyHash w.params q.1,some q.1,some q.2))->fV w kvs es
 | [],[],_=>.nil
 | [],_ :: _,h=>by simp at h
 | _ :: _,[],h=>by simp at h
 | (x,n) :: kvs,⟨ha,k,v⟩ :: es,h=>by
  simp only[Px,Rg,TQ] at h
  obtain ⟨⟨rfl,h2,h3⟩,hr⟩:=h
  obtain ⟨t,rfl⟩:=AQ h2
  obtain ⟨u,rfl⟩:=AO h3
  exact .cons (vn hr)
theorem AR (X:K.In h) (G:h.Ns O4 mg) {xs:List Str} (e:aQ K (.tup x f xs)=aR w (.tup x f xs)) (hl:xs.length<=1000) (hs:xs.all PyData.strOk=true):tG P w K mg x (.p (.tup (xs.map BT.D.str))):=by
 simp only[aQ,aR,Ov.seq.injEq] at e
 obtain ⟨e1,e2,e3⟩:=e
 obtain ⟨o,l,e4⟩:=Option.map_eq_some_iff.mp e2
 rw[l] at e3
 obtain ⟨cl,di,da,sl⟩:=o
 simp only[shp,TQ] at e4
 obtain ⟨rfl,rfl,e5⟩:=e4
 have:sl=#[]:=S6 e5
 subst this
 simp only[QS,D7] at e3
 cases da<;>simp only[QB,reduceCtorEq] at e3
 exact AL X G (iH e1) l hl (vm hs e3)
theorem AS (X:K.In h) (G:h.Ns O4 mg) {kvs:List (Str×Int)} (e:aQ K (.dct x f kvs)=aR w (.dct x f kvs)) (hf:(f==TH)=false) (nd:(kvs.map (·.1)).Nodup):tG P w K mg x (.k (kvs.map fun q=>(q.1,BT.D.int q.2))):=by
 simp only[aQ,aR,Ov.dct.injEq] at e
 obtain ⟨e1,e2,e3⟩:=e
 obtain ⟨o,l,e4⟩:=Option.map_eq_some_iff.mp e2
 rw[l] at e3
 obtain ⟨cl,di,da,sl⟩:=o
 simp only[shp,TQ] at e4
 obtain ⟨rfl,rfl,e5⟩:=e4
 have:sl=#[]:=S6 e5
 subst this
 simp only[QS,D8] at e3
 cases da<;>simp only[QB,reduceCtorEq] at e3
 exact xh X G (iH e1) l hf (vn e3) nd
end
theorem xj {α:Type}{us:List α}{n:Nat} (h:us.length=n+1):∃ a r,us=a :: r/\r.length=n:=by
 cases us with
 | nil=>simp at h
 | cons a r=>exact ⟨a,r,rfl,by simpa using h⟩
theorem len0 {α:Type}{us:List α} (h:us.length=0):us=[]:=Tj h
theorem DR {α:Type}{us:List α} (h:us.length=1):∃ a0,us=[a0]:=by
 obtain ⟨a0,r,rfl,g⟩:=xj h
 exact ⟨a0,by rw[len0 g]⟩
theorem AU {α:Type}{us:List α} (h:us.length=2):∃ a0 a1,us=[a0,a1]:=by
 obtain ⟨a0,r,rfl,g⟩:=xj h
 obtain ⟨a1,rfl⟩:=DR g
 exact ⟨a0,a1,rfl⟩
theorem xm {α:Type}{us:List α} (h:us.length=3):∃ a0 a1 a2,us=[a0,a1,a2]:=by
 obtain ⟨a0,r,rfl,g⟩:=xj h
 obtain ⟨a1,a2,rfl⟩:=AU g
 exact ⟨a0,a1,a2,rfl⟩
theorem AV {α:Type}{us:List α} (h:us.length=4):∃ a0 a1 a2 a3,us=[a0,a1,a2,a3]:=by
 obtain ⟨a0,r,rfl,g⟩:=xj h
 obtain ⟨a1,a2,a3,rfl⟩:=xm g
 exact ⟨a0,a1,a2,a3,rfl⟩
theorem KN {α:Type}{us:List α} (h:us.length=5):∃ a0 a1 a2 a3 a4,us=[a0,a1,a2,a3,a4]:=by
 obtain ⟨a0,r,rfl,g⟩:=xj h
 obtain ⟨a1,a2,a3,a4,rfl⟩:=AV g
 exact ⟨a0,a1,a2,a3,a4,rfl⟩
theorem NC {α:Type}{us:List α} (h:us.length=6):∃ a0 a1 a2 a3 a4 a5,us=[a0,a1,a2,a3,a4,a5]:=by
 obtain ⟨a0,r,rfl,g⟩:=xj h
 obtain ⟨a1,a2,a3,a4,a5,rfl⟩:=KN g
 exact ⟨a0,a1,a2,a3,a4,a5,rfl⟩
noncomputable abbrev BdT (x qual:Str) (st:Sx) (fn:BT.Fn):Prop:=∀ (kV doc pm:Value) (an:Option OR) (cdv ct:Value) (us:List Value),us.length=fn.ps.length->T8 (P5 x qual (cE st) (ay st) (aa st) .none kV doc pm an cdv ct) ⟨us,[]⟩=pure (fn.ps.zip us)
structure CkB (x qual:Str) (s:Sx) (f:BT.Fn):Prop where
 ck:CSs (aa s) f.ns f.body (ay s):=by repeat' (first|rfl|constructor|decide +kernel)
 sc:aN f.ns f.ps (aa s):=by constructor<;>first|rfl|decide +kernel
 bd:BdT x qual s f:=by intro _ _ _ _ _ _ us hl;first|(obtain ⟨a0,a1,rfl⟩:=AU hl;rfl)|(obtain ⟨a0,rfl⟩:=DR hl;rfl)|(obtain ⟨a0,a1,a2,rfl⟩:=xm hl;rfl)|(obtain ⟨a0,a1,a2,a3,rfl⟩:=AV hl;rfl)|(obtain rfl:=len0 hl;rfl)|(obtain ⟨a0,a1,a2,a3,a4,rfl⟩:=KN hl;rfl)|(obtain ⟨a0,a1,a2,a3,a4,a5,rfl⟩:=NC hl;rfl)
theorem ce {p:Prop} (h:p:=by repeat' (first|rfl|constructor|decide +kernel)):p:=h
theorem dk {p:Prop} (h:p:=by decide +kernel):p:=h
theorem hn {w:Pa}{qs:List Qy} (hq:∀ q∈qs,aQ K q=aR w q) (i:Nat) {a:Qy} (h:qs[i]?=some a):aQ K a=aR w a:=hq _ (nth i h)
def oz (K:OM) (mg:Str->Option Value) (p:BT.FK×BT.Fn):Prop:=(∀ x,p.1=.f x->Def K mg x p.2)/\(∀ c m,p.1=.m c m->zF K mg c m p.2)/\∀ L,p.1=.l L->BT.lQ L=some p.2/\∃ ns bt,p.2=⟨ns,ns,.ret bt⟩/\∀ y,ns.contains (BT.bA y)=false
theorem dd  (d:Def K mg x fn):oz K mg (.f x,fn):=⟨fun y e=>by cases e;exact d,fun c m e=>(by cases e),fun L e=>by cases e⟩
theorem dm  (d:zF K mg c m fn):oz K mg (.m c m,fn):=⟨fun y e=>(by cases e),fun c m e=>by cases e;exact d,fun L e=>by cases e⟩
theorem dl {L:Nat}{bt:BT.E} (h:BT.lQ L=some ⟨ns,ns,.ret bt⟩) (n:ja ns=true):oz K mg (.l L,⟨ns,ns,.ret bt⟩):=⟨fun y e=>(by cases e),fun c m e=>(by cases e),fun M e=>by cases e;exact ⟨h,ns,bt,rfl,iG n⟩⟩
section
variable {w:Pa}{K:OM}{h:Heap}{mg:Str->Option Value}
theorem dd0 (X:K.In h) (G:h.Ns O4 mg)  (e:aQ K (.fn x f st)=aR w (.fn x f st)) (c:CkB x x st fn) (tg:ja fn.ns=true:=by decide +kernel):oz K mg (.f x,fn) :=
 dd (AN X G e c.sc c.bd c.ck fun _ _ _=>kg tg)
theorem dm0 (X:K.In h) (G:h.Ns O4 mg)  (ec:aQ K (.cls c C)=aR w (.cls c C)) (em:aQ K (.mk C)=aR w (.mk C)) (e:aQ K (.me C m x qual f st)=aR w (.me C m x qual f st)) (k:CkB x qual st fn) (tg:ja fn.ns=true:=by decide +kernel):oz K mg (.m c m,fn) :=
 dm (DQ X G ec em e k.sc k.bd k.ck tg)
end
structure DS (K:OM) (tl:List (Str×OR×OR)):Prop where
 all:∀ z∈BT.dH,(∃ c P,(z,c,P)∈tl/\PX K z=some (c,P))\/PX K z=none
 hd:∀ q∈tl,RJ K q.2.1 q.2.2=true
theorem pP {w:Pa}{c:OR} (e:aQ K (.tab x c P)=aR w (.tab x c P)):PX K x=some (c,P)/\RJ K c P=true:=by
 simp only[aQ,aR,Ov.b.injEq,OQ,decide_eq_true_eq] at e
 exact e
theorem bg {w:Pa} (e:aQ K (.no x)=aR w (.no x)):PX K x=none:=by
 simp only[aQ,aR,Ov.b.injEq,decide_eq_true_eq] at e
 unfold PX
 rw[e]
theorem AW {c:OR}{oc:Value}{od:Option OR}{sl:Array (Option Value)} (h1:PB K O4 x=some (some (.ref f))) (h2:K.lookup f=some ⟨oc,od,.func fd,sl⟩) (h:PX K x=some (c,P)):fd.code=.ref c:=by
 unfold PX at h
 rw[h1] at h
 simp only[h2] at h
 split at h
 ·rename_i c' hc
  split at h
  ·split at h
   ·cases h;exact hc
   ·cases h
  ·cases h
 ·cases h
theorem HE {w:Pa} (e:aQ K (.bm b)=aR w (.bm b)):∃ bm ob,PB K O4 "__builtins__"=some (some (.ref bm))/\bm≠QF/\K.lookup bm=some ob/\ob.cls=.type "module"/\ob.dict=some QF/\ob.data=.plain:=by
 simp only[aQ,aR,Ov.b.injEq,bmB,OQ,decide_eq_true_eq] at e
 obtain ⟨⟨e1,e2⟩,e3⟩:=e
 split at e3
 ·rename_i d sl l
  exact ⟨b,_,e1,e2,l,rfl,congrArg some (eq_of_beq e3),rfl⟩
 ·cases e3
noncomputable def tabsOk (tl:List (Str×OR×OR)):Bool:=tl.all fun p=>tl.all fun q=>!(p.2.2==q.2.2)||p.1==q.1
theorem vo {w:Pa}{tl:List (Str×OR×OR)}{c:OR} (hns:fn.ns=ns++[BT.bA x]) (h0:ja ns=true) (mem:x∈BT.dH) (hT:DS K tl) (hk:tabsOk tl=true) (hm:(x,c,P)∈tl) (et:aQ K (.tab x c P)=aR w (.tab x c P)) (eb:aQ K (.bm b)=aR w (.bm b)) :
 ∀ fd,PB K O4 x=some (some (.ref f))->(∃ oc od sl,K.lookup f=some ⟨oc,od,.func fd,sl⟩)->gr K x fd fn:=fun fd h1 ⟨oc,od,sl,h2⟩ y hy=>by
 obtain ⟨t1,t2⟩:=pP et
 have e:y=x:=by
  have m:=List.contains_iff_mem.mp hy
  rw[hns] at m
  rcases List.mem_append.mp m with m|m
  ·have:=iG h0 y
   rw[List.contains_iff_mem.mpr m] at this;cases this
  ·exact DP (by simpa using m)
 subst e
 refine ⟨rfl,mem,⟨c,P,t1,AW h1 h2 t1,t2,fun z hz c2 e2=>?_⟩,HE eb⟩
 rcases hT.all z hz with ⟨c3,P3,m3,e3⟩|e3
 ·rw[e2] at e3
  cases e3
  have:=List.all_eq_true.mp (List.all_eq_true.mp hk _ m3) _ hm
  simp only[beq_self_eq_true,Bool.not_true,Bool.false_or] at this
  exact eq_of_beq this
 ·rw[e2] at e3;cases e3
theorem tH {o:Obj} (e:K.lookup b=some o):b∈K.map (·.1):=List.mem_map.mpr ⟨(b,o),PySem.W.mem_of_lookupK e,rfl⟩
theorem xo {P:OU}{w:Pa}{mb:Str->Option Value}{fa a:OR}{sp:Sp}{s₁:OP}{vs:List Value}{ns:List Int}{tl:List (Str×OR×OR)}
 (KX:K.In s₁.heap) (hns:s₁.heap.Ns O4 mg) (hb:s₁.heap.Ns QF mb) (hbb:∀ x:Str,x≠"__name__"->mb x=RN x) (hlim:s₁.heap.NoLimit) (hg:s₁.gens=#[])
 (ha:s₁.heap.get? a=some { cls:=.type "list",data:=.seq vs.toArray }) (hi:IntsAre vs ns) (hl:ns.length<=sizeLine) (hr:bx k UU)
 (hT:DS K tl) (hTs:∀ p∈tl,s₁.heap.get? p.2.2=some (QN #[])) (hTk:∀ p∈tl,K.lookup p.2.2=none)
 (F:∀ base:Heap,cK P w K mg base CX0 k fa fd [x] sp) (hbind:∀ (s:OP) (u:Value),K.In s.heap->BindsTo s fd ⟨[u],[]⟩ [(x,u)])
 (hsp:∀ H:Hp,TB K H->LL K H a (ns.map V.int)->sp [.ref a] H (fun v _=>v=.bl true) fun _ _ _=>False) :
 codeAny (Pc P w) UU (.call (.ref fa) ⟨[.ref a],[]⟩) (fun r s'=>r=.ok (.ret (.bool true))/\OldK s₁.heap s'.heap/\s'.os=s₁.os/\Tf s'.gens) s₁:=by
 have rv:=nM hi
 have lenV:=hi.length
 have tne:∀ p∈tl,p.2.2≠a:=fun p hp z=>by
  have:=hTs p hp
  rw[z,ha] at this;cases this
 let so:HO:=.frz { cls:=.type "list",data:=.seq vs.toArray } (.lst (ns.map V.int))
 let H:Hp:=fun b=>if ∃ p∈tl,p.2.2=b then some (.tbl #[]) else if b=a/\K.lookup a=none then some so else none
 have Ht:∀ p∈tl,H p.2.2=some (.tbl #[]):=fun p hp=>if_pos ⟨p,hp,rfl⟩
 have Hcase:∀ b u,H b=some u->(∃ p∈tl,p.2.2=b/\u=.tbl #[])\/(b=a/\K.lookup a=none/\u=so):=fun b u e=>by
  by_cases c1:∃ p∈tl,p.2.2=b
  ·have e':some (HO.tbl #[])=some u:=(if_pos c1).symm.trans e
   obtain ⟨p,hp,h2⟩:=c1
   exact .inl ⟨p,hp,h2,(OV e').symm⟩
  ·have e':(if b=a/\K.lookup a=none then some so else none)=some u:=(if_neg c1).symm.trans e
   by_cases c2:b=a/\K.lookup a=none
   ·rw[if_pos c2] at e'
    exact .inr ⟨c2.1,c2.2,(OV e').symm⟩
   ·rw[if_neg c2] at e';cases e'
 have noA:∀ {b:OR}{o:Obj}{es:Array Tw}{ep:Nat},s₁.heap.get? b=some o->o.data=.dict es ep->H b=none:=fun {b o es ep} e d=>by
  cases q:H b with
  | none=>rfl
  | some u =>
   rcases Hcase b u q with ⟨p,hp,h2,_⟩|⟨h2,_⟩
   ·have z:=hTs p hp
    rw[h2,e] at z;cases z;cases d
   ·rw[h2,ha] at e;cases e
    have d':Data.seq vs.toArray _=Data.dict es ep:=d
    cases d'
 have nsK:∀ {b:OR}{m:Str->Option Value},s₁.heap.Ns b m->(pR s₁.heap H).Ns b m:=fun {b m} ⟨o,es,ep,e,d,r⟩=>⟨o,es,ep,pS e (noA e d),d,r⟩
 have hKb:K.In (pR s₁.heap H):=fun b o e=>pS (KX b o e) (by
  cases q:H b with
  | none=>rfl
  | some u =>
   rcases Hcase b u q with ⟨p,hp,h2,_⟩|⟨h2,h3,_⟩
   ·rw[← h2,hTk p hp] at e;cases e
   ·rw[h2,h3] at e;cases e)
 have hM:Mod K mg (pR s₁.heap H):=⟨hKb,nsK hns,⟨mb,nsK hb,hbb⟩,let ⟨mc,h1,h2⟩:=hlim;⟨mc,nsK h1,h2⟩⟩
 have hok:HOk P w H s₁.heap:=fun b u e=>by
  rcases Hcase b u e with ⟨p,hp,h2,rfl⟩|⟨h2,_,rfl⟩
  ·subst h2;exact hTs p hp
  ·subst h2;exact ⟨ha,by rw[Pq];exact hl,vs,_,rv,ha⟩
 have e0:jq P w K mg (pR s₁.heap H) UU [] s₁ H:=⟨rfl,hM,fun b o e=>Bd e,Nat.le_of_eq (vv _ _),trivial,fun b hb=>absurd (show b∈([]:List OR) from hb) (by simp),hok,.of_eq hg⟩
 have tb:TB K H:=fun z hz c Pt e=>by
  rcases hT.all z hz with ⟨c3,P3,m3,e3⟩|e3
  ·rw[e] at e3;cases e3
   exact ⟨#[],Ht _ m3,trivial,fun pos v q=>by cases q⟩
  ·rw[e] at e3;cases e3
 have hS:LL K H a (ns.map V.int):=by
  cases hk:K.lookup a with
  | some o =>
   have e:=KX a o hk
   rw[ha] at e
   cases e
   exact .inr ⟨vs,_,hk,by rw[lenV];exact hl,rv⟩
  | none =>
   refine .inl (.inr ⟨{ cls:=.type "list",data:=.seq vs.toArray },?_⟩)
   have e1:H a=(if a=a/\K.lookup a=none then some so else none):=if_neg fun ⟨p,hp,z⟩=>tne p hp z
   rw[e1,if_pos ⟨rfl,hk⟩]
 refine Q6 ((F _).run UU [] s₁ H ⟨[.ref a],[]⟩ [.ref a] [.ref a] _ _ hr e0 (hbind s₁ (.ref a) KX) (.cons rfl .nil) (hsp H tb hS)) fun r s' h=>?_
 cases r with
 | error e=>exact Pk h
 | ok fl =>
  cases fl with
  | ret u =>
   obtain ⟨v,H',os,bare,un,hok',r',q⟩:=h
   have q':v=.bl true:=q
   subst q'
   obtain rfl:u=UV true:=r'
   have kp:∀ b o,s₁.heap.get? b=some o->(s'.heap.get? b=some o)\/∃ p∈tl,p.2.2=b/\∃ more,s'.heap.get? b=some (QN (#[]++more)):=fun b o e=>by
    cases q:H b with
    | none=>exact .inl (un.keep b o e q (by intro z;exact absurd (show b∈([]:List OR) from z) (by simp)) (by simp))
    | some u =>
     rcases Hcase b u q with ⟨p,hp,h2,rfl⟩|⟨h2,h3,rfl⟩
     ·obtain ⟨more,z⟩:=un.tbls b _ q
      exact .inr ⟨p,hp,h2,more,hok' b _ z⟩
     ·have z2:=un.frzs b _ _ q
      obtain ⟨e1,_⟩:=hok b _ q
      obtain ⟨e2,_⟩:=hok' b _ z2
      rw[e] at e1;cases e1
      exact .inl e2
   refine ⟨rfl,⟨fun b o e=>?_,fun b o e=>?_⟩,os,bare⟩
   ·rcases kp b o e with z|⟨p,hp,rfl,more,z⟩
    ·exact .inl z
    ·have e2:=hTs p hp
     rw[e] at e2
     cases e2
     have tA:=(Rl KX (hT.hd p hp)).tab e
     exact .inr (.inl ⟨tA.isCodeTable,rfl,#[],more,rfl,z⟩)
   ·rcases kp b o e with z|⟨p,hp,rfl,more,z⟩
    ·exact ⟨o,z⟩
    ·exact ⟨_,z⟩
  | _=>exact Pk h
noncomputable def kh:List Str:=["NoMoment","NoRun","NoThing","NoText"]
theorem AX  (h:fm c=true):c∈kh:=by
 have:=List.contains_iff_mem.mp h
 simp only[PY,PD,or_false] at this
 simp only[kh,PY,PD,or_false]
 rcases this with h|h|h|h<;>simp[h]
theorem AY {cn:Str} (h:fm cn=true):BT.kI c cn=(cn==c):=by
 have:=List.contains_iff_mem.mp h
 simp only[PY,PD,or_false] at this
 unfold BT.kI
 have h1:(cn==("TapeError":Str))=false:=by rcases this with rfl | rfl | rfl | rfl<;>decide
 have h2:(cn==("ValueError":Str))=false:=by rcases this with rfl | rfl | rfl | rfl<;>decide
 rw[h1,h2,RQ,RQ]
theorem rB {xs:List (Str×OR)} (h:xs.map (·.1)=kh)  (hc:fm c=true):∃ C,(c,C)∈xs:=by
 have:=AX hc
 rw[← h] at this
 obtain ⟨p,hp,rfl⟩:=List.mem_map.mp this
 exact ⟨p.2,hp⟩
section
variable {P:OU}{w:Pa}{K:OM}{h:Heap}{mg:Str->Option Value}{D:OR}{xs:List (Str×OR)}
theorem iI  (e:Bc K c C=true):CN K c C/\mD K C:=by
 unfold Bc at e
 obtain ⟨e1,e2⟩:=Bool.and_eq_true_iff.mp e
 exact ⟨of_decide_eq_true (p:=PB K O4 c=some (some (.ref C))) e1,⟨e2⟩⟩
theorem vp (e:aQ K (.exc D xs)=aR w (.exc D xs)) (hx:xs.map (·.1)=kh):Kg K D/\mD K D/\CN K "TapeError" D:=by
 simp only[aQ,aR,Ov.b.injEq] at e
 unfold Ii at e
 obtain ⟨e1,e2⟩:=Bool.and_eq_true_iff.mp e
 have e3:=List.all_eq_true.mp e2
 refine ⟨⟨fun c hc=>?_⟩,(iI e1).2,(iI e1).1⟩
 obtain ⟨C,hm⟩:=rB hx hc
 have q:=e3 _ hm
 unfold EL at q
 simp only[OQ,decide_eq_true_eq] at q
 obtain ⟨⟨⟨⟨⟨⟨⟨⟨⟨⟨⟨q1,q2⟩,q3⟩,q4⟩,q5⟩,q6⟩,q7⟩,q8⟩,q9⟩,q10⟩,q11⟩,q12⟩:=q
 refine ⟨C,(iI q1).1,⟨q3,q4,q5,q6,q7,q8,q9,q10,fun cn hcn=>?_,q11⟩,(iI q1).2,q2⟩
 obtain ⟨D',hm'⟩:=rB hx hcn
 have z:=List.all_eq_true.mp q12 _ hm'
 have z2:=e3 _ hm'
 unfold EL at z2
 simp only[OQ] at z2
 refine ⟨D',(iI z2.1.1.1.1.1.1.1.1.1.1.1).1,?_⟩
 rw[AY hcn]
 exact of_decide_eq_true z
theorem rC  (ec:aQ K (.cls c C)=aR w (.cls c C)) (e:aQ K (.me C m x qual f st)=aR w (.me C m x qual f st))
 (ck:eB (aa st) fn.ns true fn.body (ay st)) (sc:aN fn.ns fn.ps (aa st):=by constructor<;>first|rfl|decide +kernel) (hb:BdT x qual st fn:=by intro _ _ _ _ _ _ us hl;first|(obtain ⟨a0,a1,rfl⟩:=AU hl;rfl)|(obtain ⟨a0,rfl⟩:=DR hl;rfl)|(obtain ⟨a0,a1,a2,rfl⟩:=xm hl;rfl)|(obtain ⟨a0,a1,a2,a3,rfl⟩:=AV hl;rfl)) (tg:ja fn.ns=true:=by decide +kernel):qK K c m fn:=by
 have hC:=rA ec
 simp only[aQ,aR,Ov.fn.injEq] at e
 obtain ⟨e1,e2⟩:=e
 obtain ⟨fd,F,kV,doc,pm,an,cdv,ct,rfl⟩:=j9 e2
 have e1':meB K C m f=true:=by
  cases q:meB K C m f with
  | true=>rfl
  | false=>rw[q] at e1;cases e1
 simp only[meB,OQ,decide_eq_true_eq] at e1'
 exact ⟨C,f,_,x,qual,st,hC,⟨e1'.1,e1'.2,F.kp⟩,F,sc,F.binds hb,ck,kg tg⟩
theorem lg (X:K.In h) (G:h.Ns O4 mg)  (e:aQ K (.fn x f st)=aR w (.fn x f st))
 (k:CkB x x st fn) {b:BT.S} (ck:eB (aa st) fn.ns true b (ay st))
 (tg:∀ fd,PB K O4 x=some (some (.ref f))->(∃ oc od sl,K.lookup f=some ⟨oc,od,.func fd,sl⟩)->gr K x fd fn):zN K mg x ⟨fn.ps,fn.ns,b⟩:=by
 simp only[aQ,aR,Ov.fn.injEq] at e
 obtain ⟨fd,F,kV,doc,pm,an,cdv,ct,rfl⟩:=j9 e.2
 refine ⟨f,_,st,PR X G (iH e.1),F,k.sc,F.binds k.bd,ck,tg _ (iH e.1) ?_⟩
 obtain ⟨oc,od,kV,doc,pm,an,cdv,ct,osl,e1,lk,_⟩:=F.ex
 exact ⟨oc,od,osl,lk⟩
theorem DT {TX:BT.FK->Option BT.Fn} (X:K.In h) (Gh:h.Ns O4 mg) (e:aQ K (.exc D xs)=aR w (.exc D xs)) (hx:xs.map (·.1)=kh) (df:∀ x fn,TX (.f x)=some fn->zN K mg x fn) (me:∀ c m fn,TX (.m c m)=some fn->qK K c m fn):wJ K mg TX :=
 ⟨df,me,fun c hc=>by
  obtain ⟨C,h1,_,h3,_⟩:=(vp e hx).1.all c hc
  exact ⟨C,h1,PR X Gh h1,h3⟩⟩
noncomputable def DU:List Sx->List Sx
 | [.Try b _ _ _ _]=>b
 | _=>[]
theorem AZ {T TX:BT.FK->Option BT.Fn}{G:Str->Option BT.W} (X:K.In h) (Gh:h.Ns O4 mg) (XT:Txt P w K mg T G) (YT:wJ K mg TX) (e:aQ K (.exc D xs)=aR w (.exc D xs)) (hx:xs.map (·.1)=kh)
 {i:Nat}{fnr:BT.Fn}{n rn tn:Str}{fr:OR}{str:Sx}{p1 p2 p3 p5 p6 hp pos:Pos} (et:aQ K (.fn tn f st)=aR w (.fn tn f st)) (er:aQ K (.fn rn fr str)=aR w (.fn rn fr str))
 (hB:ay st=[.Try (DU (ay st)) [.ExceptHandler (some (.Name "TapeError" p1)) (some n) [.Return (some (.Call (.Name rn p2) [.Name n p3] [] p5)) p6] hp] [] [] pos])
 (h6:eB (aa st) fn.ns false fn.body (DU (ay st))) (hi:fn.ns[i]?=some n) (hln:(aa st).names.lookup n=some .local)
 (hgD:aE (aa st) "TapeError"=true) (hgR:aE (aa st) rn=true) (kr:CkB rn rn str fnr)
 (h5:CSs (aa st) fn.ns fn.body (DU (ay st)):=by repeat' (first|rfl|constructor|decide +kernel)) (s3:aN fn.ns fn.ps (aa st):=by constructor<;>first|rfl|decide +kernel)
 (hb:BdT tn tn st fn:=by intro _ _ _ _ _ _ us hl;first|(obtain ⟨a0,a1,rfl⟩:=AU hl;rfl)|(obtain ⟨a0,a1,a2,rfl⟩:=xm hl;rfl)|(obtain ⟨a0,a1,a2,a3,rfl⟩:=AV hl;rfl))
 (tg:ja fn.ns=true:=by decide +kernel) (okn:aH n=true:=by decide +kernel) (okR:aH rn=true:=by decide +kernel) (tgr:ja fnr.ns=true:=by decide +kernel) (hur:cR fnr.ns=false:=by decide +kernel) :
 ∃ fa fd ps,mg tn=some (.ref fa)/\Po K (.ref fa)=true/\Binds K fd ps []/\∀ base,cK P w K mg base CX0 (2*(k+1)) fa fd ps (spF P w K (iY (BT.runN T G k) (BT.dw T TX G k) (BT.dk T) G fn fnr)):=by
 obtain ⟨z1,z2,z3⟩:=vp e hx
 simp only[aQ,aR,Ov.fn.injEq] at et er
 obtain ⟨fd,F,kV,doc,pm,an,cdv,ct,rfl⟩:=j9 et.2
 obtain ⟨fdr,FR,kVr,docr,pmr,anr,cdvr,ctr,rfl⟩:=j9 er.2
 refine ⟨f,_,fn.ps,PR X Gh (iH et.1),F.kp,F.binds hb,fun base=>?_⟩
 exact zT XT YT z1 F s3 hB h5 h6 (iG tg) hi hln okn hgD (by decide) (PR X Gh z3) z2 hgR okR (PR X Gh (iH er.1)) FR.kp (FR.binds kr.bd) (GW (k:=0) XT.blt FR kr.sc kr.ck hur (iG tgr))
end
theorem A6 {l:PySem.W.OpenLaw}{n:Nat}{q:OU}{loose:List Str}{XP:(Str->Option Value)->Heap->Prop}{d:DefRec}{as:List OR}{qs:List Qy}{ts:List OR}{tl:List (Str×OR×OR)}{T:BT.FK->Option BT.Fn}{G:Str->Option BT.W}{tn:Str}{told:List BT.W->BT.HH->Option (BT.W×BT.HH)}
 (hn:l.most=some n) (hn2:n<=sizeLine) (hdf:d.params.defaults=[]) (hr:bx (2*k+1+1) UU) (hps:fn.ps=[x]) (hT:T (.f d.name)=some fn) (hts:ts=tl.map (·.2.2)) (hto:tl.all (fun p=>!as.contains p.2.2)=true)
 (FT:∀ (w:Pa) (K:OM),(∀ q∈qs,aQ K q=aR w q)->DS K tl)
 (F:∀ (P:OU) (w:Pa) (mg:Str->Option Value) (K:OM) (h:Heap),K.In h->h.Ns O4 mg->(∀ q∈qs,aQ K q=aR w q)->Txt P w K mg T G)
 (FX:∀ (P:OU) (w:Pa) (mg:Str->Option Value) (K:OM) (h:Heap),K.In h->h.Ns O4 mg->(∀ q∈qs,aQ K q=aR w q)->∃ fa fd ps,mg tn=some (.ref fa)/\Po K (.ref fa)=true/\Binds K fd ps []/\∀ base,cK P w K mg base CX0 (2*k) fa fd ps (spF P w K told))
 (hrun:∀ ns:List Int,ns.length<=n->∃ h',j6 (jJ tn told (BT.runN T G k)) G fn [.p (.lst (BT.ah ns))] []=some (.p (.bl true),h')) :
 PySem.W.WalkO q loose XP (sees as qs ts).says l.row.toRowW d [] (fun f vs=>UW f vs):=by
 refine Att.qf hn hdf fun w s₀ s₁ mg mb fa o pm cd doc a vs ns Gr Y ho hd hcd hmg hobj hints hlen hg=>?_
 obtain ⟨K,k0,k1,k2,k3⟩:=Y
 have KX:=DO k1
 have X:=F l.prog w mg K s₁.heap KX Gr.T.g k2
 obtain ⟨fa',fd',ps',t1,t2,t3,t4⟩:=FX l.prog w mg K s₁.heap KX Gr.T.g k2
 obtain ⟨f,fd,st,h1,h2,h3,h4,h5,h6⟩:=(X.defs _ fn hT).ex
 rw[hmg] at h1
 cases h1
 refine xo (sp:=spF l.prog w K (j6 (jJ tn told (BT.runN T G k)) G fn)) (x:=x) (k:=2*k+1+1) (fd:=fd) (tl:=tl) KX Gr.T.g Gr.T.b Gr.T.builtins Gr.T.nolimit hg hobj hints (PL hlen hn2) hr (FT w K k2) (fun p hp=>k3 _ (by rw[hts];exact UJ hp)) (fun p hp=>?_) (fun base=>?_) (fun s u hK=>?_) (fun H tb hS=>AM tb hS (hrun ns hlen))
 ·cases e:K.lookup p.2.2 with
  | none=>rfl
  | some o =>
   have m:=tH e
   rw[k0] at m
   have:=List.all_eq_true.mp hto p hp
   rw[List.contains_iff_mem.mpr m] at this;cases this
 ·have:=zQ (base:=base) X k h2 h3 h5 h6 t1 t2 t3 (t4 base)
  rw[hps] at this
  exact this
 ·have:=h4 s [u] hK (by rw[hps];rfl)
  rw[hps] at this
  exact this
end BG
end
section
namespace BL
open PySem PySem.Spec PyProof.Rows L2 BS BF BG
theorem ck6:CkB "is_whole" "is_whole" (top 6) BT.dU:={}
theorem ck7:CkB "is_name" "is_name" (top 7) BT.dB:={}
theorem ck8:CkB "is_cell" "is_cell" (top 8) BT.fz:={}
theorem ck9:CkB "inner_sums" "inner_sums" (top 9) BT.cz:={}
theorem ND:CkB "begun" "begun" (top 24) BT.jK:={}
theorem KO:CkB "check_thing" "check_thing" (top 25) BT.bC:={}
theorem NF:CkB "worth_in" "worth_in" (top 26) BT.fR:={}
theorem NG:CkB "laid_out" "laid_out" (top 27) BT.fQ:={}
theorem NH:CkB "of_two" "of_two" (top 28) BT.iU:={}
theorem NI:CkB "worth_of" "worth_of" (top 29) BT.bW:={}
theorem NJ:CkB "reckoned" "reckoned" (top 30) BT.fS:={}
theorem NK:CkB "cell_by" "cell_by" (top 31) BT.gF:={}
theorem NL:CkB "is_over" "is_over" (top 32) BT.fu:={}
theorem NN:CkB "place_behind" "place_behind" (top 33) BT.cH:={}
theorem NO:CkB "with_worth" "with_worth" (top 34) BT.dM:={}
theorem NP:CkB "with_name" "with_name" (top 35) BT.eH:={}
theorem NQ:CkB "brought" "brought" (top 36) BT.fy:={}
theorem NR:CkB "stepped" "stepped" (top 37) BT.gG:={}
theorem NS:CkB "written_by" "written_by" (top 39) BT.cC:={}
theorem NT:CkB "written_next" "written_next" (top 40) BT.bP:={}
theorem KP:CkB "check_step" "check_step" (top 41) BT.aD:={}
theorem KQ:CkB "thing_written" "thing_written" (top 42) BT.bD:={}
theorem DV:CkB "writer_of" "writer_of" (top 43) BT.aP:={}
theorem NU:CkB "_law_cell" "_law_cell" (top 48) BT.dS:={}
theorem NV:CkB "_law_drawn" "_law_drawn" (top 49) BT.eN:={}
theorem NW:CkB "_law_sum" "_law_sum" (top 50) BT.cN:={}
theorem NX:CkB "_law_row" "_law_row" (top 51) BT.gH:={}
theorem NY:CkB "_law_program" "_law_program" (top 52) BT.aY:={}
theorem NZ:CkB "_law_asked" "_law_asked" (top 53) BT.eS:={}
theorem N3:CkB "_law_worth" "_law_worth" (top 54) BT.bK:={}
theorem N4:CkB "_law_is_over" "_law_is_over" (top 55) BT.aT:={}
theorem N5:CkB "_law_write" "_law_write" (top 56) BT.bL:={}
theorem N6:CkB "_law_put" "_law_put" (top 57) BT.kG:={}
theorem N7:CkB "_law_step" "_law_step" (top 58) BT.fU:={}
theorem N8:CkB "_law_states" "_law_states" (top 59) BT.dO:={}
theorem N9:CkB "_law_thing" "_law_thing" (top 60) BT.c5:={}
theorem KR:CkB "_law_refused" "_law_refused" (top 62) BT.aU:={}
theorem Oa:CkB "law" "law" (top 64) BT.fB:={}
theorem HF:CkB "__init__" "Tape.__init__" (ef 46 0) BT.eV:={}
theorem HG:CkB "at" "Tape.at" (ef 46 1) BT.gI:={}
theorem DW:CkB "behind" "Tape.behind" (ef 46 10) BT.cX:={}
theorem DX:CkB "is_last" "Tape.is_last" (ef 46 11) BT.bO:={}
theorem DY:CkB "keep" "Tape.keep" (ef 46 12) BT.cY:={}
theorem DZ:CkB "reach" "Tape.reach" (ef 46 13) BT.dN:={}
theorem D0:CkB "has" "Tape.has" (ef 46 14) BT.cS:={}
theorem D3:CkB "check" "Tape.check" (ef 46 15) BT.cB:={}
theorem D4:CkB "last_to" "Tape.last_to" (ef 46 19) BT.cJ:={}
theorem D5:CkB "last_between" "Tape.last_between" (ef 46 20) BT.bf:={}
noncomputable def tab:List (BT.FK×BT.Fn):=[(.f "is_whole",BT.dU),(.f "is_name",BT.dB),(.f "is_cell",BT.fz),(.f "inner_sums",BT.cz),(.f "begun",BT.jK),(.f "check_thing",BT.bC),(.f "worth_in",BT.fR),(.f "laid_out",BT.fQ),(.f "of_two",BT.iU),(.f "worth_of",BT.bW),(.f "reckoned",BT.fS),(.f "cell_by",BT.gF),(.f "is_over",BT.fu),(.f "place_behind",BT.cH),(.f "with_worth",BT.dM),(.f "with_name",BT.eH),(.f "brought",BT.fy),(.f "stepped",BT.gG),(.f "written_by",BT.cC),(.f "written_next",BT.bP),(.f "check_step",BT.aD),(.f "thing_written",BT.bD),(.f "writer_of",BT.aP),(.f "_law_cell",BT.dS),(.f "_law_drawn",BT.eN),(.f "_law_sum",BT.cN),(.f "_law_row",BT.gH),(.f "_law_program",BT.aY),(.f "_law_asked",BT.eS),(.f "_law_worth",BT.bK),(.f "_law_is_over",BT.aT),(.f "_law_write",BT.bL),(.f "_law_put",BT.kG),(.f "_law_step",BT.fU),(.f "_law_states",BT.dO),(.f "_law_thing",BT.c5),(.f "_law_refused",BT.aU),(.f "law",BT.fB),(.m "Tape" "__init__",BT.eV),(.m "Tape" "at",BT.gI),(.m "Tape" "behind",BT.cX),(.m "Tape" "is_last",BT.bO),(.m "Tape" "keep",BT.cY),(.m "Tape" "reach",BT.dN),(.m "Tape" "has",BT.cS),(.m "Tape" "check",BT.cB),(.m "Tape" "last_to",BT.cJ),(.m "Tape" "last_between",BT.bf),(.l 12,BT.ue)]
noncomputable def glo:List (Str×BT.W):=[("CELL_COUNT",.p (.int 4)),("WORTH_COUNT",.p (.int 10007)),("ROW",.p (.int 0)),("NAMES",.p (.int 1)),("CELLS",.p (.int 2)),("CALLS",.p (.int 3)),("ASKED",.p (.int 4)),("SAID",.p (.int 5)),("MOST_CALLS",.p (.int 6)),("MOST_MARKS",.p (.int 8)),("LETTERS",.p (.tup ((["a","b","c","d","e","f"]:List Str).map BT.D.str))),("INNER_COUNTS",.k (([("num",0),("name",0),("cell",1),("add",2),("sub",2),("mul",2),("less",2)]:List (Str×Int)).map fun q=>(q.1,BT.D.int q.2)))]
noncomputable abbrev T:BT.FK->Option BT.Fn:=look tab
noncomputable abbrev G:Str->Option BT.W:=look glo
noncomputable def A7:List (BT.FK×BT.Fn):=[(.m "Tape" "check",BT.iF),(.m "Tape" "at",BT.ve),(.f "check_thing",BT.bX),(.f "check_step",BT.aD),(.f "thing_written",BT.bE),(.f "writer_of",BT.b8)]
noncomputable abbrev TX:BT.FK->Option BT.Fn:=look A7
theorem prg:BT.Prg T G:=⟨rfl,rfl,rfl,rfl,rfl,rfl,rfl,rfl,rfl,rfl,rfl,rfl,rfl,rfl,rfl,rfl,rfl,rfl,rfl,rfl,rfl,rfl,rfl,rfl,rfl,rfl⟩
theorem tpp:BT.TpP T G:=⟨prg,rfl,rfl,rfl,rfl,rfl,rfl,rfl,rfl,rfl,rfl⟩
theorem Ob:BT.jP T TX G:=⟨⟨rfl,rfl,rfl,rfl,rfl⟩,rfl,⟨rfl,rfl,rfl,⟨_,rfl⟩,rfl,rfl⟩,rfl,⟨rfl,rfl⟩,⟨rfl,rfl,rfl,rfl,rfl,rfl⟩,⟨rfl,rfl⟩,⟨rfl,rfl⟩,⟨rfl⟩,⟨rfl,rfl,rfl⟩⟩
theorem run (ns:List Int) (h:ns.length<=1000):∃ h',j6 (jJ "_law_told" (BT.c6 T TX G 39) (BT.runN T G 40)) G BT.fB [.p (.lst (BT.ah ns))] []=some (.p (.bl true),h') :=
 BT.xg (T:=T) (TX:=TX) (G:=G) (k:=22) (F:=jJ "_law_told" (BT.c6 T TX G 39) (BT.runN T G 40)) tpp Ob ⟨fun _ _=>rfl,fun y hy=>uP hy,qL⟩ ns h
theorem HJ (w:Pa) (K:OM) (hq:∀ q∈qys,aQ K q=aR w q):DS K tl:=by
 refine ⟨fun z hz=>?_,fun p hp=>?_⟩
 ·simp only[BT.dH,PY,PD,or_false] at hz
  rcases hz with rfl|rfl|rfl|rfl|rfl|rfl|rfl|rfl|rfl|rfl|rfl|rfl|rfl|rfl|rfl
  ·exact .inr (bg (w:=w) (hn hq 70 rfl))
  ·exact .inr (bg (w:=w) (hn hq 71 rfl))
  ·exact .inr (bg (w:=w) (hn hq 72 rfl))
  ·exact .inr (bg (w:=w) (hn hq 73 rfl))
  ·exact .inr (bg (w:=w) (hn hq 74 rfl))
  ·exact .inr (bg (w:=w) (hn hq 75 rfl))
  ·exact .inr (bg (w:=w) (hn hq 76 rfl))
  ·exact .inr (bg (w:=w) (hn hq 77 rfl))
  ·exact .inr (bg (w:=w) (hn hq 78 rfl))
  ·exact .inr (bg (w:=w) (hn hq 79 rfl))
  ·exact .inr (bg (w:=w) (hn hq 80 rfl))
  ·exact .inr (bg (w:=w) (hn hq 81 rfl))
  ·exact .inl ⟨244,240,nth 0 rfl,(pP (w:=w) (hn hq 82 rfl)).1⟩
  ·exact .inr (bg (w:=w) (hn hq 83 rfl))
  ·exact .inr (bg (w:=w) (hn hq 84 rfl))
 ·simp only[tl,PY,PD,or_false] at hp
  rcases hp with rfl
  ·exact (pP (w:=w) (hn hq 82 rfl)).2
theorem txt (P:OU) (w:Pa) (mg:Str->Option Value) (K:OM) (h:Heap) (X:K.In h) (Gh:h.Ns O4 mg) (hq:∀ q∈qys,aQ K q=aR w q):Txt P w K mg T G:=by
 have tbf:=HJ w K hq
 have all:∀ p∈tab,oz K mg p:=by
  intro p hp
  simp only[tab,PY,PD,or_false] at hp
  rcases hp with rfl|rfl|rfl|rfl|rfl|rfl|rfl|rfl|rfl|rfl|rfl|rfl|rfl|rfl|rfl|rfl|rfl|rfl|rfl|rfl|rfl|rfl|rfl|rfl|rfl|rfl|rfl|rfl|rfl|rfl|rfl|rfl|rfl|rfl|rfl|rfl|rfl|rfl|rfl|rfl|rfl|rfl|rfl|rfl|rfl|rfl|rfl|rfl|rfl
  ·exact dd0 X Gh (hn hq 0 rfl) ck6
  ·exact dd0 X Gh (hn hq 1 rfl) ck7
  ·exact dd0 X Gh (hn hq 2 rfl) ck8
  ·exact dd0 X Gh (hn hq 3 rfl) ck9
  ·exact dd0 X Gh (hn hq 4 rfl) ND
  ·exact dd0 X Gh (hn hq 5 rfl) KO
  ·exact dd0 X Gh (hn hq 6 rfl) NF
  ·exact dd0 X Gh (hn hq 7 rfl) NG
  ·exact dd0 X Gh (hn hq 8 rfl) NH
  ·exact dd0 X Gh (hn hq 9 rfl) NI
  ·exact dd0 X Gh (hn hq 10 rfl) NJ
  ·exact dd0 X Gh (hn hq 11 rfl) NK
  ·exact dd0 X Gh (hn hq 12 rfl) NL
  ·exact dd0 X Gh (hn hq 13 rfl) NN
  ·exact dd0 X Gh (hn hq 14 rfl) NO
  ·exact dd0 X Gh (hn hq 15 rfl) NP
  ·exact dd0 X Gh (hn hq 16 rfl) NQ
  ·exact dd0 X Gh (hn hq 17 rfl) NR
  ·exact dd0 X Gh (hn hq 18 rfl) NS
  ·exact dd0 X Gh (hn hq 19 rfl) NT
  ·exact dd0 X Gh (hn hq 20 rfl) KP
  ·exact dd0 X Gh (hn hq 21 rfl) KQ
  ·exact dd (AN X Gh (hn hq 22 rfl) DV.sc DV.bd DV.ck (vo (f:=245) (ns:=BT.aP.ns.dropLast) dk dk dk tbf dk (nth 0 rfl) (hn hq 82 rfl) (hn hq 85 rfl)))
  ·exact dd0 X Gh (hn hq 23 rfl) NU
  ·exact dd0 X Gh (hn hq 24 rfl) NV
  ·exact dd0 X Gh (hn hq 25 rfl) NW
  ·exact dd0 X Gh (hn hq 26 rfl) NX
  ·exact dd0 X Gh (hn hq 27 rfl) NY
  ·exact dd0 X Gh (hn hq 28 rfl) NZ
  ·exact dd0 X Gh (hn hq 29 rfl) N3
  ·exact dd0 X Gh (hn hq 30 rfl) N4
  ·exact dd0 X Gh (hn hq 31 rfl) N5
  ·exact dd0 X Gh (hn hq 32 rfl) N6
  ·exact dd0 X Gh (hn hq 33 rfl) N7
  ·exact dd0 X Gh (hn hq 34 rfl) N8
  ·exact dd0 X Gh (hn hq 35 rfl) N9
  ·exact dd0 X Gh (hn hq 36 rfl) KR
  ·exact dd0 X Gh (hn hq 37 rfl) Oa
  ·exact dm0 X Gh (hn hq 86 rfl) (hn hq 87 rfl) (hn hq 88 rfl) HF
  ·exact dm0 X Gh (hn hq 86 rfl) (hn hq 87 rfl) (hn hq 89 rfl) HG
  ·exact dm0 X Gh (hn hq 86 rfl) (hn hq 87 rfl) (hn hq 90 rfl) DW
  ·exact dm0 X Gh (hn hq 86 rfl) (hn hq 87 rfl) (hn hq 91 rfl) DX
  ·exact dm0 X Gh (hn hq 86 rfl) (hn hq 87 rfl) (hn hq 92 rfl) DY
  ·exact dm0 X Gh (hn hq 86 rfl) (hn hq 87 rfl) (hn hq 93 rfl) DZ
  ·exact dm0 X Gh (hn hq 86 rfl) (hn hq 87 rfl) (hn hq 94 rfl) D0
  ·exact dm0 X Gh (hn hq 86 rfl) (hn hq 87 rfl) (hn hq 95 rfl) D3
  ·exact dm0 X Gh (hn hq 86 rfl) (hn hq 87 rfl) (hn hq 96 rfl) D4
  ·exact dm0 X Gh (hn hq 86 rfl) (hn hq 87 rfl) (hn hq 97 rfl) D5
  ·exact dl rfl (by decide +kernel)
 refine ⟨fun x fn e=>?_,fun c m fn e=>?_,fun L fn e=>?_,fun x z e=>?_,fun x hx=>?_⟩
 ·exact fC (Q:=fun k fn=>∀ x,k=.f x->Def K mg x fn) (l:=tab) (fun p hp=>(all p hp).1) e x rfl
 ·exact fC (Q:=fun k fn=>∀ c m,k=.m c m->zF K mg c m fn) (l:=tab) (fun p hp=>(all p hp).2.1) e c m rfl
 ·exact fC (Q:=fun k fn=>∀ L,k=.l L->BT.lQ L=some fn/\∃ ns bt,fn=⟨ns,ns,.ret bt⟩/\∀ y,ns.contains (BT.bA y)=false) (l:=tab) (fun p hp=>(all p hp).2.2) e L rfl
 ·refine fC (Q:=fun x z=>tG P w K mg x z) (l:=glo) (fun p hp=>?_) e
  simp only[glo,PY,PD,or_false] at hp
  rcases hp with rfl|rfl|rfl|rfl|rfl|rfl|rfl|rfl|rfl|rfl|rfl|rfl
  ·exact cD X Gh (hn hq 38 rfl)
  ·exact cD X Gh (hn hq 39 rfl)
  ·exact cD X Gh (hn hq 40 rfl)
  ·exact cD X Gh (hn hq 41 rfl)
  ·exact cD X Gh (hn hq 42 rfl)
  ·exact cD X Gh (hn hq 43 rfl)
  ·exact cD X Gh (hn hq 44 rfl)
  ·exact cD X Gh (hn hq 45 rfl)
  ·exact cD X Gh (hn hq 46 rfl)
  ·exact cD X Gh (hn hq 47 rfl)
  ·exact AR X Gh (hn hq 48 rfl) (by decide) (by decide +kernel)
  ·exact AS X Gh (hn hq 49 rfl) (by decide) (by decide +kernel)
 ·simp only[Ck,PY,PD,or_false] at hx
  rcases hx with rfl|rfl|rfl|rfl|rfl|rfl|rfl|rfl|rfl|rfl|rfl|rfl|rfl|rfl|rfl|rfl|rfl|rfl|rfl|rfl
  ·exact none_of X Gh (hn hq 50 rfl)
  ·exact none_of X Gh (hn hq 51 rfl)
  ·exact none_of X Gh (hn hq 52 rfl)
  ·exact none_of X Gh (hn hq 53 rfl)
  ·exact none_of X Gh (hn hq 54 rfl)
  ·exact none_of X Gh (hn hq 55 rfl)
  ·exact none_of X Gh (hn hq 56 rfl)
  ·exact none_of X Gh (hn hq 57 rfl)
  ·exact none_of X Gh (hn hq 58 rfl)
  ·exact none_of X Gh (hn hq 59 rfl)
  ·exact none_of X Gh (hn hq 60 rfl)
  ·exact none_of X Gh (hn hq 61 rfl)
  ·exact none_of X Gh (hn hq 62 rfl)
  ·exact none_of X Gh (hn hq 63 rfl)
  ·exact none_of X Gh (hn hq 64 rfl)
  ·exact none_of X Gh (hn hq 65 rfl)
  ·exact none_of X Gh (hn hq 66 rfl)
  ·exact none_of X Gh (hn hq 67 rfl)
  ·exact none_of X Gh (hn hq 68 rfl)
  ·exact none_of X Gh (hn hq 69 rfl)
theorem cxT:eB (aa (top 63)) BT.aS.ns false BT.aS.body (DU (ay (top 63))):=.cons ce (.ife rfl ce (.one (.ret (.call rfl (by decide +kernel) ce (.cons rfl ce (.no rfl) (.cons rfl ce (.no rfl) .nil))))) .nil) (.one (.ret (.call rfl (by decide +kernel) ce (.cons rfl ce (.no rfl) (.cons rfl ce (.no rfl) (.cons rfl ce (.no rfl) .nil))))))
theorem D6:eB (aa (ef 46 15)) BT.iF.ns true BT.iF.body (ay (ef 46 15)):=.one (.ife rfl ce (.one (.rai rfl rfl rfl rfl rfl (by decide +kernel) ce)) .nil)
theorem HK:eB (aa (ef 46 1)) BT.ve.ns true BT.ve.body (ay (ef 46 1)):=.cons ce (.ex rfl (.meth rfl rfl (by decide) ce ce)) .bads
theorem Oc:eB (aa (top 25)) BT.bX.ns true BT.bX.body (ay (top 25)):=.one (.ife rfl ce (.one (.rai rfl rfl rfl rfl rfl (by decide +kernel) ce)) .nil)
theorem Od:eB (aa (top 41)) BT.aD.ns true BT.aD.body (ay (top 41)):=.cons ce (.ex rfl (.meth rfl rfl (by decide) ce ce)) (.one (.ex rfl (.meth rfl rfl (by decide) ce ce)))
theorem Oe:eB (aa (top 42)) BT.bE.ns true BT.bE.body (ay (top 42)):=.cons ce (.ex rfl (.call rfl (by decide +kernel) ce (.cons rfl ce (.no rfl) (.cons rfl ce (.no rfl) .nil)))) .bads
theorem Of:eB (aa (top 43)) BT.b8.ns true BT.b8.body (ay (top 43)):=.cons ce (.ex rfl (.call rfl (by decide +kernel) ce (.cons rfl ce (.no rfl) .nil))) (.cons ce (.ex rfl (.meth rfl rfl (by decide) ce ce)) .bads)
theorem txX (w:Pa) (mg:Str->Option Value) (K:OM) (h:Heap) (X:K.In h) (Gh:h.Ns O4 mg) (hq:∀ q∈qys,aQ K q=aR w q):wJ K mg TX:=by
 have all:∀ p∈A7,(∀ x,p.1=.f x->zN K mg x p.2)/\∀ c m,p.1=.m c m->qK K c m p.2:=by
  intro p hp
  simp only[A7,PY,PD,or_false] at hp
  rcases hp with rfl|rfl|rfl|rfl|rfl|rfl
  ·exact ⟨fun x e=>(by cases e),fun c m e=>by cases e;exact rC (hn hq 86 rfl) (hn hq 95 rfl) D6⟩
  ·exact ⟨fun x e=>(by cases e),fun c m e=>by cases e;exact rC (hn hq 86 rfl) (hn hq 89 rfl) HK⟩
  ·exact ⟨fun x e=>by cases e;exact lg X Gh (hn hq 5 rfl) KO Oc (fun _ _ _=>kg dk),fun c m e=>by cases e⟩
  ·exact ⟨fun x e=>by cases e;exact lg X Gh (hn hq 20 rfl) KP Od (fun _ _ _=>kg dk),fun c m e=>by cases e⟩
  ·exact ⟨fun x e=>by cases e;exact lg X Gh (hn hq 21 rfl) KQ Oe (fun _ _ _=>kg dk),fun c m e=>by cases e⟩
  ·exact ⟨fun x e=>by cases e;exact lg X Gh (hn hq 22 rfl) DV Of (vo (f:=245) (ns:=BT.aP.ns.dropLast) dk dk dk (HJ w K hq) dk (nth 0 rfl) (hn hq 82 rfl) (hn hq 85 rfl)),fun c m e=>by cases e⟩
 refine DT X Gh (hn hq 99 rfl) rfl (fun x fn e=>?_) fun c m fn e=>?_
 ·exact fC (Q:=fun k fn=>∀ x,k=.f x->zN K mg x fn) (l:=A7) (fun p hp=>(all p hp).1) e x rfl
 ·exact fC (Q:=fun k fn=>∀ c m,k=.m c m->qK K c m fn) (l:=A7) (fun p hp=>(all p hp).2) e c m rfl
theorem tld (P:OU) (w:Pa) (mg:Str->Option Value) (K:OM) (h:Heap) (X:K.In h) (Gh:h.Ns O4 mg) (hq:∀ q∈qys,aQ K q=aR w q) :
 ∃ fa fd ps,mg "_law_told"=some (.ref fa)/\Po K (.ref fa)=true/\Binds K fd ps []/\∀ base,cK P w K mg base CX0 (2*40) fa fd ps (spF P w K (BT.c6 T TX G 39)) :=
 AZ (i:=4) X Gh (txt P w mg K h X Gh hq) (txX w mg K h X Gh hq) (hn hq 99 rfl) rfl (hn hq 98 rfl) (hn hq 36 rfl) rfl cxT rfl rfl rfl rfl KR
noncomputable abbrev lw:DefRec:=⟨"law",cE (top 64),ay (top 64),aa (top 64),LY (top 64)⟩
theorem df:PySem.W.defOf qg "law"=some (lw,[]):=by kernel_rfl
theorem th:pg.theDef "law"=some (lw.params,lw.body,lw.scope):=by kernel_rfl
theorem walk:PySem.W.WalkO qg loo (PySem.W.XL qg []) (sees adr qys tas).says PySem.Challenge.rw_backtape_k50_writers.row.toRowW lw [] (fun f vs=>UW f vs) :=
 A6 (l:=PySem.Challenge.rw_backtape_k50_writers) (n:=63) (k:=40) (x:="_law_script") (d:=lw) (T:=T) (G:=G) (ts:=tas) (fn:=BT.fB) rfl (by decide) rfl ⟨rfl,by decide,by decide⟩ rfl rfl (tl:=tl) rfl (by decide +kernel) HJ txt tld fun ns hl=>run ns (by lia)
end BL
open PySem PySem.W PyProof.Rows
set_option maxRecDepth 100000 in
set_option maxHeartbeats 0 in
theorem PySem.Challenge.cw_backtape_k50_writers_holds : PySem.Challenge.rw_backtape_k50_writers.Holds := by
 w_on;refine PySem.W.holds_law (by decide +kernel) fun said=>?_
 refine PySem.W.holds_open (q:=BL.qg) (loose:=BL.loo) (XP:=XL BL.qg []) (YP:=(BG.sees BL.adr BL.qys BL.tas).says) (d:=BL.lw) (kwd:=[]) BL.left (BG.sees BL.adr BL.qys BL.tas).of (BG.sees BL.adr BL.qys BL.tas).keeps (fun s e=>xl_of s (Bool.and_eq_true_iff.mp e).1) XL.keeps BL.df BL.th (by kernel_rfl) (fun s e=>recFacts_of (Bool.and_eq_true_iff.mp e).2) rfl (by first|assumption|decide +kernel) (by decide +kernel) ⟨rfl,rfl,rfl,rfl,rfl,by decide +kernel⟩ ?hw BL.walk
 (case hw=>w_witness2)
#print axioms PySem.Challenge.cw_backtape_k50_writers_holds
end
end

import PyProof.Rows.All
import Wide.All
import OpenK.AllK
import Wide.FinOn
import PyProof.EqAt
import PyProof.EqKinds
import PyProof.TupleCall
import Open.Tree
import Wide.Once
import KE.KLam
import KE.KNestM
import KE.KIsAll
import OpenK.KMore
import KE.KSortTup
import PyProof.Rows.SetFrom
import PyProof.IsiH_list
import PyProof.Rows.Exc
import KE.KDictOf
import PySem.Syntax
import PySem.Builtin.Str.Common
import PyProof.SliceList
import PyProof.NeData
import PyProof.ExcAttrAll.ValueError
import PyProof.ZipIter
import KE.KRevIter
import KE.KItemsList
import KE.KDictSum
import PyProof.DictWalks
import PyProof.ListRange
import PyProof.EnumFor
import PyProof.EnumMake
import PyProof.EnumStmt
import PyProof.CompFree
import PyProof.PlainList
import KE.KTryDeep
import PyProof.FString
import PyProof.FitsInt
import PyProof.RulesAs
import PyProof.ExcBaseAll.ValueError
import KE.KRevSl
import Lean
import PySem.Challenge.RW_backtape_k12_marks
set_option autoImplicit true
set_option Elab.async false
set_option linter.all false
set_option maxRecDepth 100000
set_option maxHeartbeats 8000000
set_option genSizeOf false
set_option compiler.extract_closed false
set_option bootstrap.genMatcherCode false
noncomputable section
open PySem.W renaming Frag->OX,findIn->PB,keepIn->PK,nsIn->P1,mg_of->P5,emptyDict->Qi,tabIn->Qj,kitOne->Qn,fnOf->Qo,instObj->QH,callWith_K->QW,kia_one->QX,hasDictIn->QZ,tabObj->Q7,methodCall_KW->Rn,plainGet->Rt,codeHd_of_K->RK,envX->RP,kla_obj->Sx,hideAll->Sy,lookIn->SC,codeIn->SD,plainGet_of->SK,hideAll_get->SL,callWith_K0->SM,mroIn->SQ,plainOver->Tf,methodObj->Tg,isFn->To,codeHdIn->Tw,takerIn->TZ,makesIn->T3,byRow2->Ud,absHeap->Um,SharedT->Uo,recOk->Up,excIn->Uq,cellsFrom_some->Uw,xlAt->UC,of_hideAll->UV,specialIn->U5,wideGood->Vc,handedIn->Vd,clsGoodW->Ve,openSeen->Vq,takesIn->Vx
open Bool renaming and_eq_true->OY,false_ne_true->QD,or_eq_true->QL,not_eq_true'->Q6,or_false->UJ
open PySem.Heap renaming get?_push_of_some->OZ,lt_size->O7,get?_push_size->Pf,get?_update_other->P8,size_push->QG,SameBut->Rh,get?_update_self->Rx,MadeExcOf->SV
open PySem renaming wpAny_bind->O0,Expr->O3,Shared->O4,Addr->O9,mainGlobals->Pd,Stmt->Pk,model->Pp,starEach->Pu,Program->Pv,sliceBounds->PM,World->P0,compareOp->P4,Scope->Qc,wpAny_truthy_bool->Qd,wpAny_Call_Name_kw->Qh,FuncData->Qm,binaryOp->Qq,mem_of_lookup->Qt,backTo->Qx,wpAny_holding->QI,sizeLine_eq->QM,wpAny_passesOwn->QT,Around->QV,sysModules->Q0,call_meets->Q9,NameKind->Rj,builtinsNs->Rm,wpAny_loadPart'->Rq,wpAny_newObj_type->RE,spliced->RG,keywordEach->RI,codeAny_mono->RM,wpAny_execs_cons->RU,wpAny_updateSeq->R8,wpAny_execs_nil->Sa,swapsWith->Sb,rawInt->Sd,codeAny_builtin->Se,codeAmong->Sg,bootBuiltins->Ss,wpAny_tryCatch->Sv,wpAny_seqItems->Sw,behindInMarks->SH,attributeBase->SI,wpAny_pyReprObj_gives->S6,wpAny_isTrue_Compare1->S7,letOwnedTupleGo->S9,importedModules->Tc,wpAny_call->Th,sliceRange->Ti,backToKw->Tj,assignEach->Tn,Operator->Tt,wpAny_pyIter_revIter->Tu,wpAny_letGo->TR,excClassObj->TU,argBest->TV,Stmt->TY,Builtin->T6,wpAny_standAt->Ub,getMethod->Uc,DictEntry->Ui,Arguments->Uk,getItem->Ul,Keyword->Ut,wpAny_typeOf->Uu,IsPart->UA,noFill_tuple_add->UB,bindArgs->UG,call_list_range->UL,assign->UM,Within->UN,PassesOwn->UQ,wpAny_loadPart->U0,wpAny_binaryOp_repeat_ref->U1,evalArgs_none->U3,bltViewBooted->U4,wpAny_getItem_list_slice->Va,wpAny_callSpecial?_slot->Vk,wpAny_Call_method0_late->Vl,seq_tuple_add->Vo,rangeSize_one->Vp,intItems->Vr,evalPart_none->Vs,compEnvC->Vt,callerA->Vu,call->Vw
open List renaming size_toArray->O2,getElem?_append_left->O6,getElem?_eq_none->Pa,mem_of_getElem?->Pb,mem_cons_of_mem->Pc,getElem?_eq_getElem->Ph,replicate->Pi,map_cons->Pn,length_cons->Po,mem_cons_self->Pq,length_map->Pr,getElem?_append_right->Py,range->PF,length_append->PJ,getElem?_map->PR,mem_append_right->PV,getElem?_set_ne->PX,append_nil->PY,getElem?_set_self->P7,length_nil->Qe,not_mem_nil->Qf,lookup_cons->Qg,filterMap_cons->Ql,map_map->Qs,replicate_succ->Qv,all_eq_true->Qz,singleton_append->QA,mem_cons->QB,map_nil->QC,range'->QF,getElem?_of_mem->QJ,append_assoc->QK,map_congr_left->QO,getElem?_replicate->QS,flatten_cons->Q5,mem_append_left->Q8,lookup->Re,getElem?_range->Rf,getElem?_take_of_lt->Rg,nil_append->Rk,find?_cons->Rl,range_succ_eq_map->Ro,length_replicate->Rv,eq_nil_of_length_eq_zero->RC,any_cons->RL,length->RT,getD_eq_getElem?_getD->RY,reverse_cons->Sj,head_eq_of_cons_eq->Su,reverse_singleton->SB,of_mem_zip->SE,length_singleton->SG,drop_zero->SS,length_range->TN,range'_succ->T9,length_take->Ua,nodup_nil->Ux,getElem?_eq_none_iff->Uy,drop_eq_getElem_cons->Uz,foldl->UD,sum_cons->UH,all_cons->UI,find?_cons_of_neg->UR,set_set->UW,getElem?_reverse->UX,mem_map_of_mem->Vg,length_reverse->Vh,drop_succ_cons->Vi,zip_cons_cons->VB,contains_cons->VC
open Option.some renaming inj->O5,injEq->RN
open Nat renaming le_refl->O8,lt_of_lt_of_le->Pw,lt_or_ge->Pz,le_trans->PD,ne_of_lt->PL,lt_irrefl->PZ,le_succ->P9,le_of_lt->QE,zero_le->QU,mul_comm->Q3,lt_succ_self->Rc,ne_of_gt->R0,mul_div_cancel->R6,pos_of_mul_pos_right->So,div_add_mod->SN,div_le_div_right->SR,mul_assoc->Tz,lt_of_le_of_lt->TF,lt_trans->T8,zero_add->U6,pow_succ->U7,pow_le_pow_right->Vf,mul_le_mul_left->VA
open PySem.Str renaming ofString->Pe,empty->Tv,ofString_eq_toList->UU
open PyProof.Rows renaming callWith_type1->Pj,slot_tuple_getitem->Qw,envOfC->Rr,plainGoodE->TJ,plainGoodD->TL,expectedOf->TM,AllBare->T7,drecsOf->Ue,Call_->U8,Subscript_->Vb,tail_any->Vm,subscriptTail->Vn,IntsAre->VD
open PySem.Value renaming ref->Px,builtin->RJ,str->Sh,isStrOf->Td,int->Te,none->Uv,bool->Vv
open False renaming elim->PN
open PySem.Calls renaming spliced_cons->PU,spliced_nil->Qa,Name_function_global->RV,callWith_builtin->Sz,loadGlobal_global->UF,evalArgs_plain->UZ,Constant_str->Vj
open PySem.NameKind renaming free->P6,cell->SO
open PySem.Builtin.List renaming listTooLong->Qk,listExtendWith->Rp,listLengthHint->SZ,listSameRef->TH,listItems->T5
open Ne renaming symm->Qp
open Array renaming length_toList->Qu,eq_empty_of_size_eq_zero->TQ,getElem?_toList->US
open PySem.F renaming plainAttrs_list->QN,args_tuple_add_2->RZ,entry_tuple_add->Si,slot_tuple_add->Sk,slot_dict_items->Ur
open PySem.Builtin.Slice renaming slicePlaces->QY,sliceAdjust->Rz,sliceApplied->SY
open PySem.Builtin.Tuple renaming tupleExact->Q2,tupleTooMany->SW,tupleItemsOf->SX
open True renaming intro->Q4
open PySem.Obj renaming mapSeq->Ri
open Option renaming bind_some->Ru,map_some->SA,getD_some->Vy,getD_none->Vz
open List.cons renaming injEq->Ry
open PySem.Around renaming under_plainId->RB,under->UK,frames_deeper->UT
open PySem.Builtin.Range renaming rangeSize->RO
open PySem.Builtin.Str renaming occurrences->RX
open PySem.PassesOwn renaming never->Sn,looking->UO,leaving->UP
open ForInStep renaming yield->Sq
open PySem.IsRange renaming new->T4
open Int renaming natCast_emod->Ug,toNat_of_nonneg->VE
open PySem.Heap.IsSliceOf renaming new->Uh
open Classical renaming axiomOfChoice->Uj
open Prod.mk renaming injEq->Us
open Char renaming toNat->UE
open PySem.Code renaming isFrame->UY
open PySem.AutoSeq1 renaming idx_int->U9
section
namespace L2
open PySem PySem.Spec PyProof.Rows
def b8 (s:TY):Uk:=match s with
 | .FunctionDef _ a _ _ _ _ _ _ _ _=>a
 | _=>{ posonlyargs:=[],args:=[],vararg:=none,kwonlyargs:=[],kw_defaults:=[],kwarg:=none,defaults:=[] }
def aq (s:TY):List TY:=match s with
 | .FunctionDef _ _ b _ _ _ _ _ _ _=>b
 | _=>[]
def aa (s:TY):Qc:=match s with
 | .FunctionDef _ _ _ _ _ _ sc _ _ _=>sc
 | _=>{ kind:=.function,names:=[],isGenerator:=false,isCoroutine:=false }
end L2
end
section
namespace BR
open PySem PySem.W PyProof.Rows
noncomputable def o9:List Obj->BT->Nat->Option (BT×Nat)
 | [],T,n=>some (T,n)
 | o :: r,T,n=>match ((T.ins n o).get n).isSome with
  | true=>o9 r (T.ins n o) (n+1)
  | false=>none
theorem mP (life:Life):∀ {l:List Obj}{T T':BT}{n n':Nat},o9 l T n=some (T',n')->(Um T' n' life).objs.toList=(Um T n life).objs.toList++l
 | [],T,T',n,n',h=>by cases h;simp
 | o :: r,T,T',n,n',h=>by
  unfold o9 at h
  cases g:((T.ins n o).get n).isSome with
  | false=>rw[g] at h;cases h
  | true =>
   rw[g] at h
   rw[mP life h,absHeap_ins g]
   show ((Um T n life).objs.push o).toList++r=_
   simp
noncomputable def toT (s:O4):Option Uo:=match o9 s.heap.objs.toList .nil 0 with
 | some (T,n)=>some ⟨T,n,s.heap.life,s.gens,s.drawn,s.toks,s.os⟩
 | none=>none
theorem A3 (h:toT s=some t):t.abs=s:=by
 unfold toT at h
 cases e:o9 s.heap.objs.toList .nil 0 with
 | none=>rw[e] at h;cases h
 | some r =>
  obtain ⟨T,n⟩:=r
  rw[e] at h
  cases h
  have:=mP s.heap.life e
  obtain ⟨⟨objs,life⟩,g,d,k,o⟩:=s
  show Shared.mk (Um T n life) g d k o=Shared.mk ⟨objs,life⟩ g d k o
  have e2:(Um T n life).objs.toList=objs.toList:=by
   rw[this];simp[Um,BT.list]
  have e3:(Um T n life).objs=objs:=Array.toList_inj.mp e2
  have e4:Um T n life=⟨objs,life⟩:=by
   show Heap.mk _ _=Heap.mk _ _
   exact congrArg (Heap.mk · life) e3
  rw[e4]
noncomputable def ko (tb:String->Option T6) (p:Pv) (w:P0) (n₀:Nat) (ann:Option Value):Nat->Uo->Thread->Option Uo
 | 0,_,_=>none
 | n+1,s,t=>match through t with
  | true=>some s
  | false=>match stepOk n₀ ann t with
   | false=>none
   | true=>match stepT (denote tb) p w s t with
    | some (s',t')=>ko tb p w n₀ ann n s' t'
    | none=>none
section
variable {tb:String->Option T6}{p:Pv}{w:P0}{n₀:Nat}{ann:Option Value}
theorem mQ:∀ {n:Nat}{s s':Uo}{t:Thread},ko tb p w n₀ ann n s t=some s'->topRun tb p w n₀ ann n s.abs t=some s'.abs
 | 0,_,_,_,h=>by cases h
 | n+1,s,s',t,h=>by
  unfold ko at h
  unfold topRun
  cases he:through t with
  | true=>rw[he] at h;cases h;rfl
  | false =>
   rw[he] at h
   cases hk:stepOk n₀ ann t with
   | false=>rw[hk] at h;cases h
   | true =>
    rw[hk] at h
    cases hs:stepT (denote tb) p w s t with
    | none=>rw[hs] at h;cases h
    | some r=>obtain ⟨s₂,t₂⟩:=r;rw[hs] at h;dsimp only;rw[stepT_spec hs];exact mQ h
end
noncomputable def kJ (tb:String->Option T6) (p:Pv) (w:P0) (N:Nat) (s₀:O4):Option Uo :=
 match s₀.heap.isNs Pd&&s₀.gens.size==0 with
 | true=>(toT s₀).bind fun t₀=>(ko tb p w s₀.heap.objs.size (s₀.heap.nsMap Pd "__annotations__") N t₀ (topStub p)).bind fun t₁ =>
  match staticsOk (Tc p.main.body) s₀.heap t₁.abs.heap&&namesBound p t₁.abs.heap&&gensDone t₁.abs&&laidKept s₀.heap t₁.abs.heap with
   | true=>some t₁
   | false=>none
 | false=>none
theorem qZ (h:kJ tb p w N s₀=some t):topFrom tb p w N s₀=some t.abs:=by
 unfold kJ at h
 unfold topFrom
 cases e:(s₀.heap.isNs Pd&&s₀.gens.size==0) with
 | false=>rw[e] at h;cases h
 | true =>
  rw[e] at h
  obtain ⟨t₀,h0,h⟩:=Option.bind_eq_some_iff.mp h
  obtain ⟨t₁,h1,h⟩:=Option.bind_eq_some_iff.mp h
  have h2:=mQ h1
  rw[A3 h0] at h2
  dsimp only
  rw[h2]
  show (match _ with | true=>some t₁.abs | false=>none)=_
  cases e2:(staticsOk (Tc p.main.body) s₀.heap t₁.abs.heap&&namesBound p t₁.abs.heap&&gensDone t₁.abs&&laidKept s₀.heap t₁.abs.heap) with
  | false=>rw[e2] at h;cases h
  | true=>rw[e2] at h;cases h;rfl
noncomputable def gR (tb:String->Option T6) (p:Pv) (w:P0) (N:Nat):Option Uo:=(fencedOpening tb p w N).bind (kJ tb p w N)
theorem A4 {tb:String->Option T6}{p:Pv}{w:P0}{N:Nat}{α:Type}{f:O4->α}{x:α} (h:(gR tb p w N).map (fun t=>f t.abs)=some x):(openEnds tb p w N).map f=some x:=by
 obtain ⟨t,ht,e⟩:=Option.map_eq_some_iff.mp h
 obtain ⟨s₀,h0,h1⟩:=Option.bind_eq_some_iff.mp ht
 unfold openEnds
 rw[h0]
 show (topFrom tb p w N s₀).map f=some x
 rw[qZ h1]
 exact congrArg some e
theorem xh {α β γ δ:Type}{o:Option α}{f:α->β×γ}{g:α->δ}{x:β}{y:γ}{z:δ} (h1:o.map (fun t=>(f t).1)=some x) (h2:o.map (fun t=>(f t).2)=some y) (h3:o.map g=some z):o.map (fun t=>(f t,g t))=some ((x,y),z):=by
 cases o with
 | none=>cases h2
 | some t =>
  have e1:(f t).1=x:=O5 h1
  have e2:(f t).2=y:=O5 h2
  have e3:g t=z:=O5 h3
  show some (f t,g t)=_
  rw[← e1,← e2,← e3]
theorem good (q:Pv) (loose:List Str):openGood q loose=(TM q,U4,true,true,PySem.pinGoodD (Ue q),TJ q (PySem.W.looseW q loose),TL q loose,Vc q,Ve q loose):=rfl
noncomputable def LA (tb:String->Option T6) (p q:Pv) (loose mods:List Str) (Xt:O4->Bool) (g0:Bool) (N:Nat) (w:P0):Prop :=
 (gR tb p w N).map (fun t=>(Vq q loose mods Xt g0 t.abs).1)=some (TM q)
noncomputable def LB (tb:String->Option T6) (p q:Pv) (loose mods:List Str) (Xt:O4->Bool) (g0:Bool) (N:Nat) (w:P0):Prop :=
 (gR tb p w N).map (fun t=>(Vq q loose mods Xt g0 t.abs).2)=some (U4,true,true,PySem.pinGoodD (Ue q),TJ q (PySem.W.looseW q loose),TL q loose,Vc q,Ve q loose)
noncomputable def LO (tb:String->Option T6) (p:Pv) (N:Nat) {α:Type} (Yf:O4->α) (Ya:P0->α) (w:P0):Prop:=(gR tb p w N).map (fun t=>Yf t.abs)=some (Ya w)
theorem A5 {tb:String->Option T6}{p q:Pv}{loose mods:List Str}{Xt:O4->Bool}{g0:Bool}{N:Nat}{α:Type}{Yf:O4->α}{Ya:P0->α}{w:P0} (h1:LA tb p q loose mods Xt g0 N w) (h2:LB tb p q loose mods Xt g0 N w) (h3:LO tb p N Yf Ya w) :
 (openEnds tb p w N).map (fun s=>(Vq q loose mods Xt g0 s,Yf s))=some (openGood q loose,Ya w):=by
 rw[good]
 have h:=xh (f:=fun t:Uo=>Vq q loose mods Xt g0 t.abs) (g:=fun t:Uo=>Yf t.abs) h1 h2 h3
 exact A4 (f:=fun s=>(Vq q loose mods Xt g0 s,Yf s)) h
end BR
end
section
namespace BG
open PySem PySem.Spec PySem.Calls PyProof.Rows L2
structure FS where
 name:Str
 qual:Str
 params:Uk
 body:FuncBody
 scope:Qc
 globals:O9
 closure:List (Str×O9)
 defaults:Value
 builtins:O9
 code:Bool
noncomputable def A6 (K:OX) (f:O9):Option FS:=match K.lookup f with
 | some ⟨_,_,.func fd,_⟩=>some ⟨fd.name,fd.qualname,fd.params,fd.body,fd.scope,fd.globals,fd.closure,fd.defaults,fd.builtins,SD K fd.code fd.qualname⟩
 | _=>none
noncomputable def tL (x qual:Str) (st:TY):FS:=⟨x,qual,b8 st,.stmts (aq st),aa st,Pd,[],.none,Rm,true⟩
noncomputable def strOf:Value->Option Str
 | .str x _=>some x
 | _=>none
noncomputable def intOf:Value->Option Int
 | .int i _=>some i
 | _=>none
noncomputable def refOf:Option (Option Value)->Option O9
 | some (some (.ref a))=>some a
 | _=>none
inductive Qy where
 | fn (x:Str) (f:O9) (st:TY) | int (x:Str) (n:Int) | tup (x:Str) (f:O9) (xs:List Str) | dct (x:Str) (f:O9) (kvs:List (Str×Int)) | no (x:Str) | cls (c:Str) (C:O9) | me (C:O9) (m x qual:Str) (f:O9) (st:TY) | mk (C:O9)
 | tab (x:Str) (c P:O9) | bm (b:O9) | fv (x:Str) (f:O9) | exc (D:O9) (xs:List (Str×O9))
inductive Ov where
 | fn (a:Option O9) (o:Option FS) | int (n:Option Int) | seq (a:Option O9) (c:Option (Value×Option O9×Nat)) (xs:Option (List (Option Str))) | dct (a:Option O9) (c:Option (Value×Option O9×Nat)) (xs:Option (List (Int×Option Str×Option Int))) | b (x:Bool)
noncomputable def shp (o:Obj):Value×Option O9×Nat:=(o.cls,o.dict,o.slots.size)
noncomputable def DV (o:Obj):Option (List (Option Str)):=match o.data with
 | .seq its _=>some (its.toList.map strOf)
 | _=>none
noncomputable def DW (o:Obj):Option (List (Int×Option Str×Option Int)):=match o.data with
 | .dict es _=>some (es.toList.map fun e=>(e.hash,strOf e.key,intOf e.val))
 | _=>none
noncomputable def attrs:List Str:=["program","asked","gap","most","kept","farthest","front","now","origins","branches","tape","named"]
noncomputable def Iv (K:OX) (c:Str) (C:O9):Bool:=decide (P1 K Pd c=some (some (.ref C)))&&Rt K C Tv&&QZ K C&&Tf K C&&decide (PB K (.ref C) "__setattr__"=some (some (.builtin "object.__setattr__"))) &&
 attrs.all fun f=>decide (PB K (.ref C) f=some none)
noncomputable def meB (K:OX) (C:O9) (m:Str) (f:O9):Bool:=decide (PB K (.ref C) m=some (some (.ref f)))&&To K (.ref f)
noncomputable def mkB (K:OX) (C:O9):Bool:=T3 K C&&PK K (.ref C)
noncomputable def bmB (K:OX) (b:O9):Bool:=decide (P1 K Pd "__builtins__"=some (some (.ref b)))&&decide (b≠Rm)&&(match K.lookup b with
 | some ⟨.type "module",some d,.plain,_⟩=>d==Rm
 | _=>false)
noncomputable def Mt (K:OX) (C D:O9):Bool:=match K.lookup C with
 | some ⟨_,_,.cls cd,_⟩=>cd.mro.contains (.ref D)
 | _=>false
noncomputable def A7 (K:OX) (c:Str) (C:O9):Bool:=decide (P1 K Pd c=some (some (.ref C)))&&Uq K C [.type "ValueError",.type "Exception",.type "BaseException",.type "object"] "ValueError.__new__"
noncomputable def Iw (K:OX) (D:O9) (xs:List (Str×O9)) (c:Str) (C:O9):Bool:=A7 K c C&&Mt K C D&&decide (PB K (.ref C) "__getattribute__"=some (some (.builtin "BaseException.__getattribute__")))&&decide (PB K (.ref C) "__getattr__"=some none) &&
 decide (SQ K C (.type "BaseException")=some true)&&QZ K C&&decide (PB K (.ref C) "__class__"=some (some (.builtin "object.__class__")))&&decide (U5 K (.builtin "object.__class__") "__get__"=some (some (.builtin "getset_descriptor.__get__"))) &&
 decide (Vx K (.builtin "object.__class__")=some true)&&decide (SQ K C (.type "object")=some true)&&decide (Qn K (.ref C) (.type "ValueError")=some true)&&xs.all fun q=>decide (Qn K (.ref C) (.ref q.2)=some (q.1==c))
noncomputable def Iz (K:OX) (D:O9) (xs:List (Str×O9)):Bool:=A7 K "TapeError" D&&xs.all fun q=>Iw K D xs q.1 q.2
noncomputable def aS (K:OX):Qy->Ov
 | .fn x f _=>.fn (refOf (P1 K Pd x)) (A6 K f)
 | .int x _=>.int (match P1 K Pd x with | some (some v)=>intOf v | _=>none)
 | .tup x f _=>.seq (refOf (P1 K Pd x)) ((K.lookup f).map shp) ((K.lookup f).bind DV)
 | .dct x f _=>.dct (refOf (P1 K Pd x)) ((K.lookup f).map shp) ((K.lookup f).bind DW)
 | .no x=>.b (decide (P1 K Pd x=some none))
 | .cls c C=>.b (Iv K c C)
 | .me C m _ _ f _=>.fn (if meB K C m f then some f else none) (A6 K f)
 | .mk C=>.b (mkB K C)
 | .tab x c P=>.b (decide (Qj K x=some (c,P))&&Tw K c P)
 | .bm b=>.b (bmB K b)
 | .fv x f=>.b (decide (P1 K Pd x=some (some (.ref f)))&&PK K (.ref f))
 | .exc D xs=>.b (Iz K D xs)
noncomputable def aT (w:P0):Qy->Ov
 | .fn x f st=>.fn (some f) (some (tL x x st))
 | .int _ n=>.int (some n)
 | .tup _ f xs=>.seq (some f) (some (.type "tuple",none,0)) (some (xs.map some))
 | .dct _ f kvs=>.dct (some f) (some (.type "dict",none,0)) (some (kvs.map fun q=>(PyData.keyHash w.params q.1,some q.1,some q.2)))
 | .no _=>.b true
 | .cls _ _=>.b true
 | .me _ _ x qual f st=>.fn (some f) (some (tL x qual st))
 | .mk _=>.b true
 | .tab _ _ _=>.b true
 | .bm _=>.b true
 | .fv _ _=>.b true
 | .exc _ _=>.b true
noncomputable def KOf (as:List O9) (h:Heap):OX:=as.map fun a=>(a,(h.get? a).getD default)
noncomputable def sees (as:List O9) (qs:List Qy) (ts:List O9):PySem.W.Hook where
 α:=Bool×List Ov×List (Option Obj)
 obs:=fun s=>(as.all fun a=>(s.heap.get? a).isSome,qs.map (aS (KOf as s.heap)),ts.map s.heap.get?)
 val:=fun w=>(true,qs.map (aT w),ts.map fun _=>some (Q7 #[]))
 says:=fun w h=>∃ K:OX,K.map (·.1)=as/\(∀ p∈K,h.get? p.1=some p.2)/\(∀ q∈qs,aS K q=aT w q)/\∀ P∈ts,h.get? P=some (Q7 #[])
 of:=fun w s e=>by
  have e1:=congrArg Prod.fst e
  have e2:=congrArg (fun p=>p.2.1) e
  have e3:=congrArg (fun p=>p.2.2) e
  refine ⟨KOf as s.heap,by simp[KOf,Function.comp_def],fun p hp=>?_,fun q hq=>List.map_inj_left.mp e2 q hq,fun P hP=>List.map_inj_left.mp e3 P hP⟩
  obtain ⟨a,ha,rfl⟩:=List.mem_map.mp hp
  have h1:=List.all_eq_true.mp e1 a ha
  obtain ⟨o,ho⟩:=Option.isSome_iff_exists.mp h1
  show s.heap.get? a=some ((s.heap.get? a).getD default)
  rw[ho];rfl
 keeps:=fun w h h' ⟨K,m,n,k,t⟩ hk=>⟨K,m,fun p hp=>hk _ _ (n p hp),k,fun P hP=>hk _ _ (t P hP)⟩
end BG
end
section
namespace BL
open PySem PySem.Spec PyProof.Rows L2 BG
noncomputable abbrev pg:Pv:=PySem.Challenge.pw_backtape_k12_marks
noncomputable def qg:Pv:=PySem.W.view pg [0,2,3,4,6,7,8,9,10,11,12,13,15,16,17,18,19,20,21,22,23,24,25,26,27,28,29,30,31,32,33,34,35,36,38,39,41,42,43,44,45,46,47,48,49]
noncomputable abbrev loo:List Str:=["INNER_COUNTS"]
noncomputable def top (i:Nat):TY:=pg.main.body.getD i (.Pass ⟨0,0,0,0⟩)
noncomputable def IA:TY->List TY
 | .ClassDef _ _ _ b _ _ _ _ _ _ _=>b
 | _=>[]
noncomputable def bf (i j:Nat):TY:=(IA (top i)).getD j (.Pass ⟨0,0,0,0⟩)
noncomputable def Mu:TY->Pos
 | .FunctionDef _ _ _ _ _ _ _ _ _ p=>p
 | _=>⟨0,0,0,0⟩
noncomputable abbrev adr:List O9:=[3,30,31,43,44,55,56,59,60,66,67,73,74,87,88,94,95,108,109,115,116,122,123,129,130,136,137,143,144,150,151,157,158,164,165,171,172,178,179,185,186,192,193,206,207,213,214,220,221,227,228,234,235,241,242,248,249,255,256,260,261,267,268,274,275,281,282,288,289,295,296,302,303,309,310,347,348,358,359,365,366,372,373,379,380,384,385,389,390,396,397,403,404,408,409]
noncomputable def qys:List Qy:=[.fn "is_whole" 67 (top 10),
 .fn "is_name" 74 (top 11),
 .fn "inner_sums" 88 (top 13),
 .fn "begun" 95 (top 22),
 .fn "worth_in" 109 (top 24),
 .fn "laid_out" 116 (top 25),
 .fn "of_two" 123 (top 26),
 .fn "worth_of" 130 (top 27),
 .fn "reckoned" 137 (top 28),
 .fn "cell_by" 144 (top 29),
 .fn "is_over" 151 (top 30),
 .fn "place_behind" 158 (top 31),
 .fn "with_worth" 165 (top 32),
 .fn "with_name" 172 (top 33),
 .fn "brought" 179 (top 34),
 .fn "stepped" 186 (top 35),
 .fn "states" 193 (top 36),
 .fn "_law_cell" 359 (top 41),
 .fn "_law_drawn" 366 (top 42),
 .fn "_law_sum" 373 (top 43),
 .fn "_law_row" 380 (top 44),
 .fn "_law_program" 385 (top 45),
 .fn "_law_asked" 390 (top 46),
 .fn "_law_marks" 397 (top 47),
 .fn "law" 409 (top 49),
 .int "CELL_COUNT" 4,
 .int "WORTH_COUNT" 10007,
 .int "ROW" 0,
 .int "NAMES" 1,
 .int "CELLS" 2,
 .int "CALLS" 3,
 .int "ASKED" 4,
 .int "SAID" 5,
 .int "MOST_CALLS" 6,
 .int "MOST_MARKS" 8,
 .tup "LETTERS" 59 ["a","b","c","d","e","f"],
 .dct "INNER_COUNTS" 60 [("num",0),("name",0),("cell",1),("add",2),("sub",2),("mul",2),("less",2)],
 .no "len",
 .no "abs",
 .no "int",
 .no "list",
 .no "tuple",
 .no "isinstance",
 .no "str",
 .no "bool",
 .no "range",
 .no "reversed",
 .no "enumerate",
 .no "zip",
 .no "min",
 .no "max",
 .no "sorted",
 .no "sum",
 .no "all",
 .no "any",
 .no "set",
 .no "ValueError",
 .no "dict",
 .no "worths_of",
 .no "last_change",
 .no "next_change",
 .no "moments_so",
 .no "last_so",
 .no "next_so",
 .no "visits",
 .no "last_visit",
 .no "when_said",
 .no "next_within",
 .no "last_within",
 .no "first_other",
 .no "writer_of",
 .no "judged",
 .no "remade",
 .cls "Tape" 348,
 .mk 348,
 .me 348 "__init__" "__init__" "Tape.__init__" 207 (bf 39 0),
 .me 348 "at" "at" "Tape.at" 214 (bf 39 1),
 .me 348 "end" "end" "Tape.end" 221 (bf 39 2),
 .me 348 "moment" "moment" "Tape.moment" 228 (bf 39 3),
 .me 348 "state" "state" "Tape.state" 235 (bf 39 4),
 .me 348 "to" "to" "Tape.to" 242 (bf 39 5),
 .me 348 "go" "go" "Tape.go" 249 (bf 39 6),
 .me 348 "back" "back" "Tape.back" 256 (bf 39 7),
 .me 348 "marks" "marks" "Tape.marks" 261 (bf 39 8),
 .me 348 "cost" "cost" "Tape.cost" 268 (bf 39 9),
 .me 348 "behind" "behind" "Tape.behind" 275 (bf 39 10),
 .me 348 "is_last" "is_last" "Tape.is_last" 282 (bf 39 11),
 .me 348 "keep" "keep" "Tape.keep" 289 (bf 39 12),
 .me 348 "reach" "reach" "Tape.reach" 296 (bf 39 13),
 .me 348 "has" "has" "Tape.has" 303 (bf 39 14),
 .me 348 "check" "check" "Tape.check" 310 (bf 39 15),
 .fn "_law_told" 404 (top 48),
 .exc 31 [("NoMoment",44),("NoThing",56)]]
noncomputable abbrev tl:List (Str×O9×O9):=[]
noncomputable abbrev tas:List O9:=[]
noncomputable abbrev LA:P0->Prop:=BR.LA treeTable pg qg loo (Tc pg.main.body) (fun s=>UC qg [] s&&Up [] s) true 5392
theorem la0 (w:P0):LA (w.withFollow "special-get-raises" false):=by unfold LA BR.LA;kernel_rfl
theorem la1 (w:P0):LA (w.withFollow "special-get-raises" true):=by unfold LA BR.LA;kernel_rfl
noncomputable abbrev LB:P0->Prop:=BR.LB treeTable pg qg loo (Tc pg.main.body) (fun s=>UC qg [] s&&Up [] s) true 5392
theorem lb0 (w:P0):LB (w.withFollow "special-get-raises" false):=by unfold LB BR.LB;kernel_rfl
theorem lb1 (w:P0):LB (w.withFollow "special-get-raises" true):=by unfold LB BR.LB;kernel_rfl
noncomputable abbrev LO:P0->Prop:=BR.LO treeTable pg 5392 (sees adr qys tas).obs (sees adr qys tas).val
theorem lo0 (w:P0):LO (w.withFollow "special-get-raises" false):=by unfold LO BR.LO;kernel_rfl
theorem lo1 (w:P0):LO (w.withFollow "special-get-raises" true):=by unfold LO BR.LO;kernel_rfl
theorem left:PySem.W.LeftO pg qg loo (fun s=>UC qg [] s&&Up [] s) (sees adr qys tas).obs (sees adr qys tas).val 5392:=fun w=>BR.A5 (Ud (P:=LA) "special-get-raises" la0 la1 w) (Ud (P:=LB) "special-get-raises" lb0 lb1 w) (Ud (P:=LO) "special-get-raises" lo0 lo1 w)
end BL
end
section
namespace L2
open PySem PySem.Spec PyProof.Rows
noncomputable abbrev Key:=Sum Int Str
noncomputable def kK:Key->Value->Bool
 | .inl k,v=>Value.isInt k v
 | .inr x,v=>Td x v
noncomputable def Mv (w:P0):Key->Int
 | .inl k=>hashInt k
 | .inr x=>hashStr w x
theorem aO:∀ {k:Key}{v:Value},kK k v=true->(∃ i t,k=Sum.inl i/\v=Te i t)\/(∃ x t,k=Sum.inr x/\v=Sh x t)
 | .inl i,v,h=>by
  obtain ⟨t,e⟩:=Value.isInt_shape (k:=i) (v:=v) h
  exact .inl ⟨i,t,rfl,e⟩
 | .inr x,v,h=>by
  obtain ⟨t,e⟩:=Value.isStrOf_shape (x:=x) (v:=v) h
  exact .inr ⟨x,t,rfl,e⟩
theorem vd (i:Int) (t:Tok):kK (.inl i) (.int i t)=true:=by simp[kK,Value.isInt]
theorem ve (x:Str) (t:Tok):kK (.inr x) (.str x t)=true:=by simp[kK,Td]
theorem EC (a b:Int):decide ((Sum.inl a:Key)=Sum.inl b)=(a==b):=by
 by_cases e:a=b
 ·subst e;simp
 ·have h:¬ (Sum.inl a:Key)=Sum.inl b:=fun q=>e (Sum.inl.inj q)
  rw[decide_eq_false h]
  exact (beq_eq_false_iff_ne.mpr e).symm
theorem ED (a b:Str):decide ((Sum.inr a:Key)=Sum.inr b)=decide (a=b):=by
 by_cases e:a=b
 ·subst e;simp
 ·have h:¬ (Sum.inr a:Key)=Sum.inr b:=fun q=>e (Sum.inr.inj q)
  rw[decide_eq_false h,decide_eq_false e]
theorem EE (a:Int) (b:Str):decide ((Sum.inl a:Key)=Sum.inr b)=false:=decide_eq_false (fun q=>nomatch q)
theorem EF (a:Str) (b:Int):decide ((Sum.inr a:Key)=Sum.inl b)=false:=decide_eq_false (fun q=>nomatch q)
noncomputable def aF (prog:Pv) (w:P0):PySem.KeyKind prog w Key where
 is:=kK
 hash:=Mv w
 inj:=fun v a b ha hb=>by
  rcases aO ha with ⟨i,t,rfl,rfl⟩ | ⟨x,t,rfl,rfl⟩
  ·rcases aO hb with ⟨j,u,rfl,e⟩ | ⟨y,u,rfl,e⟩
   ·injection e with e1 _;rw[e1]
   ·exact nomatch e
  ·rcases aO hb with ⟨j,u,rfl,e⟩ | ⟨y,u,rfl,e⟩
   ·exact nomatch e
   ·injection e with e1 _;rw[e1]
 byValue:=fun k v h=>by
  rcases aO h with ⟨i,t,rfl,rfl⟩ | ⟨x,t,rfl,rfl⟩<;>rfl
 pyHash:=fun hv h=>by
  rcases aO hv with ⟨i,t,rfl,rfl⟩ | ⟨x,t,rfl,rfl⟩
  ·exact wpAny_pyHash_int h
  ·exact wpAny_pyHash_str h
 eqBool:=fun hu hv h=>by
  rcases aO hu with ⟨i,t,rfl,rfl⟩ | ⟨x,t,rfl,rfl⟩
  ·rcases aO hv with ⟨j,u,rfl,rfl⟩ | ⟨y,u,rfl,rfl⟩
   ·rw[EC] at h;exact wpAny_eqBool_int h
   ·rw[EE] at h;exact SeqAt.EqAt.int_str i t y u _ _ _ _ h
  ·rcases aO hv with ⟨j,u,rfl,rfl⟩ | ⟨y,u,rfl,rfl⟩
   ·rw[EF] at h;exact SeqAt.EqAt.str_int x t j u _ _ _ _ h
   ·rw[ED] at h;exact wpAny_eqBool_str h
 «strs»:=fun k x t v h=>by
  rcases aO h with ⟨i,u,rfl,e⟩ | ⟨y,u,rfl,e⟩
  ·exact nomatch e
  ·injection e with e1 _
   subst e1
   cases v<;>rfl
theorem pA (prog:Pv) (w:P0) (i:Int) (t:Tok):(aF prog w).is (.inl i) (.int i t)=true:=vd i t
theorem d9 (prog:Pv) (w:P0) (x:Str) (t:Tok):(aF prog w).is (.inr x) (.str x t)=true:=ve x t
end L2
namespace L2
open PySem PySem.Spec PyProof.Rows
inductive V where
 | non | bl (b:Bool) | int (i:Int) | str (x:Str) | byt (b:Array UInt8) | flt (b:UInt64) | ref (a:O9) | ty (n:String)
 deriving DecidableEq
noncomputable def RelV:V->Value->Prop
 | .non,u=>u=Uv
 | .bl b,u=>u=Vv b
 | .int i,u=>∃ t,u=Te i t
 | .str x,u=>∃ t,u=Sh x t
 | .byt b,u=>∃ t,u=Value.bytes b t
 | .flt b,u=>∃ t,u=Value.float b t
 | .ref a,u=>u=Px a
 | .ty n,u=>u=Value.type n
noncomputable abbrev ao:List V->List Value->Prop:=Paired RelV
theorem ao.length (r:ao xs us):xs.length=us.length:=Paired.length r
theorem ao.get:∀ {xs:List V}{us:List Value}{i:Nat}{x:V},ao xs us->xs[i]?=some x->∃ u,us[i]?=some u/\RelV x u
 | _,_,_,_,.nil,e=>by simp at e
 | _,_,0,_,.cons r _,e=>by simp at e;subst e;exact ⟨_,rfl,r⟩
 | _,_,i+1,x,.cons _ t,e=>by
  obtain ⟨u,h1,h2⟩:=ao.get (i:=i) (x:=x) t (by simpa using e)
  exact ⟨u,by simpa using h1,h2⟩
theorem ao.set (r:RelV x u):∀ {xs:List V}{us:List Value} (i:Nat),ao xs us->ao (xs.set i x) (us.set i u)
 | _,_,_,.nil=>.nil
 | _,_,0,.cons _ t=>.cons r t
 | _,_,i+1,.cons q t=>.cons q (ao.set r i t)
theorem ao.append:∀ {xs ys:List V}{us ws:List Value},ao xs us->ao ys ws->ao (xs++ys) (us++ws)
 | _,_,_,_,.nil,s=>s
 | _,_,_,_,.cons r t,s=>.cons r (ao.append t s)
theorem ao.take:∀ {xs:List V}{us:List Value} (n:Nat),ao xs us->ao (xs.take n) (us.take n)
 | _,_,0,_=>.nil
 | _,_,_+1,.nil=>.nil
 | _,_,n+1,.cons r t=>.cons r (ao.take n t)
theorem ao.drop:∀ {xs:List V}{us:List Value} (n:Nat),ao xs us->ao (xs.drop n) (us.drop n)
 | _,_,0,r=>r
 | _,_,_+1,.nil=>.nil
 | _,_,n+1,.cons _ t=>ao.drop n t
noncomputable def kL:Option V->Option Value->Prop
 | some v,some u=>RelV v u
 | none,none=>True
 | _,_=>False
noncomputable def KV {κ:Type}:List (κ×V)->List (κ×Value)->Prop:=Paired fun (p:κ×V) (q:κ×Value)=>p.1=q.1/\RelV p.2 q.2
noncomputable def kV:Key->V
 | .inl i=>.int i
 | .inr x=>.str x
inductive HO where
 | lst (xs:List V)
 | tup (xs:List V)
 | dK (kvs:List (Key×V)) | dT (kvs:List (List Key×V))
 | set (S:Int->Bool) (n:Nat)
 | ins (C dx:O9) (fs:List (Str×V))
 | own (x:O9)
 | xd (fs:List (Str×V))
 | met (f x:O9)
 | rng (lo hi:Int)
 | frz (o:Obj) (u:HO)
 | tbl (ps:Array Value)
 | ext (φ:Heap->Prop)
noncomputable abbrev Hp:=O9->Option HO
noncomputable def upd (H:Hp) (a:O9) (o:HO):Hp:=fun b=>if b=a then some o else H b
theorem aJ:upd H a o a=some o:=by unfold upd;rw[if_pos rfl]
theorem au (h:b≠a):upd H a o b=H b:=by unfold upd;rw[if_neg h]
theorem aD {H:Hp}{a b:O9}{o:HO} (h:H a=some o) (h':H b=none):a≠b:=by
 intro e;subst e;rw[h] at h';cases h'
section
variable (P:Pv) (w:P0)
noncomputable def bV (H:Hp) (h:Heap) (a:O9):HO->Prop
 | .lst xs=>xs.length<=sizeLine/\∃ (its:List Value) (n:Nat),ao xs its/\h.get? a=some { cls:=.type "list",data:=.seq its.toArray n }
 | .tup xs=>xs.length<=sizeLine/\∃ its:List Value,ao xs its/\IsTup h a its.toArray
 | .dK kvs=>kvs.length<=sizeLine/\(a==Q0)=false/\∃ vs,KV kvs vs/\h.DictOf (aF P w) a vs
 | .dT kvs=>kvs.length<=sizeLine/\(a==Q0)=false/\∃ xs:List (List Key×O9×Value),
  Paired (fun (p:List Key×V) (q:List Key×O9×Value)=>p.1=q.1/\H q.2.1=some (.tup (p.1.map kV))/\RelV p.2 q.2.2) kvs xs ∧
  ∃ o es ep,h.get? a=some o/\o.ExactDict/\o.data=.dict es ep/\es.toList=xs.map (entryOfKey (tupleKind (aF P w)))/\(xs.map (·.1)).Nodup
 | .set S n=>h.SetOf (intKind P w) a S n
 | .ins C dx fs=>H dx=some (.own a)/\fs.length<=1000/\dx≠a/\h.get? a=some (QH C dx) ∧
  ∃ mA,h.Ns1 dx mA/\(∀ f,kL (fs.lookup f) (mA f))/\UN mA (fs.map (·.1))
 | .own _=>∃ o,h.get? a=some o
 | .xd fs=>∃ mA,h.Ns1 a mA/\∀ f,kL (fs.lookup f) (mA f)
 | .rng lo hi=>∃ t u v,h.get? a=some { cls:=.type "range",data:=.fields #[.int lo t,.int hi u,.int 1 v] }
 | .frz o u=>h.get? a=some o/\bV H h a u
 | .tbl ps=>h.get? a=some { cls:=.none,data:=.fields ps }
 | .met f x=>h.get? a=some (Tg (.ref f) (.ref x))
 | .ext φ=>φ h/\(∃ o,h.get? a=some o)/\∀ h1 h2:Heap,φ h1->(∀ o,h1.get? a=some o->h2.get? a=some o)->φ h2
noncomputable def HOk (H:Hp) (h:Heap):Prop:=∀ a o,H a=some o->bV P w H h a o
end
section
theorem bV.lt (x:bV P w H h a o):a < h.objs.size:=by
 cases o with
 | lst xs=>obtain ⟨_,_,_,_,e⟩:=x;exact O7 e
 | tup xs=>obtain ⟨_,_,_,p⟩:=x;exact p.lt
 | dK kvs=>obtain ⟨_,_,_,_,o,_,_,e,_⟩:=x;exact O7 e
 | dT kvs=>obtain ⟨_,_,_,_,o,_,_,e,_⟩:=x;exact O7 e
 | set S n=>obtain ⟨o,_,_,_,e,_⟩:=x;exact O7 e
 | ins C dx fs=>obtain ⟨_,_,_,e,_⟩:=x;exact O7 e
 | own y=>obtain ⟨_,e⟩:=x;exact O7 e
 | xd fs=>obtain ⟨_,⟨_,_,_,e,_⟩,_⟩:=x;exact O7 e
 | rng lo hi=>obtain ⟨_,_,_,e⟩:=x;exact O7 e
 | frz ob u=>obtain ⟨e,_⟩:=x;exact O7 e
 | tbl ps=>exact O7 (show h.get? a=some _ from x)
 | met f y=>exact O7 (show h.get? a=some _ from x)
 | ext φ=>obtain ⟨_,⟨_,e⟩,_⟩:=x;exact O7 e
theorem Paired.IB:∀ {l₁:List α}{l₂:List β},Paired F l₁ l₂->(∀ a b,F a b->G a b)->Paired G l₁ l₂
 | _,_,.nil,_=>.nil
 | _,_,.cons r t,f=>.cons (f _ _ r) (Paired.IB t f)
theorem bV.stay (x:bV P w H h a o) (k:∀ b u,(b=a\/H b=some (.own a))->h.get? b=some u->h'.get? b=some u)
 (ho:∀ b,H b=some (.own a)->H' b=some (.own a)) (ht:∀ b xs,H b=some (.tup xs)->H' b=some (.tup xs)):bV P w H' h' a o:=by
 induction o with
 | lst xs=>obtain ⟨z,its,n,r,e⟩:=x;exact ⟨z,its,n,r,k _ _ (.inl rfl) e⟩
 | tup xs=>obtain ⟨z,its,r,ob,e,c⟩:=x;exact ⟨z,its,r,ob,k _ _ (.inl rfl) e,c⟩
 | dK kvs=>obtain ⟨z,y,vs,r,ob,es,ep,e,c⟩:=x;exact ⟨z,y,vs,r,ob,es,ep,k _ _ (.inl rfl) e,c⟩
 | dT kvs =>
  obtain ⟨z,y,xs,r,ob,es,ep,e,c⟩:=x
  exact ⟨z,y,xs,Paired.IB r fun p q z=>⟨z.1,ht _ _ z.2.1,z.2.2⟩,ob,es,ep,k _ _ (.inl rfl) e,c⟩
 | set S n=>obtain ⟨ob,es,ep,t,e,c⟩:=x;exact ⟨ob,es,ep,t,k _ _ (.inl rfl) e,c⟩
 | ins C dx fs =>
  obtain ⟨d,z,ne,e,mA,⟨od,es,ep,e2,c⟩,r⟩:=x
  exact ⟨ho _ d,z,ne,k _ _ (.inl rfl) e,mA,⟨od,es,ep,k _ _ (.inr d) e2,c⟩,r⟩
 | own y=>obtain ⟨ob,e⟩:=x;exact ⟨ob,k _ _ (.inl rfl) e⟩
 | xd fs=>obtain ⟨mA,⟨od,es,ep,e,c⟩,r⟩:=x;exact ⟨mA,⟨od,es,ep,k _ _ (.inl rfl) e,c⟩,r⟩
 | rng lo hi=>obtain ⟨t,u,v,e⟩:=x;exact ⟨t,u,v,k _ _ (.inl rfl) e⟩
 | frz ob u ih=>obtain ⟨e,q⟩:=x;exact ⟨k _ _ (.inl rfl) e,ih q⟩
 | tbl ps =>
  have e:h.get? a=some { cls:=.none,data:=.fields ps }:=x
  show h'.get? a=some { cls:=.none,data:=.fields ps }
  exact k a _ (.inl rfl) e
 | met f y =>
  have e:h.get? a=some (Tg (.ref f) (.ref y)):=x
  show h'.get? a=some (Tg (.ref f) (.ref y))
  exact k a _ (.inl rfl) e
 | ext φ=>obtain ⟨p,⟨o,e⟩,st⟩:=x;exact ⟨st _ _ p fun o q=>k _ _ (.inl rfl) q,⟨o,k _ _ (.inl rfl) e⟩,st⟩
theorem HOk.lt (x:HOk P w H h) (e:H a=some o):a < h.objs.size:=(x a o e).lt
theorem HOk.fresh (x:HOk P w H h) (e:h.objs.size<=a):H a=none:=by
 cases q:H a with
 | none=>rfl
 | some u=>exact absurd (Pw (x.lt q) e) (PZ _)
theorem HOk.kept (x:HOk P w H h) (k:∀ b u,h.get? b=some u->h'.get? b=some u):HOk P w H h':=fun a o e =>
 (x a o e).stay (fun b u _ q=>k b u q) (fun _ q=>q) fun _ _ q=>q
theorem HOk.laid (x:HOk P w H h) (k:∀ b u,h.get? b=some u->h'.get? b=some u) (hp:h.objs.size<=a) (new:bV P w (upd H a o) h' a o):HOk P w (upd H a o) h':=fun b u e=>by
 have hn:=x.fresh hp
 by_cases hb:b=a
 ·subst hb;rw[aJ] at e;cases e;exact new
 ·rw[au hb] at e
  exact (x b u e).stay (fun c v _ q=>k c v q) (fun c q=>by rw[au (aD q hn)];exact q) fun c xs q=>by rw[au (aD q hn)];exact q
end
noncomputable def Rd (H:Hp) (a:O9) (u:HO):Prop:=H a=some u\/∃ o,H a=some (.frz o u)
theorem Rd.ok (r:Rd H a u) (x:HOk P w H h):bV P w H h a u:=by
 rcases r with r | ⟨o,r⟩
 ·exact x a u r
 ·obtain ⟨_,q⟩:=x a _ r
  exact q
noncomputable def Mut:Option HO->Prop
 | some (.lst _)=>True
 | some (.dK _)=>True
 | some (.dT _)=>True
 | some (.set _ _)=>True
 | some (.ins _ _ _)=>True
 | some (.ext _)=>True
 | _=>False
section
theorem HOk.write (ok:HOk P w H h) (mu:Mut (H x)) (he:e=x\/H e=some (.own x)) (k:∀ b u,b≠e->h.get? b=some u->h'.get? b=some u) (heo:∃ u,h'.get? e=some u)
 (new:bV P w (upd H x o') h' x o'):HOk P w (upd H x o') h':=fun b u q=>by
 have nown:∀ c y,H c=some (.own y)->c≠x:=fun c y r z=>by subst z;rw[r] at mu;exact mu
 have ntup:∀ c xs,H c=some (.tup xs)->c≠x:=fun c xs r z=>by subst z;rw[r] at mu;exact mu
 by_cases hb:b=x
 ·subst hb;rw[aJ] at q;cases q;exact new
 ·rw[au hb] at q
  by_cases hbe:b=e
  ·have q':H b=some (.own x):=by
    rcases he with z | z
    ·exact absurd (hbe.trans z) hb
    ·rw[hbe];exact z
   rw[q] at q';cases q'
   obtain ⟨v,hv⟩:=heo
   exact ⟨v,by rw[hbe];exact hv⟩
  ·refine (ok b u q).stay (fun c v hc r=>k c v ?_ r) (fun c r=>by rw[au (nown c b r)];exact r) fun c xs r=>by rw[au (ntup c xs r)];exact r
   rcases hc with rfl | hc
   ·exact hbe
   ·rintro rfl
    rcases he with z | z
    ·exact nown c b hc z
    ·rw[hc] at z;cases z;exact hb rfl
end
structure Un (fs ex:List O9) (H H':Hp) (h h':Heap):Prop where
 keep:∀ b o,h.get? b=some o->H b=none->b∉fs->b∉ex->h'.get? b=some o
 slot:∀ b o,h.get? b=some o->H b=none->b∈fs->b∉ex->∃ sl,h'.get? b=some { o with slots:=sl }
 free:∀ b o,h.get? b=some o->H b=none->b∉ex->H' b=none
 there:∀ b o,h.get? b=some o->b∉ex->∃ o',h'.get? b=some o'
 tups:∀ b xs,H b=some (.tup xs)->H' b=some (.tup xs)
 frzs:∀ b o u,H b=some (.frz o u)->H' b=some (.frz o u)
 tbls:∀ b ps,H b=some (.tbl ps)->∃ more,H' b=some (.tbl (ps++more))
section
theorem Un.any (u:Un fs ex H H1 h h1) (q:h.get? b=some ob) (n:H b=none) (hx:b∉ex):∃ sl,h1.get? b=some { ob with slots:=sl }:=by
 by_cases hb:b∈fs
 ·exact u.slot b ob q n hb hx
 ·exact ⟨ob.slots,u.keep b ob q n hb hx⟩
theorem Un.kept (k:∀ b u,h.get? b=some u->h'.get? b=some u):Un fs ex H H h h' :=
 ⟨fun b ob q _ _ _=>k b ob q,fun b ob q _ _ _=>⟨ob.slots,k b ob q⟩,fun _ _ _ n _=>n,fun b ob q _=>⟨ob,k b ob q⟩,fun _ _ q=>q,fun _ _ _ q=>q,fun _ ps q=>⟨#[],by rw[q];simp⟩⟩
theorem Un.refl:Un fs ex H H h h:=Un.kept fun _ _ q=>q
theorem Un.laid (k:∀ b u,h.get? b=some u->h'.get? b=some u) (hp:h.objs.size<=a) (hn:H a=none):Un fs ex H (upd H a o) h h' where
 keep:=fun b u q _ _ _=>k b u q
 slot:=fun b u q _ _ _=>⟨u.slots,k b u q⟩
 free:=fun b u q n _=>by rw[au (PL (Pw (O7 q) hp))];exact n
 there:=fun b u q _=>⟨u,k b u q⟩
 tups:=fun b xs q=>by rw[au (aD q hn)];exact q
 frzs:=fun b u xs q=>by rw[au (aD q hn)];exact q
 tbls:=fun b ps q=>⟨#[],by rw[au (aD q hn),q];simp⟩
theorem Un.write (mu:Mut (H x)) (he:e=x\/H e=some (.own x)) (k:∀ b u,b≠e->h.get? b=some u->h'.get? b=some u) (heo:∃ u,h'.get? e=some u):Un fs ex H (upd H x o) h h':=by
 have hx:∀ b,H b=none->b≠x:=fun b n z=>by subst z;rw[n] at mu;exact mu
 have hb:∀ b,H b=none->b≠e:=fun b n z=>by
  subst z
  rcases he with r | r
  ·exact hx b n r
  ·rw[n] at r;cases r
 have hm:∀ b u,H b=some u->¬ Mut (some u)->b≠x:=fun b u q nm z=>by subst z;rw[q] at mu;exact nm mu
 refine ⟨fun b u q n _ _=>k b u (hb b n) q,fun b u q n _ _=>⟨u.slots,k b u (hb b n) q⟩,fun b u q n _=>by rw[au (hx b n)];exact n,fun b u q _=>?_,
  fun b xs q=>by rw[au (hm b _ q fun z=>z)];exact q,fun b u xs q=>by rw[au (hm b _ q fun z=>z)];exact q,fun b ps q=>⟨#[],by rw[au (hm b _ q fun z=>z),q];simp⟩⟩
 by_cases hbe:b=e
 ·subst hbe;exact heo
 ·exact ⟨u,k b u hbe q⟩
end
noncomputable def trk (h:Heap) (H:Hp):List O9:=(PF h.objs.size).filter fun a=>(H a).isSome
noncomputable def pB (h:Heap) (H:Hp):Heap:=Sy h (trk h H)
theorem vf (h:Heap) (H:Hp):(pB h H).objs.size=h.objs.size:=PySem.W.hideAll_size _ _
theorem pC (e:h.get? b=some o) (n:H b=none):(pB h H).get? b=some o :=
 SL _ e fun hm=>by
  have q:(H b).isSome=true:=(List.mem_filter.mp hm).2
  rw[n] at q;simp at q
theorem A8 (e:(pB h H).get? b=some o):h.get? b=some o/\H b=none:=by
 have e':h.get? b=some o:=UV (trk h H) e
 refine ⟨e',?_⟩
 cases q:H b with
 | none=>rfl
 | some x =>
  have hm:b∈trk h H:=List.mem_filter.mpr ⟨List.mem_range.mpr (O7 e'),by simp[q]⟩
  have z:(pB h H).get? b=none:=PySem.W.hideAll_none (trk h H) hm
  rw[z] at e;cases e
noncomputable def A9 (g h:Heap) (L:O9):List (O9×Obj):=(PF h.objs.size).filterMap fun a=>if a=L\/(g.get? a).isSome=true then none else (h.get? a).map fun o=>(a,o)
noncomputable def rest (g h:Heap) (L d:O9):List (O9×Obj):=(A9 g h L).filter fun p=>decide (p.1≠d)
end L2
namespace L2
open PySem PySem.Spec PyProof.Rows
structure Mod (K:OX) (mg:Str->Option Value) (base:Heap):Prop where
 kin:K.In base
 glob:base.Ns Pd mg
 blt:∃ mb,base.Ns Rm mb/\∀ x:Str,x≠"__name__"->mb x=Ss x
 nolimit:base.NoLimit
structure Cx where
 prog:Pv
 w:P0
 K:OX
 mg:Str->Option Value
 base:Heap
 A:QV
 N:List Str
 s₀:O4
 H₀:Hp
 env:Env
 outer:List Env
 stack:List Env
 ex:List O9
 fn:Str->Bool
 calm:Bool
 pn:List (O9×Obj)
 xe:Value->O4->Prop
noncomputable def frs (l:List Env):List O9:=l.filterMap (·.frame)
noncomputable abbrev Cx.fs (X:Cx):List O9:=frs X.outer
noncomputable def Vis (sc:Qc) (x:Str):Prop:=sc.names.lookup x=some .local\/sc.names.lookup x=some .cell\/sc.names.lookup x=some .free
noncomputable def Loc (sc:Qc) (x:Str):Prop:=sc.names.lookup x=some .local\/sc.names.lookup x=some .cell
noncomputable def Look (env:Env) (h:Heap) (m:Str->Option Value) (x:Str) (u:Value):Prop :=
 (env.kindOf x=some .local/\m x=some u)\/((env.kindOf x=some .cell\/env.kindOf x=some .free)/\∃ c,env.cells.lookup x=some c/\h.IsCell c (some u))
structure Cx.Ok (X:Cx):Prop where
 mod:Mod X.K X.mg X.base
 kind:X.env.scope.kind=.function
 glob:X.env.globals=Pd
 blt:X.env.builtins=Rm
 above:X.s₀.heap.objs.size<=X.env.locals
 inj:∀ x y c,X.env.cells.lookup x=some c->X.env.cells.lookup y=some c->x=y
 has:∀ x,(X.env.kindOf x=some .cell\/X.env.kindOf x=some .free)->∃ c,X.env.cells.lookup x=some c
 cab:∀ x c,X.fn x=true->X.env.cells.lookup x=some c->X.s₀.heap.objs.size<=c
 hd:X.calm=true->X.A.handled=none
 frames:X.A.frames=some X.stack
 stk:X.stack=X.outer\/(X.stack=X.env :: X.outer/\X.env.frame=some X.env.locals)
 exf:∀ b∈X.ex,b≠X.env.locals/\∀ x c,X.env.cells.lookup x=some c->c≠b
 bs:∀ b o,X.base.get? b=some o->X.s₀.heap.get? b=some o/\X.H₀ b=none
 bsz:X.base.objs.size<=X.s₀.heap.objs.size
 noex:∀ b o,X.base.get? b=some o->b∉X.ex
 exfs:∀ b∈X.ex,b∉X.fs
 fL:X.s₀.heap.FunFrames X.base X.outer
 frf:∀ b∈X.fs,X.H₀ b=none
structure Inv (X:Cx) (pins:List (O9×Obj)) (σ:List (Option V)) (H:Hp) (s:O4):Prop where
 ok:X.Ok
 os:s.os=X.s₀.os
 bare:T7 s.gens
 base:Un X.fs X.ex X.H₀ H X.s₀.heap s.heap
 loc:∃ m,s.heap.Ns X.env.locals m/\∀ (i:Nat) (x:Str) (v:V),X.N[i]?=some x->σ[i]?=some (some v)->Vis X.env.scope x->∃ u,RelV v u/\Look X.env s.heap m x u
 cell:∀ x c,X.env.cells.lookup x=some c->∃ v,s.heap.IsCell c v
 free:H X.env.locals=none
 freeC:∀ x c,X.env.cells.lookup x=some c->H c=none
 pin:∀ p∈X.pn++pins,s.heap.get? p.1=some p.2/\H p.1=none/\p.1≠X.env.locals/\p.1∉X.fs/\∀ v,p.2.data≠.cell v
 hok:HOk X.prog X.w H s.heap
 len:σ.length=X.N.length
section
variable {X:Cx}{pins:List (O9×Obj)}{σ:List (Option V)}{H H':Hp}{s:O4}{h':Heap}
theorem Cx.Ok.Mw (ok:X.Ok) (e:X.base.get? b=some o):b∉X.fs:=fun hb=>by
 have:=(ok.fL.mem hb).1
 rw[e] at this;cases this
theorem Inv.bs (I:Inv X pins σ H s):∀ b o,X.base.get? b=some o->s.heap.get? b=some o/\H b=none:=fun b o e =>
 ⟨I.base.keep b o (I.ok.bs b o e).1 (I.ok.bs b o e).2 (I.ok.Mw e) (I.ok.noex b o e),I.base.free b o (I.ok.bs b o e).1 (I.ok.bs b o e).2 (I.ok.noex b o e)⟩
theorem Inv.bk (I:Inv X pins σ H s):∀ b o,X.base.get? b=some o->s.heap.get? b=some o:=fun b o e=>(I.bs b o e).1
theorem Inv.mod (I:Inv X pins σ H s):Mod X.K X.mg X.base:=I.ok.mod
theorem Inv.kIn (I:Inv X pins σ H s):X.K.In s.heap:=I.ok.mod.kin.keeps I.bk
theorem Inv.lt (I:Inv X pins σ H s):X.env.locals < s.heap.objs.size:=let ⟨_,hn,_⟩:=I.loc;hn.lt
theorem Inv.sz (I:Inv X pins σ H s):X.s₀.heap.objs.size<=s.heap.objs.size:=PD I.ok.above (QE I.lt)
theorem Inv.Mx (I:Inv X pins σ H s) (h:s.heap.objs.size<=a):a∉X.fs:=fun hb=>by
 obtain ⟨_,o,ho,_⟩:=I.ok.fL.mem hb
 exact absurd (Pw (O7 ho) (PD I.sz h)) (PZ _)
theorem Inv.cne (I:Inv X pins σ H s):∀ x c,X.env.cells.lookup x=some c->c≠X.env.locals:=fun x c e z=>by
 obtain ⟨v,o,ho,hd⟩:=I.cell x c e
 obtain ⟨m,⟨o',es,ep,ho',hd',_⟩,_⟩:=I.loc
 rw[z,ho'] at ho;cases ho;rw[hd'] at hd;cases hd
theorem Inv.fL (I:Inv X pins σ H s):s.heap.FunFrames X.base X.outer:=by
 have all:∀ (l:List Env),(∀ b∈frs l,b∈X.fs)->X.s₀.heap.FunFrames X.base l->s.heap.FunFrames X.base l:=by
  intro l
  induction l with
  | nil=>intro _ _;trivial
  | cons env r ih =>
   intro hs hl
   obtain ⟨hk,⟨L,o,hf,hn,ho,hd⟩,hr⟩:=hl
   have hL:L∈X.fs:=hs L (by unfold frs;rw[Ql,hf];exact Pq)
   obtain ⟨sl,e⟩:=I.base.slot L o ho (I.ok.frf L hL) hL fun z=>I.ok.exfs L z hL
   exact ⟨hk,⟨L,_,hf,hn,e,hd⟩,ih (fun b hb=>hs b (by unfold frs;rw[Ql,hf];exact Pc _ hb)) hr⟩
 exact all X.outer (fun _ hb=>hb) I.ok.fL
theorem Inv.stack (I:Inv X pins σ H s):s.heap.FunFrames X.base X.stack:=by
 rcases I.ok.stk with e | ⟨e,hf⟩
 ·rw[e];exact I.fL
 ·rw[e]
  obtain ⟨m,hn,_⟩:=I.loc
  refine .cons (by rw[I.ok.kind];decide) hf hn ?_ I.fL
  exact Heap.get?_none_of_le (PD I.ok.bsz I.ok.above)
theorem Inv.iG (I:Inv X pins σ H s):∀ b∈frs X.stack,b∈X.env.locals :: X.fs:=fun b hb=>by
 rcases I.ok.stk with e | ⟨e,hf⟩
 ·rw[e] at hb;exact Pc _ hb
 ·rw[e] at hb
  unfold frs at hb
  rw[Ql,hf] at hb
  exact hb
theorem Inv.kq (I:Inv X pins σ H s):∀ b∈frs X.stack,H b=none:=fun b hb=>by
 rcases List.mem_cons.mp (I.iG b hb) with e | hb
 ·rw[e];exact I.free
 ·obtain ⟨_,o,ho,_⟩:=I.ok.fL.mem hb
  exact I.base.free b o ho (I.ok.frf b hb) fun z=>I.ok.exfs b z hb
theorem Inv.step {g':Array GenState}{t':Nat}{d':Drawn}{ch:List O9} (I:Inv X pins σ H s)
 (hch:∀ b∈ch,(b∈X.ex\/X.s₀.heap.objs.size<=b)/\b≠X.env.locals/\(∀ x c,X.env.cells.lookup x=some c->c≠b)/\∀ p∈X.pn++pins,p.1≠b)
 (keep:∀ b o,b≠X.env.locals->b∉X.fs->b∉ch->s.heap.get? b=some o->H b=none->h'.get? b=some o)
 (slot:∀ b o,b≠X.env.locals->b∈X.fs->b∉ch->s.heap.get? b=some o->H b=none->∃ sl,h'.get? b=some { o with slots:=sl }) (free:∀ b o,b∉ch->s.heap.get? b=some o->H b=none->H' b=none)
 (there:∀ b o,b∉ch->s.heap.get? b=some o->∃ o',h'.get? b=some o')
 (tups:∀ b xs,H b=some (.tup xs)->H' b=some (.tup xs)) (frzs:∀ b o u,H b=some (.frz o u)->H' b=some (.frz o u)) (tbls:∀ b ps,H b=some (.tbl ps)->∃ more,H' b=some (.tbl (ps++more)))
 (ns:∀ m,s.heap.Ns X.env.locals m->h'.Ns X.env.locals m) (hok:HOk X.prog X.w H' h') (hg:T7 g') :
 Inv X pins σ H' { s with heap:=h',gens:=g',drawn:=d',toks:=t' }:=by
 have neL:∀ b o,X.s₀.heap.get? b=some o->b≠X.env.locals:=fun b o e=>PL (Pw (O7 e) I.ok.above)
 have neC:∀ b o,X.s₀.heap.get? b=some o->b∉X.ex->b∉ch:=fun b o e hx hb=>by
  rcases (hch b hb).1 with z | z
  ·exact hx z
  ·exact absurd (Pw (O7 e) z) (PZ _)
 have cellK:∀ x c,X.env.cells.lookup x=some c->∀ v,s.heap.IsCell c v->h'.IsCell c v:=fun x c e v ⟨o,ho,hd⟩=>by
  have nch:c∉ch:=fun z=>(hch c z).2.2.1 x c e rfl
  by_cases hc:c∈X.fs
  ·obtain ⟨sl,q⟩:=slot c o (I.cne x c e) hc nch ho (I.freeC x c e)
   exact ⟨_,q,hd⟩
  ·exact ⟨o,keep c o (I.cne x c e) hc nch ho (I.freeC x c e),hd⟩
 refine ⟨I.ok,I.os,hg,⟨fun b o e n hb hx=>?_,fun b o e n hb hx=>?_,fun b o e n hx=>?_,fun b o e hx=>?_,fun b xs e=>tups b xs (I.base.tups b xs e),fun b o xs e=>frzs b o xs (I.base.frzs b o xs e),fun b ps e=>?_⟩,?_,fun x c e=>?_,?_,fun x c e=>?_,fun p hp=>?_,hok,I.len⟩
 ·exact keep b o (neL b o e) hb (neC b o e hx) (I.base.keep b o e n hb hx) (I.base.free b o e n hx)
 ·obtain ⟨sl,e1⟩:=I.base.slot b o e n hb hx
  obtain ⟨sl',e2⟩:=slot b _ (neL b o e) hb (neC b o e hx) e1 (I.base.free b o e n hx)
  exact ⟨sl',e2⟩
 ·obtain ⟨o',e1⟩:=I.base.there b o e hx
  exact free b o' (neC b o e hx) e1 (I.base.free b o e n hx)
 ·obtain ⟨o',e1⟩:=I.base.there b o e hx
  exact there b o' (neC b o e hx) e1
 ·obtain ⟨m1,e1⟩:=I.base.tbls b ps e
  obtain ⟨m2,e2⟩:=tbls b _ e1
  exact ⟨m1++m2,by rw[e2,Array.append_assoc]⟩
 ·obtain ⟨m,hn,hl⟩:=I.loc
  refine ⟨m,ns m hn,fun i x v e1 e2 e3=>?_⟩
  obtain ⟨u,r,l⟩:=hl i x v e1 e2 e3
  refine ⟨u,r,?_⟩
  rcases l with l | ⟨k,c,e,z⟩
  ·exact .inl l
  ·exact .inr ⟨k,c,e,cellK x c e _ z⟩
 ·obtain ⟨v,z⟩:=I.cell x c e
  exact ⟨v,cellK x c e v z⟩
 ·obtain ⟨m,⟨o,_,_,ho,_⟩,_⟩:=I.loc
  exact free _ o (fun z=>(hch _ z).2.1 rfl) ho I.free
 ·obtain ⟨v,o,ho,hd⟩:=I.cell x c e
  exact free c o (fun z=>(hch c z).2.2.1 x c e rfl) ho (I.freeC x c e)
 ·obtain ⟨e,n,ne,nf,d⟩:=I.pin p hp
  have nch:p.1∉ch:=fun z=>(hch p.1 z).2.2.2 p hp rfl
  exact ⟨keep p.1 p.2 ne nf nch e n,free p.1 p.2 nch e n,ne,nf,d⟩
theorem Inv.un {t':Nat} (I:Inv X pins σ H s) (u:Un X.fs [] H H' s.heap h') (hok:HOk X.prog X.w H' h'):Inv X pins σ H' { s with heap:=h',toks:=t' }:=by
 obtain ⟨m,⟨o,es,ep,ho,r⟩,_⟩:=id I.loc
 obtain ⟨sl,hL⟩:=u.any ho I.free (by simp)
 exact I.step (g':=s.gens) (d':=s.drawn) (ch:=[]) (fun _ z=>nomatch z) (fun b o _ hb _ e n=>u.keep b o e n hb (by simp)) (fun b o _ hb _ e n=>u.slot b o e n hb (by simp)) (fun b o _ e n=>u.free b o e n (by simp)) (fun b o _ e=>u.there b o e (by simp)) u.tups u.frzs u.tbls (fun m' hm=>by
  obtain ⟨o',es',ep',ho',r'⟩:=hm
  rw[ho] at ho';cases ho'
  exact ⟨_,es',ep',hL,r'⟩) hok I.bare
theorem Inv.call {g':Array GenState}{t':Nat}{d':Drawn}{ch:List O9} (I:Inv X pins σ H s) (u:Un (frs X.stack) ch H H' s.heap h') (hok:HOk X.prog X.w H' h') (hg:T7 g')
 (hch:∀ b∈ch,(b∈X.ex\/X.s₀.heap.objs.size<=b)/\b≠X.env.locals/\(∀ x c,X.env.cells.lookup x=some c->c≠b)/\∀ p∈X.pn++pins,p.1≠b) :
 Inv X pins σ H' { s with heap:=h',gens:=g',drawn:=d',toks:=t' }:=by
 obtain ⟨m,⟨o,es,ep,ho,r⟩,_⟩:=id I.loc
 obtain ⟨sl,hL⟩:=u.any ho I.free fun z=>(hch _ z).2.1 rfl
 exact I.step (ch:=ch) hch (fun b o hL hb hc e n=>u.keep b o e n (fun z=>(List.mem_cons.mp (I.iG b z)).elim hL hb) hc) (fun b o _ _ hc e n=>u.any e n hc) (fun b o hc e n=>u.free b o e n hc) (fun b o hc e=>u.there b o e hc) u.tups u.frzs u.tbls (fun m' hm=>by
  obtain ⟨o',es',ep',ho',r'⟩:=hm
  rw[ho] at ho';cases ho'
  exact ⟨_,es',ep',hL,r'⟩) hok hg
theorem Inv.turned {t':Nat}{it:O9} (I:Inv X pins σ H s) (k:∀ b o,b≠it->s.heap.get? b=some o->h'.get? b=some o) (hn:H it=none) (hL:it≠X.env.locals)
 (h1:it∈X.ex\/X.s₀.heap.objs.size<=it) (h2:∀ x c,X.env.cells.lookup x=some c->c≠it) (h3:∀ p∈X.pn++pins,p.1≠it):Inv X pins σ H { s with heap:=h',toks:=t' }:=by
 have nit:∀ b u,H b=some u->b≠it:=fun b u e z=>by rw[z,hn] at e;cases e
 refine I.step (g':=s.gens) (d':=s.drawn) (ch:=[it]) (fun b hb=>?_) (fun b o _ _ hc e _=>k b o (fun z=>hc (by simp[z])) e) (fun b o _ _ hc e _=>⟨o.slots,k b o (fun z=>hc (by simp[z])) e⟩) (fun _ _ _ _ n=>n)
  (fun b o hc e=>⟨o,k b o (fun z=>hc (by simp[z])) e⟩) (fun _ _ e=>e) (fun _ _ _ e=>e) (fun b ps e=>⟨#[],by rw[e];simp⟩) (fun m hm=>?_) (fun b u e=>?_) I.bare
 ·have e:b=it:=by simpa using hb
  subst e
  exact ⟨h1,hL,h2,h3⟩
 ·obtain ⟨o,es,ep,ho,r⟩:=hm
  exact ⟨o,es,ep,k _ o (Qp hL) ho,r⟩
 ·refine (I.hok b u e).stay (fun c v hc q=>k c v ?_ q) (fun _ q=>q) fun _ _ q=>q
  rcases hc with z | z
  ·rw[z];exact nit b u e
  ·exact nit c _ z
theorem Inv.tok (I:Inv X pins σ H s) (t:Nat):Inv X pins σ H { s with toks:=t }:=I.un (h':=s.heap) (t':=t) Un.refl I.hok
theorem Inv.kept (I:Inv X pins σ H s) (k:∀ b u,s.heap.get? b=some u->h'.get? b=some u):Inv X pins σ H { s with heap:=h',toks:=t' }:=I.un (Un.kept k) (I.hok.kept k)
theorem Inv.laid (I:Inv X pins σ H s) (k:∀ b u,s.heap.get? b=some u->h'.get? b=some u) (hp:s.heap.objs.size<=a) (new:bV X.prog X.w (upd H a o) h' a o) :
 Inv X pins σ (upd H a o) { s with heap:=h',toks:=t' }:=I.un (Un.laid k hp (I.hok.fresh hp)) (I.hok.laid k hp new)
theorem Inv.write (I:Inv X pins σ H s) (mu:Mut (H x)) (he:e=x\/H e=some (.own x)) (k:∀ b u,b≠e->s.heap.get? b=some u->h'.get? b=some u) (heo:∃ u,h'.get? e=some u)
 (new:bV X.prog X.w (upd H x o) h' x o):Inv X pins σ (upd H x o) { s with heap:=h',toks:=t' }:=I.un (Un.write mu he k heo) (I.hok.write mu he k heo new)
theorem Inv.kr (I:Inv X pins σ H s) (h:∀ p∈pins',s.heap.get? p.1=some p.2/\H p.1=none/\p.1≠X.env.locals/\p.1∉X.fs/\∀ v,p.2.data≠.cell v):Inv X pins' σ H s :=
 ⟨I.ok,I.os,I.bare,I.base,I.loc,I.cell,I.free,I.freeC,fun p hp=>(List.mem_append.mp hp).elim (fun z=>I.pin p (Q8 _ z)) (h p),I.hok,I.len⟩
theorem pF {N:List Str} (hN:N.Nodup) {i j:Nat}{x:Str} (a:N[i]?=some x) (b:N[j]?=some x):i=j:=by
 obtain ⟨h1,e1⟩:=List.getElem?_eq_some_iff.mp a
 obtain ⟨h2,e2⟩:=List.getElem?_eq_some_iff.mp b
 exact (List.getElem_inj hN).mp (e1.trans e2.symm)
theorem jw {M:Model}{A:QV}{E:Value->O4->Prop}{i:Nat}{x:Str}{v:V}{u:Value}{Q:Unit->O4->Prop} (I:Inv X pins σ H s) (hN:X.N.Nodup) (hi:X.N[i]?=some x) (hx:Loc X.env.scope x) (r:RelV v u)
 (h:∀ s',Inv X pins (σ.set i (some v)) H s'->(∃ a,Rh a s.heap s'.heap/\(a=X.env.locals\/X.env.cells.lookup x=some a))->Q () s') (hf:X.fn x=true\/X.env.scope.names.lookup x=some .local:=by first | exact .inl rfl | exact .inr rfl | assumption):wpAny M A (storeName X.env x u) Q E s:=by
 obtain ⟨m,hn,hl⟩:=id I.loc
 have hcls:(X.env.scope.kind==.class||(X.env.scope.kind==.module&&X.env.locals != X.env.globals))=false:=by rw[I.ok.kind];rfl
 have hiσ:i < σ.length:=by rw[I.len];exact (List.getElem?_eq_some_iff.mp hi).1
 have cne:=I.cne
 have tracked:∀ {a:O9}{h':Heap},(∃ o,s.heap.get? a=some o/\H a=none)->Rh a s.heap h'->HOk X.prog X.w H h':=fun {a h'} ha hs b ob e=>by
  obtain ⟨_,_,hfree⟩:=ha
  refine (I.hok b ob e).stay (fun c w' hc q=>(hs.2 c ?_).trans q) (fun _ q=>q) fun _ _ q=>q
  rintro rfl
  rcases hc with rfl | hc
  ·rw[hfree] at e;cases e
  ·rw[hfree] at hc;cases hc
 rcases hx with hk | hk
 ·refine wpAny_storeName_local hk hn (fun h' hn' hs=>?_) hcls
  obtain ⟨oL,_,_,hoL,_⟩:=id hn
  refine h _ ⟨I.ok,I.os,I.bare,⟨fun b o e n hb hx=>?_,fun b o e n hb hx=>?_,I.base.free,fun b o e hx=>?_,I.base.tups,I.base.frzs,I.base.tbls⟩,⟨_,hn',fun j y v' e1 e2 e3=>?_⟩,fun y c e=>?_,I.free,I.freeC,fun p hp=>?_,tracked ⟨oL,hoL,I.free⟩ hs,by simpa using I.len⟩ ⟨_,hs,.inl rfl⟩
  ·exact (hs.2 b (PL (Pw (O7 e) I.ok.above))).trans (I.base.keep b o e n hb hx)
  ·obtain ⟨sl,e1⟩:=I.base.slot b o e n hb hx
   exact ⟨sl,(hs.2 b (PL (Pw (O7 e) I.ok.above))).trans e1⟩
  ·obtain ⟨o',e1⟩:=I.base.there b o e hx
   exact ⟨o',(hs.2 b (PL (Pw (O7 e) I.ok.above))).trans e1⟩
  ·by_cases hj:j=i
   ·subst hj
    rw[hi] at e1;cases e1
    rw[P7 hiσ] at e2
    cases e2
    exact ⟨u,r,.inl ⟨hk,by simp⟩⟩
   ·rw[PX (Qp hj)] at e2
    obtain ⟨u',r',q⟩:=hl j y v' e1 e2 e3
    refine ⟨u',r',?_⟩
    rcases q with ⟨k,e⟩ | ⟨k,c,e,z⟩
    ·refine .inl ⟨k,?_⟩
     have:y≠x:=fun e=>hj (pF hN e1 (e ▸ hi))
     simp[this,e]
    ·exact .inr ⟨k,c,e,z.sameBut hs (cne y c e)⟩
  ·obtain ⟨w',z⟩:=I.cell y c e
   exact ⟨w',z.sameBut hs (cne y c e)⟩
  ·obtain ⟨e,n,ne,nf,d⟩:=I.pin p hp
   exact ⟨(hs.2 p.1 ne).trans e,n,ne,nf,d⟩
 ·have hfn:X.fn x=true:=by
   rcases hf with z | z
   ·exact z
   ·rw[z] at hk;cases hk
  obtain ⟨c,hc⟩:=I.ok.has x (.inl hk)
  obtain ⟨w',z⟩:=I.cell x c hc
  refine wpAny_storeName_cell I.ok.kind hk hc z (fun h' hc' hs=>?_)
  obtain ⟨oc,hoc,hocd⟩:=id z
  refine h { s with heap:=h' } ⟨I.ok,I.os,I.bare,⟨fun b o e n hb hx=>?_,fun b o e n hb hx=>?_,I.base.free,fun b o e hx=>?_,I.base.tups,I.base.frzs,I.base.tbls⟩,⟨m,hn.sameBut hs (Qp (cne x c hc)),fun j y v' e1 e2 e3=>?_⟩,fun y c' e=>?_,I.free,I.freeC,fun p hp=>?_,tracked ⟨oc,hoc,I.freeC x c hc⟩ hs,by simpa using I.len⟩ ⟨c,hs,.inr hc⟩
  ·exact (hs.2 b (PL (Pw (O7 e) (I.ok.cab x c hfn hc)))).trans (I.base.keep b o e n hb hx)
  ·obtain ⟨sl,e1⟩:=I.base.slot b o e n hb hx
   exact ⟨sl,(hs.2 b (PL (Pw (O7 e) (I.ok.cab x c hfn hc)))).trans e1⟩
  ·obtain ⟨o',e1⟩:=I.base.there b o e hx
   exact ⟨o',(hs.2 b (PL (Pw (O7 e) (I.ok.cab x c hfn hc)))).trans e1⟩
  ·by_cases hj:j=i
   ·subst hj
    rw[hi] at e1;cases e1
    rw[P7 hiσ] at e2
    cases e2
    exact ⟨u,r,.inr ⟨.inl hk,c,hc,hc'⟩⟩
   ·rw[PX (Qp hj)] at e2
    obtain ⟨u',r',q⟩:=hl j y v' e1 e2 e3
    refine ⟨u',r',?_⟩
    rcases q with q | ⟨k,c',e,z'⟩
    ·exact .inl q
    ·refine .inr ⟨k,c',e,z'.sameBut hs ?_⟩
     rintro rfl
     exact hj (pF hN e1 (I.ok.inj _ _ _ e hc ▸ hi))
  ·by_cases hcc:c'=c
   ·subst hcc;exact ⟨_,hc'⟩
   ·obtain ⟨w2,z2⟩:=I.cell y c' e
    exact ⟨w2,z2.sameBut hs hcc⟩
  ·obtain ⟨e,n,ne,nf,d⟩:=I.pin p hp
   refine ⟨(hs.2 p.1 ?_).trans e,n,ne,nf,d⟩
   intro q
   rw[q,hoc] at e
   have q':oc=p.2:=O5 e
   exact d w' (by rw[← q'];exact hocd)
theorem kM {E:Value->O4->Prop} (I:Inv X pins σ H s) (hN:X.N.Nodup) (hi:X.N[i]?=some x) (hx:Loc X.env.scope x) (r:RelV v u)
 (h:∀ s',Inv X pins (σ.set i (some v)) H s'->Q () s') (hf:X.fn x=true\/X.env.scope.names.lookup x=some .local:=by first | exact .inl rfl | exact .inr rfl | assumption):wpAny M A (storeName X.env x u) Q E s :=
 jw I hN hi hx r (fun s' I' _=>h s' I') hf
theorem Inv.xj (I:Inv X pins σ H s) (ho:s'.os=s.os) (u:Un (frs X.stack) ch H H' s.heap s'.heap) (hok:HOk X.prog X.w H' s'.heap) (hg:T7 s'.gens)
 (hch:∀ b∈ch,(b∈X.ex\/X.s₀.heap.objs.size<=b)/\b≠X.env.locals/\(∀ x c,X.env.cells.lookup x=some c->c≠b)/\∀ p∈X.pn++pins,p.1≠b):Inv X pins σ H' s':=by
 obtain ⟨h',g',d',t',o'⟩:=s'
 have e:o'=s.os:=ho
 subst e
 exact I.call (g':=g') (t':=t') (d':=d') u hok hg hch
end
noncomputable abbrev XK:=Value->Option O9->Hp->Prop
noncomputable abbrev St:=List (Option V)
noncomputable abbrev VK:=V->Hp->Prop
noncomputable abbrev TE:=St->Hp->VK->Prop
noncomputable abbrev TT:=St->Hp->(Bool->Hp->Prop)->Prop
noncomputable abbrev TA:=St->Hp->(List V->Hp->Prop)->Prop
structure Ends where
 nx:St->Hp->Prop
 rt:VK
 bk:St->Hp->Prop:=fun _ _=>False
 ct:St->Hp->Prop:=fun _ _=>False
noncomputable abbrev TS:=Ends->St->Hp->Prop
inductive EP (X:Cx) (pins:List (O9×Obj)) (σ:St) (Q:VK) (u:Value) (s':O4):Prop where
 | mk (v:V) (H':Hp) (I:Inv X pins σ H' s') (r:RelV v u) (q:Q v H'):EP X pins σ Q u s'
inductive TP (X:Cx) (pins:List (O9×Obj)) (σ:St) (Q:Bool->Hp->Prop) (b:Bool) (s':O4):Prop where
 | mk (H':Hp) (I:Inv X pins σ H' s') (q:Q b H'):TP X pins σ Q b s'
inductive AP (X:Cx) (pins:List (O9×Obj)) (σ:St) (Q:List V->Hp->Prop) (us:List Value) (s':O4):Prop where
 | mk (vs:List V) (H':Hp) (I:Inv X pins σ H' s') (r:ao vs us) (q:Q vs H'):AP X pins σ Q us s'
noncomputable def SP (X:Cx) (pins:List (O9×Obj)) (D:Ends) (f:Flow) (s':O4):Prop :=
 match f with
 | .next=>∃ σ' H',Inv X pins σ' H' s'/\D.nx σ' H'
 | .brk=>∃ σ' H',Inv X pins σ' H' s'/\D.bk σ' H'
 | .cont=>∃ σ' H',Inv X pins σ' H' s'/\D.ct σ' H'
 | .ret u=>∃ v σ' H',Inv X pins σ' H' s'/\RelV v u/\D.rt v H'
noncomputable def PE (X:Cx) (e:Expr) (t:TE):Prop :=
 ∀ (pins:List (O9×Obj)) (s:O4) (σ:St) (H:Hp) (Q:VK),Inv X pins σ H s->t σ H Q->wpAny (Pp X.prog X.w) X.A (eval e X.env) (EP X pins σ Q) X.xe s
noncomputable def PT (X:Cx) (e:Expr) (t:TT):Prop :=
 ∀ (pins:List (O9×Obj)) (s:O4) (σ:St) (H:Hp) (Q:Bool->Hp->Prop),Inv X pins σ H s->t σ H Q->wpAny (Pp X.prog X.w) X.A (isTrue e X.env (eval e X.env)) (TP X pins σ Q) X.xe s
noncomputable def PW (X:Cx) (e:Expr) (t:TT):Prop :=
 ∀ (whole:Sem Value) (pins:List (O9×Obj)) (s:O4) (σ:St) (H:Hp) (Q:Bool->Hp->Prop),Inv X pins σ H s->t σ H Q->wpAny (Pp X.prog X.w) X.A (isTrue e X.env whole) (TP X pins σ Q) X.xe s
theorem PW.pt (h:PW X e t):PT X e t:=h _
noncomputable def PA (X:Cx) (es:List Expr) (t:TA):Prop :=
 ∀ (pos:Pos) (pins:List (O9×Obj)) (s:O4) (σ:St) (H:Hp) (Q:List V->Hp->Prop),Inv X pins σ H s->t σ H Q->wpAny (Pp X.prog X.w) X.A (RG (Qx pos (Pu es X.env))) (AP X pins σ Q) X.xe s
noncomputable def PS (X:Cx) (st:TY) (t:TS):Prop :=
 ∀ (pins:List (O9×Obj)) (s:O4) (σ:St) (H:Hp) (D:Ends),Inv X pins σ H s->t D σ H->wpAny (Pp X.prog X.w) X.A (exec st X.env) (SP X pins D) X.xe s
noncomputable def PSs (X:Cx) (st:List TY) (t:TS):Prop :=
 ∀ (pins:List (O9×Obj)) (s:O4) (σ:St) (H:Hp) (D:Ends),Inv X pins σ H s->t D σ H->wpAny (Pp X.prog X.w) X.A (execs st X.env) (SP X pins D) X.xe s
theorem thn {α:Type}{t:Sem α}{Q Q':α->O4->Prop}{E:Value->O4->Prop} (h:wpAny M A t Q E s) (hQ:∀ a s,Q a s->Q' a s):wpAny M A t Q' E s:=wpAny_mono h hQ fun _ _ x=>x
end L2
namespace L2
open PySem PySem.Spec PyProof.Rows
section
theorem bin {a b:Expr}{ta tb:TE} (ha:PE X a ta) (hb:PE X b tb) {pins:List (O9×Obj)}{s:O4}{σ:St}{H:Hp}{R:V->V->Hp->Prop} (I:Inv X pins σ H s) (h:ta σ H fun x H1=>tb σ H1 fun y H2=>R x y H2)
 {α:Type}{Q:α->O4->Prop}{f:Value->Value->Sem α}
 (hf:∀ v u s2 x y H2,Inv X pins σ H2 s2->RelV x v->RelV y u->R x y H2->wpAny (Pp X.prog X.w) X.A (f v u) Q X.xe s2) :
 wpAny (Pp X.prog X.w) X.A (eval a X.env) (fun v s₁=>wpAny (Pp X.prog X.w) X.A (eval b X.env) (fun u s₂=>wpAny (Pp X.prog X.w) X.A (f v u) Q X.xe s₂) X.xe s₁) X.xe s:=by
 refine thn (ha pins s σ H _ I h) fun v s1 zq=>?_
 obtain ⟨x,H1,I1,r1,q1⟩:=zq
 refine thn (hb pins s1 σ H1 _ I1 q1) fun u s2 zq=>?_
 obtain ⟨y,H2,I2,r2,q2⟩:=zq
 exact hf v u s2 x y H2 I2 r1 r2 q2
noncomputable def Mz (i:Nat):TE:=fun σ H Q=>∃ v,σ[i]?=some (some v)/\Q v H
noncomputable def tC (v:V):TE:=fun _ H Q=>Q v H
theorem rf (hN:X.N[i]?=some x) (hv:Vis X.env.scope x) (hd:(x==("__debug__":Str))=false:=by decide) (hcd:(x==("__classdict__":Str))=false:=by decide):PE X (.Name x pos) (Mz i):=by
 intro pins s σ H Q I h
 obtain ⟨v,e,h⟩:=h
 obtain ⟨m,hn,hl⟩:=I.loc
 obtain ⟨u,r,l⟩:=hl i x v hN e hv
 have fin:EP X pins σ Q u s:=⟨v,H,I,r,h⟩
 rcases l with ⟨hk,hm⟩ | ⟨hk,c,hc,hcell⟩
 ·exact wpAny_Name (wpAny_loadName_local I.ok.kind hk hn hm fin) hd
 ·rcases hk with hk | hk
  ·exact wpAny_Name (wpAny_loadName_cell I.ok.kind hk hc hcell fin) hd
  ·exact wpAny_Name (wpAny_loadName_free I.ok.kind hk hc hcell fin hcd) hd
theorem rj {i j pos}:PE X (.Constant (.int i) j pos) (tC (.int i)):=fun _ _ _ H _ I h=>wpAny_Constant_int ⟨.int i,H,I.tok _,⟨_,rfl⟩,h⟩
theorem IC {b j pos}:PE X (.Constant (.bool b) j pos) (tC (.bl b)):=fun _ _ _ H _ I h=>Constant_bool ⟨.bl b,H,I,rfl,h⟩
theorem EG {j pos}:PE X (.Constant .none j pos) (tC .non):=fun _ _ _ H _ I h=>Constant_none ⟨.non,H,I,rfl,h⟩
theorem EI {x j pos}:PE X (.Constant (.str x) j pos) (tC (.str x)):=fun _ _ _ H _ I h=>Vj ⟨.str x,H,I.tok _,⟨_,rfl⟩,h⟩
noncomputable def Gl (X:Cx) (x:Str):Prop:=X.env.kindOf x=some .globalImplicit
theorem fM {E:Value->O4->Prop} (I:Inv X pins σ H s) (hg:Gl X x) (hm:X.mg x=some u) (h:Q u s)
 (hd:(x==("__debug__":Str))=false:=by decide):wpAny (Pp X.prog X.w) X.A (eval (.Name x pos) X.env) Q E s :=
 RV I.ok.kind hg (UF (by rw[I.ok.glob];exact I.mod.glob.keeps I.bk) hm h) hd
theorem bR {E:Value->O4->Prop} (I:Inv X pins σ H s) (hg:Gl X x) (hm:X.mg x=none) (hv:Ss x=some u) (h:Q u s)
 (hn:x≠"__name__":=by decide) (hd:(x==("__debug__":Str))=false:=by decide):wpAny (Pp X.prog X.w) X.A (eval (.Name x pos) X.env) Q E s:=by
 obtain ⟨mb,h1,h2⟩:=I.mod.blt
 exact RV I.ok.kind hg (Calls.loadGlobal_builtin (by rw[I.ok.glob];exact I.mod.glob.keeps I.bk) hm (by rw[I.ok.blt];exact h1.keeps I.bk) ((h2 x hn).trans hv) h) hd
theorem ku (hg:Gl X x) (hm:X.mg x=some u) (r:RelV v u) (hd:(x==("__debug__":Str))=false:=by decide):PE X (.Name x pos) (tC v) :=
 fun _ _ _ H _ I h=>fM I hg hm ⟨v,H,I,r,h⟩ hd
theorem gS (hg:Gl X x) (hm:X.mg x=none) (hv:Ss x=some u) (r:RelV v u) (hn:x≠"__name__":=by decide) (hd:(x==("__debug__":Str))=false:=by decide):PE X (.Name x pos) (tC v) :=
 fun _ _ _ H _ I h=>bR I hg hm hv ⟨v,H,I,r,h⟩ hn hd
noncomputable def PC (X:Cx) (op:CmpOp) (a b:Expr) (t:TE):Prop :=
 ∀ (pins:List (O9×Obj)) (s:O4) (σ:St) (H:Hp) (Q:VK),Inv X pins σ H s->t σ H Q →
  wpAny (Pp X.prog X.w) X.A (eval a X.env) (fun v s₁=>wpAny (Pp X.prog X.w) X.A (eval b X.env) (fun u s₂=>wpAny (Pp X.prog X.w) X.A (P4 op v u) (EP X pins σ Q) X.xe s₂) X.xe s₁) X.xe s
noncomputable def tB (t:TE):TT:=fun σ H Q=>t σ H fun x H1=>∃ c,x=.bl c/\Q c H1
theorem MA (h:PC X op a b t) (h1:SH op b=false:=by first | exact nobehind _ (by decide) (by decide) | rfl):PT X (.Compare a [op] [b] pos) (tB t):=by
 intro pins s σ H Q I hw
 refine S7 (thn (h pins s σ H _ I hw) fun v s1 h1=>thn h1 fun u s2 h2=>thn h2 fun c s3 ⟨x,H1,I1,r1,q1⟩=>?_) h1
 obtain ⟨d,rfl,q⟩:=q1
 cases r1
 exact Qd ⟨H1,I1,q⟩
theorem EJ (h:PE X e t) (he:∀ whole,isTrue e X.env whole=(do let v ← whole;standAt e.pos;holding [v] (truthy v)):=by intro _;rfl):PT X e (tB t):=by
 intro pins s σ H Q I hw
 refine isTrue_plain (thn (h pins s σ H _ I hw) fun v s1 ⟨x,H1,I1,r1,q1⟩=>?_) (he _)
 obtain ⟨d,rfl,q⟩:=q1
 cases r1
 exact Qd ⟨H1,I1,q⟩
variable {rest:List Expr}
noncomputable def ID (t u:TT):TT:=fun σ H Q=>t σ H fun c H1=>if c=true then u σ H1 Q else Q false H1
noncomputable def tOr (t u:TT):TT:=fun σ H Q=>t σ H fun c H1=>if c=true then Q true H1 else u σ H1 Q
noncomputable def IE (t:TT):TT:=fun σ H Q=>t σ H fun c H1=>Q (!c) H1
theorem Ba (ha:PT X a tA):PW X (.BoolOp .And [a] pos) tA:=by
 intro wh pins s σ H Q I h
 refine isTrue_and (thn (ha pins s σ H Q I h) fun c s1 e=>?_)
 cases c with
 | true=>exact isTrue_and_nil e
 | false=>exact e
theorem EK (ha:PT X a tA):PW X (.BoolOp .Or [a] pos) tA:=by
 intro wh pins s σ H Q I h
 refine isTrue_or (thn (ha pins s σ H Q I h) fun c s1 e=>?_)
 cases c with
 | false=>exact isTrue_or_nil e
 | true=>exact e
theorem xm (ha:PT X a tA) (hb:PW X (.BoolOp .And (b :: rest) pos) tB'):PW X (.BoolOp .And (a :: b :: rest) pos) (ID tA tB'):=by
 intro wh pins s σ H Q I h
 refine isTrue_and (thn (ha pins s σ H _ I h) fun c s1 zq=>?_)
 obtain ⟨H1,I1,q1⟩:=zq
 cases c with
 | true=>exact hb wh pins s1 σ H1 Q I1 q1
 | false=>exact ⟨H1,I1,q1⟩
theorem DX (ha:PT X a tA) (hb:PW X (.BoolOp .Or (b :: rest) pos) tB'):PW X (.BoolOp .Or (a :: b :: rest) pos) (tOr tA tB'):=by
 intro wh pins s σ H Q I h
 refine isTrue_or (thn (ha pins s σ H _ I h) fun c s1 zq=>?_)
 obtain ⟨H1,I1,q1⟩:=zq
 cases c with
 | true=>exact ⟨H1,I1,q1⟩
 | false=>exact hb wh pins s1 σ H1 Q I1 q1
theorem EL (ha:PT X a tA):PT X (.UnaryOp .Not a pos) (IE tA):=by
 intro pins s σ H Q I h
 exact isTrue_not (thn (ha pins s σ H (fun c H1=>Q (!c) H1) I h) fun c s' z=>by obtain ⟨H1,I1,q⟩:=z;exact ⟨H1,I1,q⟩)
noncomputable def DY (ta tb:TE):TE:=fun σ H Q=>ta σ H fun x H1=>∃ c,x=.bl c/\if c=true then tb σ H1 Q else Q (.bl false) H1
noncomputable def IF (ta tb:TE):TE:=fun σ H Q=>ta σ H fun x H1=>∃ c,x=.bl c/\if c=true then Q (.bl true) H1 else tb σ H1 Q
noncomputable def DZ (ta:TE):TE:=fun σ H Q=>ta σ H fun x H1=>∃ c,x=.bl c/\Q (.bl (!c)) H1
theorem xo {op} (h:PE X a t):PE X (.BoolOp op [a] pos) t:=fun pins s σ H Q I hw=>BoolOp_one (h pins s σ H Q I hw)
theorem xq (ha:PE X a ta) (hb:PE X (.BoolOp .And (b :: rest) pos) tb):PE X (.BoolOp .And (a :: b :: rest) pos) (DY ta tb):=by
 intro pins s σ H Q I h
 refine BoolOp_and (thn (ha pins s σ H _ I h) fun v s1 zq=>?_)
 obtain ⟨x,H1,I1,r1,q1⟩:=zq
 obtain ⟨c,rfl,q1⟩:=q1
 cases r1
 refine Qd ?_
 cases c with
 | true=>exact hb pins s1 σ H1 Q I1 q1
 | false=>exact ⟨.bl false,H1,I1,rfl,q1⟩
theorem D0 (ha:PE X a ta) (hb:PE X (.BoolOp .Or (b :: rest) pos) tb):PE X (.BoolOp .Or (a :: b :: rest) pos) (IF ta tb):=by
 intro pins s σ H Q I h
 refine BoolOp_or (thn (ha pins s σ H _ I h) fun v s1 zq=>?_)
 obtain ⟨x,H1,I1,r1,q1⟩:=zq
 obtain ⟨c,rfl,q1⟩:=q1
 cases r1
 refine Qd ?_
 cases c with
 | false=>exact hb pins s1 σ H1 Q I1 q1
 | true=>exact ⟨.bl true,H1,I1,rfl,q1⟩
theorem EM (ha:PE X a ta):PE X (.UnaryOp .Not a pos) (DZ ta):=by
 intro pins s σ H Q I h
 refine UnaryOp_ (thn (ha pins s σ H _ I h) fun v s1 zq=>?_)
 obtain ⟨x,H1,I1,r1,q1⟩:=zq
 obtain ⟨c,rfl,q1⟩:=q1
 cases r1
 exact not_of (Qd ⟨.bl (!c),H1,I1,rfl,q1⟩)
noncomputable def tIf (t:TT) (ta tb:TE):TE:=fun σ H Q=>t σ H fun c H1=>if c=true then ta σ H1 Q else tb σ H1 Q
theorem xr (hc:PT X c tA) (ha:PE X a ta) (hb:PE X b tb):PE X (.IfExp c a b pos) (tIf tA ta tb):=by
 intro pins s σ H Q I h
 refine wpAny_IfExp (thn (hc pins s σ H _ I h) fun d s1 zq=>?_)
 obtain ⟨H1,I1,q1⟩:=zq
 cases d with
 | true=>exact ha pins s1 σ H1 Q I1 q1
 | false=>exact hb pins s1 σ H1 Q I1 q1
end
end L2
namespace L2
open PySem PySem.Spec PyProof.Rows
noncomputable def SqL (K:OX) (H:Hp) (a:O9) (xs:List V):Prop :=
 Rd H a (.lst xs) ∨
  ∃ (o:Obj) (its:Array Value) (n:Nat),K.lookup a=some o/\o.cls=.type "list"/\o.dict=none/\o.data=.seq its n/\its.size<=sizeLine/\ao xs its.toList
noncomputable def SqT (K:OX) (H:Hp) (a:O9) (xs:List V):Prop :=
 Rd H a (.tup xs) ∨
  ∃ (o:Obj) (its:Array Value) (n:Nat),K.lookup a=some o/\o.cls=.type "tuple"/\o.data=.seq its n/\its.size<=sizeLine/\ao xs its.toList
noncomputable def MB:Value->Option V
 | .none=>some .non
 | .bool b=>some (.bl b)
 | .int i _=>some (.int i)
 | .str x _=>some (.str x)
 | .bytes b _=>some (.byt b)
 | .float b _=>some (.flt b)
 | .ref a=>some (.ref a)
 | .type n=>some (.ty n)
 | _=>none
theorem RelV.abs (r:RelV x u):MB u=some x:=by
 cases x with
 | non=>cases r;rfl
 | bl _=>cases r;rfl
 | int _=>obtain ⟨t,rfl⟩:=r;rfl
 | str _=>obtain ⟨t,rfl⟩:=r;rfl
 | byt _=>obtain ⟨t,rfl⟩:=r;rfl
 | flt _=>obtain ⟨t,rfl⟩:=r;rfl
 | ref _=>cases r;rfl
 | ty _=>cases r;rfl
theorem RelV.inj (r:RelV x u) (q:RelV y u):x=y:=O5 (r.abs.symm.trans q.abs)
theorem ao.inj:∀ {xs ys:List V}{us:List Value},ao xs us->ao ys us->xs=ys
 | _,_,_,.nil,.nil=>rfl
 | _,_,_,.cons r t,.cons r' t'=>by rw[r.inj r',ao.inj t t']
section
theorem Inv.list (I:Inv X pins σ H s) (h:SqL X.K H a xs):∃ its:List Value,ao xs its/\PlainL s.heap a its.toArray/\xs.length<=sizeLine:=by
 rcases h with h | ⟨o,its,n,hk,hc,hd,hs,hz,r⟩
 ·obtain ⟨z,its,n,r,e⟩:=h.ok I.hok
  exact ⟨its,r,⟨_,n,e,rfl,rfl,rfl⟩,z⟩
 ·refine ⟨its.toList,r,⟨o,n,I.kIn a o hk,hc,hd,by simpa using hs⟩,?_⟩
  have e:=r.length
  simp only[Qu] at e
  lia
theorem Inv.tuple (I:Inv X pins σ H s) (h:SqT X.K H a xs):∃ its:List Value,ao xs its/\IsTup s.heap a its.toArray/\xs.length<=sizeLine:=by
 rcases h with h | ⟨o,its,n,hk,hc,hs,hz,r⟩
 ·obtain ⟨z,its,r,p⟩:=h.ok I.hok
  exact ⟨its,r,p,z⟩
 ·refine ⟨its.toList,r,⟨o,I.kIn a o hk,hc,n,by simpa using hs⟩,?_⟩
  have e:=r.length
  simp only[Qu] at e
  lia
theorem Inv.pG (I:Inv X pins σ H s) (h:SqL X.K H a xs) (h':SqL X.K H a ys):xs=ys:=by
 obtain ⟨its,r,⟨o,n,e,_,_,d⟩,_⟩:=I.list h
 obtain ⟨its',r',⟨o',n',e',_,_,d'⟩,_⟩:=I.list h'
 rw[e] at e';cases e'
 rw[d] at d'
 injection d' with d1 _
 have:its=its':=by simpa using congrArg Array.toList d1
 subst this
 exact r.inj r'
theorem Inv.vg (I:Inv X pins σ H s) (h:SqT X.K H a xs) (h':SqT X.K H a ys):xs=ys:=by
 obtain ⟨its,r,⟨o,e,_,n,d⟩,_⟩:=I.tuple h
 obtain ⟨its',r',⟨o',e',_,n',d'⟩,_⟩:=I.tuple h'
 rw[e] at e';cases e'
 rw[d] at d'
 injection d' with d1 _
 have:its=its':=by simpa using congrArg Array.toList d1
 subst this
 exact r.inj r'
end
noncomputable abbrev Cx.lZ (X:Cx) (E:Value->O4->Prop):Cx:={ X with xe:=E }
noncomputable abbrev Cx.nox (X:Cx):Cx:=X.lZ fun _ _=>False
theorem Cx.Ok.lZ {X:Cx} (ok:X.Ok) (E:Value->O4->Prop):(X.lZ E).Ok :=
 ⟨ok.mod,ok.kind,ok.glob,ok.blt,ok.above,ok.inj,ok.has,ok.cab,ok.hd,ok.frames,ok.stk,ok.exf,ok.bs,ok.bsz,ok.noex,ok.exfs,ok.fL,ok.frf⟩
theorem Cx.Ok.gr {X:Cx}{E:Value->O4->Prop} (ok:(X.lZ E).Ok):X.Ok :=
 ⟨ok.mod,ok.kind,ok.glob,ok.blt,ok.above,ok.inj,ok.has,ok.cab,ok.hd,ok.frames,ok.stk,ok.exf,ok.bs,ok.bsz,ok.noex,ok.exfs,ok.fL,ok.frf⟩
section
variable {E:Value->O4->Prop}
theorem Inv.lZ (I:Inv X pins σ H s) (E:Value->O4->Prop):Inv (X.lZ E) pins σ H s:=⟨I.ok.lZ E,I.os,I.bare,I.base,I.loc,I.cell,I.free,I.freeC,I.pin,I.hok,I.len⟩
theorem Inv.gr (I:Inv (X.lZ E) pins σ H s):Inv X pins σ H s:=⟨I.ok.gr,I.os,I.bare,I.base,I.loc,I.cell,I.free,I.freeC,I.pin,I.hok,I.len⟩
theorem SP.gr {D:Ends} (h:SP (X.lZ E) pins D f s'):SP X pins D f s':=by
 cases f with
 | next=>obtain ⟨σ',H',I,q⟩:=h;exact ⟨σ',H',I.gr,q⟩
 | brk=>obtain ⟨σ',H',I,q⟩:=h;exact ⟨σ',H',I.gr,q⟩
 | cont=>obtain ⟨σ',H',I,q⟩:=h;exact ⟨σ',H',I.gr,q⟩
 | ret u=>obtain ⟨v,σ',H',I,r,q⟩:=h;exact ⟨v,σ',H',I.gr,r,q⟩
theorem PSs.nox {st:List TY} (h:PSs X.nox st t):PSs X st t:=fun pins s σ H D I hw =>
 wpAny_mono (h pins s σ H D (I.lZ _) hw) (fun _ _ q=>q.gr) fun _ _ z=>PN z
end
section
variable {st:TY}{rest:List TY}
noncomputable def IG:TS:=fun D σ H=>D.nx σ H
noncomputable def II (t u:TS):TS:=fun D σ H=>t { D with nx:=u D } σ H
theorem Bb:PSs X [] IG:=fun _ _ σ H _ I h=>Sa ⟨σ,H,I,h⟩
theorem pH (h1:PS X st t) (h2:PSs X rest u):PSs X (st :: rest) (II t u):=by
 intro pins s σ H D I h
 refine RU (thn (h1 pins s σ H { D with nx:=u D } I h) fun f s1 q=>?_)
 cases f with
 | next =>
  obtain ⟨σ',H',I',q⟩:=q
  exact h2 pins s1 σ' H' D I' q
 | ret v=>exact q
 | brk=>exact q
 | cont=>exact q
theorem kB (h1:PS X st t):PSs X [st] t:=by
 intro pins s σ H D I h
 refine RU (thn (h1 pins s σ H D I h) fun f s1 q=>?_)
 cases f with
 | next=>exact Sa q
 | ret v=>exact q
 | brk=>exact q
 | cont=>exact q
noncomputable def EN:TS:=fun D σ H=>D.bk σ H
noncomputable def IJ:TS:=fun D σ H=>D.ct σ H
theorem xu:PS X (.Break pos) EN:=fun _ _ σ H _ I h=>wpAny_Break ⟨σ,H,I,h⟩
theorem pI:PS X (.Continue pos) IJ:=fun _ _ σ H _ I h=>wpAny_Continue ⟨σ,H,I,h⟩
theorem Inv.quiet (I:Inv X pins σ H s):interactive X.env=false:=by simp[interactive,I.ok.kind]
noncomputable def IK (te:TE):TS:=fun D σ H=>te σ H fun _ H1=>D.nx σ H1
theorem Bc (he:PE X e te) (hs:Sb e none pos.line X.env=pure false:=by rfl):PS X (.Expr e pos) (IK te):=by
 intro pins s σ H D I h
 exact wpAny_Expr_any (thn (he pins s σ H _ I h) fun v s1 ⟨x,H1,I1,r1,q1⟩=>⟨σ,H1,I1,q1⟩) I.quiet hs
noncomputable def MC (te:TE):TS:=fun D σ H=>te σ H D.rt
theorem rm (he:PE X e te):PS X (.Return (some e) pos) (MC te):=by
 intro pins s σ H D I h
 exact wpAny_Return_some (thn (he pins s σ H _ I h) fun v s1 ⟨x,H1,I1,r1,q1⟩=>⟨x,σ,H1,I1,r1,q1⟩)
noncomputable def MD (c:TT) (t u:TS):TS:=fun D σ H=>c σ H fun b H1=>if b=true then t D σ H1 else u D σ H1
theorem IL (hc:PT X c tc) (ha:PSs X a t) (hb:PSs X b u):PS X (.If c a b pos) (MD tc t u):=by
 intro pins s σ H D I h
 refine wpAny_If (thn (hc pins s σ H _ I h) fun d s1 zq=>?_)
 obtain ⟨H1,I1,q1⟩:=zq
 cases d with
 | true=>exact ha pins s1 σ H1 D I1 q1
 | false=>exact hb pins s1 σ H1 D I1 q1
end
noncomputable abbrev TG:=V->St->Hp->(St->Hp->Prop)->Prop
noncomputable abbrev TGs:=List V->St->Hp->(St->Hp->Prop)->Prop
noncomputable def PG (X:Cx) (target:Expr) (t:TG):Prop :=
 ∀ (pins:List (O9×Obj)) (s:O4) (σ:St) (H:Hp) (v:V) (u:Value) (Q:St->Hp->Prop),Inv X pins σ H s->RelV v u->t v σ H Q →
  wpAny (Pp X.prog X.w) X.A (UM target X.env u) (fun _ s'=>∃ σ' H',Inv X pins σ' H' s'/\Q σ' H') X.xe s
noncomputable def PGs (X:Cx) (ts:List Expr) (t:TGs):Prop :=
 ∀ (pins:List (O9×Obj)) (s:O4) (σ:St) (H:Hp) (vs:List V) (us:List Value) (Q:St->Hp->Prop),Inv X pins σ H s->ao vs us->t vs σ H Q →
  wpAny (Pp X.prog X.w) X.A (assignInOrder ((Tn ts X.env).map (·.2)) us) (fun _ s'=>∃ σ' H',Inv X pins σ' H' s'/\Q σ' H') X.xe s
noncomputable abbrev IM:=V->V->V->Hp->(Hp->Prop)->Prop
noncomputable def EO (X:Cx) (t:IM):Prop :=
 ∀ (pins:List (O9×Obj)) (s:O4) (σ:St) (H:Hp) (o i v:V) (ov iv u:Value) (Q:Hp->Prop),Inv X pins σ H s->RelV o ov->RelV i iv->RelV v u->t o i v H Q →
  wpAny (Pp X.prog X.w) X.A (setItem ov iv u) (fun _ s'=>∃ H',Inv X pins σ H' s'/\Q H') X.xe s
noncomputable abbrev TIp:=V->V->Hp->VK->Prop
noncomputable def PIp (X:Cx) (op:Tt) (t:TIp):Prop :=
 ∀ (pins:List (O9×Obj)) (s:O4) (σ:St) (H:Hp) (x y:V) (v u:Value) (Q:VK),Inv X pins σ H s->RelV x v->RelV y u->t x y H Q →
  wpAny (Pp X.prog X.w) X.A (inplaceOp op v u) (EP X pins σ Q) X.xe s
section
noncomputable def pJ (i:Nat):TG:=fun v σ H Q=>Q (σ.set i (some v)) H
theorem nJ (hN:X.N.Nodup) (hi:X.N[i]?=some x) (hx:Loc X.env.scope x) (hf:X.fn x=true\/X.env.scope.names.lookup x=some .local:=by first | exact .inl rfl | exact .inr rfl | assumption):PG X (.Name x pos) (pJ i):=by
 intro pins s σ H v u Q I r h
 exact wpAny_assign_Name (kM I hN hi hx r (fun s' I'=>⟨_,H,I',h⟩) hf)
noncomputable def ER:TGs:=fun vs σ H Q=>vs=[]/\Q σ H
noncomputable def D3 (t:TG) (u:TGs):TGs:=fun vs σ H Q=>∃ v r,vs=v :: r/\t v σ H fun σ' H'=>u r σ' H' Q
theorem Bd:PGs X [] ER:=by
 intro pins s σ H vs us Q I r h
 obtain ⟨e,h⟩:=h
 subst e
 cases r
 exact assignInOrder_nil ⟨σ,H,I,h⟩
theorem pK (h1:PG X e t) (h2:PGs X es u)
 (hs:(Tn (e :: es) X.env).map (·.2)=UM e X.env :: (Tn es X.env).map (·.2):=by rfl):PGs X (e :: es) (D3 t u):=by
 intro pins s σ H vs us Q I r h
 obtain ⟨v,vr,e1,h⟩:=h
 subst e1
 cases r with
 | cons r rr =>
  rw[hs]
  refine assignInOrder_cons (thn (h1 pins s σ H _ _ _ I r h) fun _ s1 zq=>?_)
  obtain ⟨σ1,H1,I1,q1⟩:=zq
  exact h2 pins s1 σ1 H1 _ _ Q I1 rr q1
noncomputable def ME (K:OX) (n:Nat) (t:TGs):TG:=fun v σ H Q=>∃ a xs,v=.ref a/\SqT K H a xs/\xs.length=n/\t xs σ H Q
theorem ES (hc:X.calm=true) (h:PGs X es t)
 (hn:(Tn es X.env).length=n:=by rfl) (hst:(Tn es X.env).findIdx? (·.1)=none:=by rfl):PG X (.Tuple es k pos) (ME X.K n t):=by
 intro pins s σ H v u Q I r hw
 obtain ⟨a,xs,e1,hq,hl,hw⟩:=hw
 subst e1
 cases r
 obtain ⟨its,rv,ht,hz⟩:=I.tuple hq
 refine assign_Tuple_tuple (I.ok.hd hc) ht (by simp[hn,← hl,rv.length]) hst fun h' hx=>?_
 have I1:Inv X pins σ H { s with heap:=h' }:=I.kept (t':=s.toks) fun b o e=>hx b o (PL (O7 e)) e
 exact h pins _ σ H xs _ Q I1 (by simpa using rv) hw
noncomputable def ET (to ti:TE) (t:IM):TG:=fun v σ H Q=>to σ H fun o H1=>ti σ H1 fun i H2=>t o i v H2 fun H3=>Q σ H3
theorem xw (ho:PE X o to) (hi:PE X i ti) (hs:EO X t)
 (ha:∀ v,UM (.Subscript o i pos) X.env v=(do
  let ov ← holding [v] (eval o X.env)
  let iv ← holding [v,ov] (eval i X.env)
  standAt pos
  holding [v,ov,iv] (setItem ov iv v)
  release [v,ov,iv] []):=by intro _;rfl):PG X (.Subscript o i pos) (ET to ti t):=by
 intro pins s σ H v u Q I r h
 rw[ha]
 refine O0 (QI (thn (ho pins s σ H _ I h) fun ov s1 zq=>?_))
 obtain ⟨x,H1,I1,r1,q1⟩:=zq
 refine O0 (QI (thn (hi pins s1 σ H1 _ I1 q1) fun iv s2 zq=>?_))
 obtain ⟨y,H2,I2,r2,q2⟩:=zq
 refine O0 (Ub (O0 (QI (thn (hs pins s2 σ H2 x y v ov iv u _ I2 r1 r2 r q2) fun _ s3 zq=>?_))))
 obtain ⟨H3,I3,q3⟩:=zq
 exact wpAny_release ⟨σ,H3,I3,q3⟩
noncomputable def vh (te:TE) (g:TG):TS:=fun D σ H=>te σ H fun x H1=>g x σ H1 D.nx
theorem xy (he:PE X e te) (hg:PG X tg g) (hs:swapsWithSole [tg] e pos.line X.env=pure false:=by rfl) (hw:swappedStores [tg] e X.env=pure none:=by rfl)
 (h1:(Tn [tg] X.env).map (·.2)=[UM tg X.env]:=by rfl):PS X (.Assign [tg] e pos) (vh te g):=by
 intro pins s σ H D I h
 refine wpAny_Assign_stores (thn (he pins s σ H _ I h) fun v s1 ⟨x,H1,I1,r1,q1⟩=>?_) hs hw
 rw[h1]
 exact thn (hg pins s1 σ H1 x v _ I1 r1 q1) fun _ s2 q=>q
theorem rA (hN:X.N.Nodup) (hi:X.N[i]?=some x) (hx:Loc X.env.scope x) (he:PE X e te) (hs:Sb e (some (.Name x pos')) pos.line X.env=pure false:=by rfl) (hf:X.fn x=true\/X.env.scope.names.lookup x=some .local:=by first | exact .inl rfl | exact .inr rfl | assumption) :
 PS X (.Assign [.Name x pos'] e pos) (vh te (pJ i)):=by
 intro pins s σ H D I h
 refine wpAny_Assign_Name (thn (he pins s σ H _ I h) fun v s1 ⟨y,H1,I1,r1,q1⟩=>?_) hs
 exact kM I1 hN hi hx r1 (fun s2 I2=>⟨_,H1,I2,q1⟩) hf
noncomputable def IP (i:Nat) (te:TE) (ti:TIp):TS:=fun D σ H=>∃ x,σ[i]?=some (some x)/\te σ H fun y H1=>ti x y H1 fun z H2=>D.nx (σ.set i (some z)) H2
theorem EU (hN:X.N.Nodup) (hi:X.N[i]?=some x) (hx:Loc X.env.scope x) (he:PE X e te) (ho:PIp X op ti) (hf:X.fn x=true\/X.env.scope.names.lookup x=some .local:=by first | exact .inl rfl | exact .inr rfl | assumption) :
 PS X (.AugAssign (.Name x pos') op e pos) (IP i te ti):=by
 intro pins s σ H D I h
 obtain ⟨v,e1,h⟩:=h
 obtain ⟨m,hn,hl⟩:=I.loc
 have vis:Vis X.env.scope x:=by rcases hx with k | k;exact .inl k;exact .inr (.inl k)
 obtain ⟨u,r,l⟩:=hl i x v hi e1 vis
 refine wpAny_AugAssign_Name ?_
 have go:wpAny (Pp X.prog X.w) X.A (eval e X.env) (fun w s₂=>wpAny (Pp X.prog X.w) X.A (inplaceOp op u w) (fun r s₃=>wpAny (Pp X.prog X.w) X.A (storeName X.env x r) (fun _=>SP X pins D .next) X.xe s₃) X.xe s₂) X.xe s:=by
  refine thn (he pins s σ H _ I h) fun w s1 zq=>?_
  obtain ⟨y,H1,I1,r1,q1⟩:=zq
  refine thn (ho pins s1 σ H1 v y u w _ I1 r r1 q1) fun z s2 zq=>?_
  obtain ⟨zv,H2,I2,r2,q2⟩:=zq
  exact kM I2 hN hi hx r2 (fun s3 I3=>⟨_,H2,I3,q2⟩) hf
 rcases l with ⟨hk,hm⟩ | ⟨hk,c,hc,hcell⟩
 ·exact wpAny_loadName_local I.ok.kind hk hn hm go
 ·rcases hk with hk | hk
  ·exact wpAny_loadName_cell I.ok.kind hk hc hcell go
  ·rcases hx with k | k
   ·have:X.env.scope.names.lookup x=some .free:=hk
    rw[k] at this;cases this
   ·have:X.env.scope.names.lookup x=some .free:=hk
    rw[k] at this;cases this
end
section
noncomputable def xA (c:TT) (tb:TS):TS:=fun D σ H=>∃ W:Nat->St->Hp->Prop,(∃ m,W m σ H)/\∀ m σ H,W m σ H →
 c σ H fun b H1=>if b=true then ∃ N:St->Hp->Prop,(∀ σ' H',N σ' H'->∃ m',m' < m/\W m' σ' H')/\tb { D with nx:=N,ct:=N,bk:=D.nx } σ H1 else D.nx σ H1
theorem xE (hp:UQ (Pp X.prog X.w) X.A X.env X.xe) (hc:PT X c tc) (hb:PSs X body tb):PS X (.While c body [] pos) (xA tc tb):=by
 intro pins s σ H D I h
 obtain ⟨W,⟨m0,w0⟩,turn⟩:=h
 refine wpAny_While (codeAny_whileLoop (fun n s'=>∃ σ' H',Inv X pins σ' H' s'/\W n σ' H') ?_ m0 ⟨σ,H,I,w0⟩)
 rintro n s1 ⟨σ1,H1,I1,w1⟩
 refine QT hp (thn (hc pins s1 σ1 H1 _ I1 (turn n σ1 H1 w1)) fun b s2 zq=>?_)
 obtain ⟨H2,I2,q2⟩:=zq
 cases b with
 | true =>
  obtain ⟨N,hN,q2⟩:=q2
  rw[if_pos rfl]
  refine QT hp (thn (hb pins s2 σ1 H2 _ I2 q2) fun f s3 q3=>?_)
  cases f with
  | next =>
   obtain ⟨σ3,H3,I3,n3⟩:=q3
   obtain ⟨m',hm,w3⟩:=hN σ3 H3 n3
   exact ⟨m',hm,σ3,H3,I3,w3⟩
  | cont =>
   obtain ⟨σ3,H3,I3,n3⟩:=q3
   obtain ⟨m',hm,w3⟩:=hN σ3 H3 n3
   exact ⟨m',hm,σ3,H3,I3,w3⟩
  | brk=>exact q3
  | ret v=>exact q3
 | false =>
  rw[if_neg QD]
  exact Sa ⟨σ1,H2,I2,q2⟩
end
structure It where
 go:Nat->Hp->Prop
 yld:Nat->Hp->V->Hp->Prop
 stop:Nat->Hp->Prop
noncomputable def mh (X:Cx) (pins:List (O9×Obj)) (H:Hp) (b:O9):Prop :=
 H b=none/\b≠X.env.locals/\b∉X.fs/\(b∈X.ex\/X.s₀.heap.objs.size<=b)/\(∀ x c,X.env.cells.lookup x=some c->c≠b)/\∀ p∈X.pn++pins,p.1≠b
theorem Inv.Be (I:Inv X pins σ H s) (hb:s.heap.objs.size<=b) (hn:H' b=none):mh X pins H' b:=by
 refine ⟨hn,R0 (Pw I.lt hb),I.Mx hb,.inr (PD I.sz hb),fun x c e z=>?_,fun p hp z=>?_⟩
 ·obtain ⟨v,q⟩:=I.cell x c e
  exact absurd (Pw q.lt (by rw[z];exact hb)) (PZ _)
 ·exact absurd (Pw (O7 (I.pin p hp).1) (by rw[z];exact hb)) (PZ _)
structure Turn (P:Pv) (w:P0) (K:OX) (tg:Expr) (J:It) (fp:List O9) (it:O9) (tn:Nat->Heap->Prop):Prop where
 mem:it∈fp
 obj:∀ i h,tn i h->∀ b∈fp,∃ o,h.get? b=some o/\∀ v,o.data≠.cell v
 keep:∀ i h h',tn i h->(∀ b∈fp,∀ o,h.get? b=some o->h'.get? b=some o)->tn i h'
 item:∀ (X:Cx),X.prog=P->X.w=w->X.K=K->X.calm=true->∀ (i:Nat) (pins:List (O9×Obj)) (s:O4) (σ:St) (H:Hp) (E:Value->O4->Prop),Inv X pins σ H s->(∀ b∈fp,mh X pins H b)->tn i s.heap->J.go i H →
  wpAny (Pp P w) X.A (pyNext (.ref it)) (fun r s1=>∃ u,r=some u ∧
   wpAny (Pp P w) X.A (S9 tg (.ref it) u) (fun _ s2=>∃ x H',Inv X pins σ H' s2/\RelV x u/\J.yld i H x H'/\tn (i+1) s2.heap/\∀ b∈fp,H' b=none) E s1) E s
 done:∀ (X:Cx),X.prog=P->X.w=w->X.K=K->X.calm=true->∀ (i:Nat) (pins:List (O9×Obj)) (s:O4) (σ:St) (H:Hp) (E:Value->O4->Prop),Inv X pins σ H s->(∀ b∈fp,mh X pins H b)->tn i s.heap->J.stop i H →
  wpAny (Pp P w) X.A (pyNext (.ref it)) (fun r s1=>r=none/\Inv X pins σ H s1) E s
 self:∀ (A:QV) (i:Nat) (s:O4) (Q:Value->O4->Prop) (E:Value->O4->Prop),tn i s.heap->Q (.ref it) s->wpAny (Pp P w) A (pyIter (.ref it)) Q E s
noncomputable abbrev TI:=St->Hp->(It->Hp->Prop)->Prop
noncomputable def PIE (X:Cx) (pins:List (O9×Obj)) (σ:St) (tg:Expr) (R:It->Hp->Prop) (itv:Value) (s2:O4):Prop :=
 ∃ (it:O9) (fp:List O9) (tn:Nat->Heap->Prop) (J:It) (H':Hp),itv=.ref it/\Inv X pins σ H' s2/\Turn X.prog X.w X.K tg J fp it tn/\tn 0 s2.heap/\(∀ b∈fp,mh X pins H' b)/\R J H'
noncomputable def PI (X:Cx) (tg iter:Expr) (wi:TI):Prop :=
 ∀ (pins:List (O9×Obj)) (s:O4) (σ:St) (H:Hp) (R:It->Hp->Prop),Inv X pins σ H s->wi σ H R →
  wpAny (Pp X.prog X.w) X.A (eval iter X.env) (fun v s1=>wpAny (Pp X.prog X.w) X.A (pyIter v) (PIE X pins σ tg R) X.xe s1) X.xe s
theorem tM {E:Value->O4->Prop} (ho:s.heap.get? it=some o) (hc:o.cls=.type n) (hd:o.data=.fields vs)
 (hn:["enumerate","zip","dict_itemiterator","dict_reverseitemiterator","odict_iterator","itertools.zip_longest","itertools.pairwise"].contains n=false) (hQ:Q () s):wpAny M A (S9 tg (.ref it) u) Q E s:=by
 unfold S9
 cases tg<;>first
  | exact wpAny_pure hQ
  | (cases u<;>first
   | exact wpAny_pure hQ
   | (refine O0 (wpAny_load ho ?_)
      rw[hc,hd]
      show wpAny M A (if (["enumerate","zip","dict_itemiterator","dict_reverseitemiterator","odict_iterator","itertools.zip_longest","itertools.pairwise"].contains n&&vs[0]?==some (Sd _))=true then _ else _) Q E s
      rw[if_neg (by intro h;rw[hn,Bool.false_and] at h;cases h)]
      exact wpAny_pure hQ))
noncomputable def Itl (K:OX) (a:O9):It :=
 ⟨fun i H=>∃ xs x,SqL K H a xs/\xs[i]?=some x,fun i H x H'=>H'=H/\∀ xs,SqL K H a xs->xs[i]?=some x,fun i H=>∃ xs,SqL K H a xs/\xs.length<=i⟩
noncomputable def Itt (K:OX) (a:O9):It :=
 ⟨fun i H=>∃ xs x,SqT K H a xs/\xs[i]?=some x,fun i H x H'=>H'=H/\∀ xs,SqT K H a xs->xs[i]?=some x,fun i H=>∃ xs,SqT K H a xs/\xs.length<=i⟩
noncomputable def Itr (lo:Int) (n:Nat):It:=⟨fun i _=>i < n,fun i H x H'=>H'=H/\x=.int (lo+i),fun i _=>n<=i⟩
theorem vj {K:OX} (a it:O9):Turn P w K tg (Itl K a) [it] it (fun i h=>h.IsListIter it a i) where
 mem:=by simp
 obj:=fun i h st b hb=>by
  have e:b=it:=by simpa using hb
  subst e
  obtain ⟨o,e,c,d⟩:=st
  exact ⟨o,e,fun v z=>by rw[d] at z;cases z⟩
 keep:=fun i h h' st k=>st.at fun o e=>k it (by simp) o e
 item:=by
  intro X hP hw hK hc i pins s σ H E I hf st hg
  subst hP hw hK
  obtain ⟨xs,x,hq,hx⟩:=hg
  obtain ⟨its,rv,p,hz⟩:=I.list hq
  obtain ⟨u,hu,ru⟩:=rv.get hx
  obtain ⟨f0,f1,f2,f3,f4,f5⟩:=hf it (by simp)
  refine wpAny_pyNext_list_item st p.isList (x:=u) (by simpa using hu) fun h' st' sb=>?_
  have I1:Inv X pins σ H { s with heap:=h' }:=I.turned (t':=s.toks) (fun b o hb e=>(sb.2 b hb).trans e) f0 f1 f3 f4 f5
  obtain ⟨o,e,c,d⟩:=id st'
  exact ⟨u,rfl,tM (s:={ s with heap:=h' }) e c d (by decide) ⟨x,H,I1,ru,⟨rfl,fun ys hy=>by rw[I.pG hy hq];exact hx⟩,st',fun b hb=>(hf b hb).1⟩⟩
 done:=by
  intro X hP hw hK hc i pins s σ H E I hf st hg
  subst hP hw hK
  obtain ⟨xs,hq,hx⟩:=hg
  obtain ⟨its,rv,p,hz⟩:=I.list hq
  obtain ⟨f0,f1,f2,f3,f4,f5⟩:=hf it (by simp)
  have hl:=rv.length
  exact wpAny_pyNext_list_end (I.ok.hd hc) st p.isList (by simp;lia) fun h' eb=>⟨rfl,I.turned (t':=s.toks) (fun b o hb e=>eb b o hb e) f0 f1 f3 f4 f5⟩
 self:=fun _ _ _ _ _ st h=>wpAny_pyIter_listiter st h
theorem rB {K:OX} (a it:O9):Turn P w K tg (Itt K a) [it] it (fun i h=>h.IsTupleIter it a i) where
 mem:=by simp
 obj:=fun i h st b hb=>by
  have e:b=it:=by simpa using hb
  subst e
  obtain ⟨o,e,c,d⟩:=st
  exact ⟨o,e,fun v z=>by rw[d] at z;cases z⟩
 keep:=fun i h h' st k=>st.at fun o e=>k it (by simp) o e
 item:=by
  intro X hP hw hK hc i pins s σ H E I hf st hg
  subst hP hw hK
  obtain ⟨xs,x,hq,hx⟩:=hg
  obtain ⟨its,rv,p,hz⟩:=I.tuple hq
  obtain ⟨u,hu,ru⟩:=rv.get hx
  obtain ⟨f0,f1,f2,f3,f4,f5⟩:=hf it (by simp)
  refine wpAny_pyNext_tuple_item st (show s.heap.IsTuple a its.toArray from p) (x:=u) (by simpa using hu) fun h' st' sb=>?_
  have I1:Inv X pins σ H { s with heap:=h' }:=I.turned (t':=s.toks) (fun b o hb e=>(sb.2 b hb).trans e) f0 f1 f3 f4 f5
  obtain ⟨o,e,c,d⟩:=id st'
  exact ⟨u,rfl,tM (s:={ s with heap:=h' }) e c d (by decide) ⟨x,H,I1,ru,⟨rfl,fun ys hy=>by rw[I.vg hy hq];exact hx⟩,st',fun b hb=>(hf b hb).1⟩⟩
 done:=by
  intro X hP hw hK hc i pins s σ H E I hf st hg
  subst hP hw hK
  obtain ⟨xs,hq,hx⟩:=hg
  obtain ⟨its,rv,p,hz⟩:=I.tuple hq
  obtain ⟨f0,f1,f2,f3,f4,f5⟩:=hf it (by simp)
  have hl:=rv.length
  exact wpAny_pyNext_tuple_end (I.ok.hd hc) st (show s.heap.IsTuple a its.toArray from p) (by simp;lia) fun h' eb=>⟨rfl,I.turned (t':=s.toks) (fun b o hb e=>eb b o hb e) f0 f1 f3 f4 f5⟩
 self:=fun _ _ _ _ _ st h=>wpAny_pyIter_tupleiter st h
theorem rC {K:OX} (it:O9) (lo:Int) (n:Nat):Turn P w K tg (Itr lo n) [it] it (fun i h=>IsRangeIter h it (lo+(i:Nat)*1) ((n:Int) - (i:Nat)) 1) where
 mem:=by simp
 obj:=fun i h st b hb=>by
  have e:b=it:=by simpa using hb
  subst e
  exact ⟨_,st,fun v z=>by
   have z':Data.fields _=Data.cell v:=z
   cases z'⟩
 keep:=fun i h h' st k=>k it (by simp) _ st
 item:=by
  intro X hP hw hK hc i pins s σ H E I hf st hg
  subst hP hw hK
  obtain ⟨f0,f1,f2,f3,f4,f5⟩:=hf it (by simp)
  have W:=Walks.range (prog:=X.prog) (w:=X.w) (I.ok.hd hc) it lo 1 n
  refine W.item i s _ _ hg st fun v h' tk hv st' kk=>?_
  obtain ⟨t,rfl⟩:=hv
  have I1:Inv X pins σ H { s with heap:=h',toks:=tk }:=I.turned (fun b o hb e=>kk b o (by simpa using hb) e) f0 f1 f3 f4 f5
  refine ⟨_,rfl,tM (s:={ s with heap:=h',toks:=tk }) (n:="range_iterator") st' rfl rfl (by decide) ⟨.int (lo+i),H,I1,⟨t,?_⟩,⟨rfl,rfl⟩,st',fun b hb=>(hf b hb).1⟩⟩
  rw[Int.mul_one]
 done:=by
  intro X hP hw hK hc i pins s σ H E I hf st hg
  subst hP hw hK
  obtain ⟨f0,f1,f2,f3,f4,f5⟩:=hf it (by simp)
  exact wpAny_pyNext_range_end (I.ok.hd hc) st (by have:n<=i:=hg;lia) fun h' eb=>⟨rfl,I.turned (t':=s.toks) (fun b o hb e=>eb b o hb e) f0 f1 f3 f4 f5⟩
 self:=fun _ _ _ _ _ st h=>wpAny_pyIter_rangeiter st h
end L2
namespace L2
open PySem PySem.Spec PyProof.Rows
section
noncomputable def IQ (K:OX) (tl:TE):TI:=fun σ H R=>tl σ H fun x H1=>∃ a,x=.ref a/\(∃ xs,SqL K H1 a xs)/\R (Itl K a) H1
noncomputable def MF (K:OX) (tl:TE):TI:=fun σ H R=>tl σ H fun x H1=>∃ a,x=.ref a/\(∃ xs,SqT K H1 a xs)/\R (Itt K a) H1
theorem tN (hl:PE X l tl):PI X tg l (IQ X.K tl):=by
 intro pins s σ H R I h
 refine thn (hl pins s σ H _ I h) fun v s1 zq=>?_
 obtain ⟨x,H1,I1,r1,q1⟩:=zq
 obtain ⟨a,e,⟨xs,hq⟩,q⟩:=q1
 subst e
 cases r1
 obtain ⟨its,rv,p,hz⟩:=I1.list hq
 refine wpAny_pyIter_list p.isList ?_
 refine ⟨s1.heap.objs.size,[s1.heap.objs.size],_,_,H1,rfl,I1.kept (t':=s1.toks) fun b o e=>OZ _ e,vj a _,⟨_,Pf _ rfl,rfl,rfl⟩,fun b hb=>?_,q⟩
 have e:b=s1.heap.objs.size:=by simpa using hb
 subst e
 exact I1.Be (O8 _) (I1.hok.fresh (O8 _))
theorem EV (hl:PE X l tl):PI X tg l (MF X.K tl):=by
 intro pins s σ H R I h
 refine thn (hl pins s σ H _ I h) fun v s1 zq=>?_
 obtain ⟨x,H1,I1,r1,q1⟩:=zq
 obtain ⟨a,e,⟨xs,hq⟩,q⟩:=q1
 subst e
 cases r1
 obtain ⟨its,rv,p,hz⟩:=I1.tuple hq
 refine wpAny_pyIter_tuple (show s1.heap.IsTuple a its.toArray from p) ?_
 refine ⟨s1.heap.objs.size,[s1.heap.objs.size],_,_,H1,rfl,I1.kept (t':=s1.toks) fun b o e=>OZ _ e,rB a _,⟨_,Pf _ rfl,rfl,rfl⟩,fun b hb=>?_,q⟩
 have e:b=s1.heap.objs.size:=by simpa using hb
 subst e
 exact I1.Be (O8 _) (I1.hok.fresh (O8 _))
theorem pL {E:Value->O4->Prop}{lo:Int} (I:Inv X pins σ H s) (h1:-(2 ^ 62)<=lo) (h2:lo < 2 ^ 62) (h3:-(2 ^ 62)<=hi) (h4:hi < 2 ^ 62)
 (q:R (Itr lo (hi - lo).toNat) H):wpAny (Pp X.prog X.w) X.A (pyIter (.ref s.heap.objs.size)) (PIE X pins σ tg R) E { s with heap:=s.heap.push { cls:=.type "range",data:=.fields #[.int lo t,.int hi u,.int 1 v] },toks:=tk }:=by
 refine wpAny_pyIter_range (T4 ..) (small_one h1 h2 h3 h4) ?_
 have I1:Inv X pins σ H { s with heap:=s.heap.push { cls:=.type "range",data:=.fields #[.int lo t,.int hi u,.int 1 v] },toks:=tk }:=I.kept fun b o e=>OZ _ e
 refine ⟨(s.heap.push { cls:=.type "range",data:=.fields #[.int lo t,.int hi u,.int 1 v] }).objs.size,[(s.heap.push { cls:=.type "range",data:=.fields #[.int lo t,.int hi u,.int 1 v] }).objs.size],_,_,H,rfl,
  I1.kept (t':=tk) fun b o e=>OZ _ e,rC _ lo (hi - lo).toNat,?_,fun b hb=>?_,q⟩
 ·have e1:lo+((0:Nat):Int)*1=lo:=by simp
  have e2:(((hi - lo).toNat:Nat):Int) - ((0:Nat):Int)=RO lo hi 1:=by rw[Vp];split<;>lia
  show IsRangeIter _ _ (lo+((0:Nat):Int)*1) ((((hi - lo).toNat:Nat):Int) - ((0:Nat):Int)) 1
  rw[e1,e2]
  exact Pf _ rfl
 ·have e:b=(s.heap.push { cls:=.type "range",data:=.fields #[.int lo t,.int hi u,.int 1 v] }).objs.size:=by simpa using hb
  subst e
  exact I1.Be (O8 _) (I1.hok.fresh (O8 _))
noncomputable def IR (ta:TA):TI:=fun σ H R=>ta σ H fun vs H1=>∃ j:Int,vs=[.int j]/\-(2 ^ 62)<=j/\j < 2 ^ 62/\R (Itr 0 j.toNat) H1
noncomputable def IS (ta:TA):TI:=fun σ H R=>ta σ H fun vs H1=>∃ i j:Int,vs=[.int i,.int j]/\(-(2 ^ 62)<=i/\i < 2 ^ 62/\-(2 ^ 62)<=j/\j < 2 ^ 62)/\R (Itr i (j - i).toNat) H1
theorem vm (hg:Gl X "range") (hm:X.mg "range"=none) (ha:PA X [a] ta) (hs:Pu [a] X.env=[(false,eval a X.env)]:=by rfl):PI X tg (.Call (.Name "range" p) [a] [] pos) (IR ta):=by
 intro pins s σ H R I h
 refine U8 (bR I hg hm boot_range (Pj (thn (ha pos pins s σ H _ I h) fun us s1 ⟨vs,H1,I1,r1,q1⟩=>?_) hs rfl))
 obtain ⟨j,e,q1,q2,q⟩:=q1
 subst e
 cases r1 with
 | cons r rr =>
  cases rr
  obtain ⟨t,rfl⟩:=r
  exact call_range_1 (pL I1 (by lia) (by lia) q1 q2 (by simpa using q))
theorem vn (hg:Gl X "range") (hm:X.mg "range"=none) (ha:PA X [a,b] ta) (hs:Pu [a,b] X.env=[(false,eval a X.env),(false,eval b X.env)]:=by rfl) (hs2:Pu [b] X.env=[(false,eval b X.env)]:=by rfl) :
 PI X tg (.Call (.Name "range" p) [a,b] [] pos) (IS ta):=by
 intro pins s σ H R I h
 refine U8 (bR I hg hm boot_range (Pj (thn (ha pos pins s σ H _ I h) fun us s1 ⟨vs,H1,I1,r1,q1⟩=>?_) (by rw[hs,hs2]) (by rw[hs2];rfl)))
 obtain ⟨i,j,e,⟨q1,q2,q3,q4⟩,q⟩:=q1
 subst e
 cases r1 with
 | cons r rr =>
  cases rr with
  | cons r' rr =>
   cases rr
   obtain ⟨t,rfl⟩:=r
   obtain ⟨t',rfl⟩:=r'
   exact call_range_2 (pL I1 q1 q2 q3 q4 q)
noncomputable def IT (wi:TI) (g:TG) (tb:TS):TS:=fun D σ H=>wi σ H fun J H1=>∃ W:Nat->Nat->St->Hp->Prop,(∃ m,W 0 m σ H1)/\∀ i m σ H,W i m σ H →
 (J.stop i H/\D.nx σ H)\/(J.go i H/\∃ N:St->Hp->Prop,(∀ σ' H',N σ' H'->∃ m',m' < m/\W (i+1) m' σ' H')/\∀ x H',J.yld i H x H'->g x σ H' fun σ2 H2=>tb { D with nx:=N,ct:=N,bk:=D.nx } σ2 H2)
noncomputable def jx (fp:List O9) (h:Heap):List (O9×Obj):=fp.filterMap fun b=>(h.get? b).map fun o=>(b,o)
theorem fN (hb:b∈fp) (e:h.get? b=some o):(b,o)∈jx fp h:=List.mem_filterMap.mpr ⟨b,hb,by rw[e];rfl⟩
theorem vo (hp:p∈jx fp h):p.1∈fp/\h.get? p.1=some p.2:=by
 obtain ⟨b,hb,e⟩:=List.mem_filterMap.mp hp
 cases q:h.get? b with
 | none=>rw[q] at e;cases e
 | some o =>
  rw[q] at e
  have e':(b,o)=p:=O5 e
  subst e'
  exact ⟨hb,q⟩
theorem Inv.pinned (I:Inv X pins σ H s) (hf:∀ b∈fp,mh X pins H b) (ho:∀ b∈fp,∃ o,s.heap.get? b=some o/\∀ v,o.data≠.cell v):Inv X (pins++jx fp s.heap) σ H s :=
 I.kr fun p hp=>(List.mem_append.mp hp).elim (fun z=>I.pin p (PV _ z)) fun z=>by
  obtain ⟨hb,e⟩:=vo z
  obtain ⟨f0,f1,f2,_⟩:=hf p.1 hb
  obtain ⟨o,e',d⟩:=ho p.1 hb
  rw[e] at e';cases e'
  exact ⟨e,f0,f1,f2,d⟩
theorem Inv.iW (I:Inv X (pins++pl) σ H s):Inv X pins σ H s:=I.kr fun p hp=>I.pin p (PV _ (Q8 _ hp))
theorem EW {wi:TI} (hp:UQ (Pp X.prog X.w) X.A X.env X.xe) (hc:X.calm=true) (hi:PI X tg iter wi) (hg:PG X tg g) (hb:PSs X body tb)
 (hs:∀ x,foldedSetIterable iter X.env x=pure x:=by intro _;rfl):PS X (.For tg iter body [] pos) (IT wi g tb):=by
 intro pins s σ H D I h
 refine wpAny_For (thn (hi pins s σ H _ I h) fun v s1 h1=>thn h1 fun itv s2 h2=>?_) hs
 obtain ⟨it,fp,tn,J,H2,e,I2,T,st2,f2,W,⟨m0,w0⟩,turn⟩:=h2
 subst e
 have stat:∀ {H':Hp},(∀ b∈fp,H' b=none)->∀ b∈fp,mh X pins H' b:=fun hn b hb=>⟨hn b hb,(f2 b hb).2⟩
 refine codeAny_forLoop_any (fun n s'=>∃ i σ' H',Inv X pins σ' H' s'/\tn i s'.heap/\(∀ b∈fp,H' b=none)/\W i n σ' H') ?_ m0 ⟨0,σ,H2,I2,st2,fun b hb=>(f2 b hb).1,w0⟩
 rintro n s3 ⟨i,σ3,H3,I3,st3,fr3,w3⟩
 rcases turn i n σ3 H3 w3 with ⟨stop,qn⟩ | ⟨go,N,hN,step⟩
 ·refine QT hp (thn (T.done X rfl rfl rfl hc i pins s3 σ3 H3 X.xe I3 (stat fr3) st3 stop) fun r s4 zq=>?_)
  obtain ⟨hr,I4⟩:=zq
  subst hr
  exact Sa ⟨σ3,H3,I4,qn⟩
 ·refine QT hp (thn (T.item X rfl rfl rfl hc i pins s3 σ3 H3 X.xe I3 (stat fr3) st3 go) fun r s4 zq=>?_)
  obtain ⟨u,hr,h4⟩:=zq
  subst hr
  refine QT hp (thn h4 fun _ s5 zq=>?_)
  obtain ⟨x,H5,I5,r5,y5,st5,fr5⟩:=zq
  have I5':=I5.pinned (stat fr5) (T.obj _ _ st5)
  refine QT hp (thn (hg _ s5 σ3 H5 x u _ I5' r5 (step x H5 y5)) fun _ s6 zq=>?_)
  obtain ⟨σ6,H6,I6,q6⟩:=zq
  refine QT hp (thn (hb _ s6 σ6 H6 _ I6 q6) fun f s7 q7=>?_)
  have again:∀ {σ7:St}{H7:Hp},Inv X (pins++jx fp s5.heap) σ7 H7 s7->N σ7 H7->∃ m,m < n/\∃ i σ' H',Inv X pins σ' H' s7/\tn i s7.heap/\(∀ b∈fp,H' b=none)/\W i m σ' H':=fun {σ7 H7} I7 n7=>by
   obtain ⟨m',hm,w7⟩:=hN σ7 H7 n7
   refine ⟨m',hm,i+1,σ7,H7,I7.iW,T.keep _ _ _ st5 fun b hb o e=>(I7.pin (b,o) (PV _ (PV _ (fN hb e)))).1,fun b hb=>?_,w7⟩
   obtain ⟨o,e,d⟩:=T.obj _ _ st5 b hb
   exact (I7.pin (b,o) (PV _ (PV _ (fN hb e)))).2.1
  cases f with
  | next=>obtain ⟨σ7,H7,I7,n7⟩:=q7;exact again I7 n7
  | cont=>obtain ⟨σ7,H7,I7,n7⟩:=q7;exact again I7 n7
  | brk=>obtain ⟨σ7,H7,I7,q7⟩:=q7;exact ⟨σ7,H7,I7.iW,q7⟩
  | ret v=>obtain ⟨x7,σ7,H7,I7,r7,q7⟩:=q7;exact ⟨x7,σ7,H7,I7.iW,r7,q7⟩
end
end L2
namespace L2
open PySem PySem.Spec PyProof.Rows
noncomputable abbrev R2:=V->V->Hp->VK->Prop
noncomputable def OpR (X:Cx) (f:Value->Value->Sem Value) (r:R2):Prop :=
 ∀ (pins:List (O9×Obj)) (s:O4) (σ:St) (H:Hp) (x y:V) (v u:Value) (Q:VK),Inv X pins σ H s->RelV x v->RelV y u->r x y H Q →
  wpAny (Pp X.prog X.w) X.A (f v u) (EP X pins σ Q) X.xe s
noncomputable def UnR (X:Cx) (f:Value->Sem Value) (r:V->Hp->VK->Prop):Prop :=
 ∀ (pins:List (O9×Obj)) (s:O4) (σ:St) (H:Hp) (x:V) (v:Value) (Q:VK),Inv X pins σ H s->RelV x v->r x H Q →
  wpAny (Pp X.prog X.w) X.A (f v) (EP X pins σ Q) X.xe s
noncomputable def bW (X:Cx) (f:Value) (r:List V->Hp->VK->Prop):Prop :=
 ∀ (pins:List (O9×Obj)) (s:O4) (σ:St) (H:Hp) (xs:List V) (us:List Value) (Q:VK),Inv X pins σ H s->ao xs us->r xs H Q →
  wpAny (Pp X.prog X.w) X.A (call f us) (EP X pins σ Q) X.xe s
noncomputable def tOp (r:R2) (ta tb:TE):TE:=fun σ H Q=>ta σ H fun x H1=>tb σ H1 fun y H2=>r x y H2 Q
noncomputable def tUn (r:V->Hp->VK->Prop) (ta:TE):TE:=fun σ H Q=>ta σ H fun x H1=>r x H1 Q
noncomputable def rI (C:Int->Int->Prop) (g:Int->Int->V):R2:=fun x y H Q=>∃ i j,x=.int i/\y=.int j/\C i j/\Q (g i j) H
noncomputable def rI0 (g:Int->Int->V):R2:=fun x y H Q=>∃ i j,x=.int i/\y=.int j/\Q (g i j) H
noncomputable def rU (g:Int->V):V->Hp->VK->Prop:=fun x H Q=>∃ i,x=.int i/\Q (g i) H
section
theorem EX (ha:PE X a ta) (hb:PE X b tb) {pins:List (O9×Obj)}{s:O4}{σ:St}{H:Hp}{R:V->V->Hp->Prop} (I:Inv X pins σ H s)
 (h:ta σ H fun x H1=>tb σ H1 fun y H2=>R x y H2) {Q:Value->O4->Prop}{f:Value->Value->Sem Value}
 (hf:∀ v u s2 x y H2,Inv X pins σ H2 s2->RelV x v->RelV y u->R x y H2->wpAny (Pp X.prog X.w) X.A (f v u) Q X.xe s2) :
 wpAny (Pp X.prog X.w) X.A (eval a X.env) (fun v s₁=>wpAny (Pp X.prog X.w) X.A (eval b X.env) (fun u s₂=>wpAny (Pp X.prog X.w) X.A (f v u) Q X.xe s₂) X.xe s₁) X.xe s:=by
 refine thn (ha pins s σ H _ I h) fun v s1 zq=>?_
 obtain ⟨x,H1,I1,r1,q1⟩:=zq
 refine thn (hb pins s1 σ H1 _ I1 q1) fun u s2 zq=>?_
 obtain ⟨y,H2,I2,r2,q2⟩:=zq
 exact hf v u s2 x y H2 I2 r1 r2 q2
theorem D4 {op:Tt}{r:R2} (ho:OpR X (Qq op) r) (ha:PE X a ta) (hb:PE X b tb):PE X (.BinOp a op b pos) (tOp r ta tb):=by
 intro pins s σ H Q I h
 exact wpAny_BinOp (EX ha hb I h fun v u s2 x y H2 I2 rx ry q=>ho pins s2 σ H2 x y v u Q I2 rx ry q)
theorem D5 (ho:UnR X (unaryOp op) r) (ha:PE X a ta):PE X (.UnaryOp op a pos) (tUn r ta):=by
 intro pins s σ H Q I h
 exact UnaryOp_ (thn (ha pins s σ H _ I h) fun v s1 ⟨x,H1,I1,r1,q1⟩=>ho pins s1 σ H1 x v Q I1 r1 q1)
theorem opI {f:Value->Value->Sem Value}{C:Int->Int->Prop}{g:Int->Int->Int}
 (rule:∀ (i j:Int) (t u:Tok) (s:O4) (Q:Value->O4->Prop) (E:Value->O4->Prop),C i j->Q (.int (g i j) s.toks) { s with toks:=s.toks+1 }->wpAny (Pp X.prog X.w) X.A (f (.int i t) (.int j u)) Q E s) :
 OpR X f (rI C fun i j=>.int (g i j)):=by
 intro pins s σ H x y v u Q I rx ry h
 obtain ⟨i,j,rfl,rfl,hc,q⟩:=h
 obtain ⟨t,rfl⟩:=rx
 obtain ⟨t',rfl⟩:=ry
 exact rule i j t t' s _ _ hc ⟨.int (g i j),H,I.tok _,⟨_,rfl⟩,q⟩
theorem IU {f:Value->Value->Sem Value}{g:Int->Int->Int}
 (rule:∀ (i j:Int) (t u:Tok) (s:O4) (Q:Value->O4->Prop) (E:Value->O4->Prop),Q (.int (g i j) s.toks) { s with toks:=s.toks+1 }->wpAny (Pp X.prog X.w) X.A (f (.int i t) (.int j u)) Q E s) :
 OpR X f (rI0 fun i j=>.int (g i j)):=by
 intro pins s σ H x y v u Q I rx ry h
 obtain ⟨i,j,rfl,rfl,q⟩:=h
 obtain ⟨t,rfl⟩:=rx
 obtain ⟨t',rfl⟩:=ry
 exact rule i j t t' s _ _ ⟨.int (g i j),H,I.tok _,⟨_,rfl⟩,q⟩
theorem Bf {f:Value->Value->Sem Value}{g:Int->Int->Bool}
 (rule:∀ (i j:Int) (t u:Tok) (s:O4) (Q:Value->O4->Prop) (E:Value->O4->Prop),Q (.bool (g i j)) s->wpAny (Pp X.prog X.w) X.A (f (.int i t) (.int j u)) Q E s) :
 OpR X f (rI0 fun i j=>.bl (g i j)):=by
 intro pins s σ H x y v u Q I rx ry h
 obtain ⟨i,j,rfl,rfl,q⟩:=h
 obtain ⟨t,rfl⟩:=rx
 obtain ⟨t',rfl⟩:=ry
 exact rule i j t t' s _ _ ⟨.bl (g i j),H,I,rfl,q⟩
noncomputable def MG (i j:Int):Prop:=0 < j/\j < 1073741824
noncomputable def MH (i j:Int):Prop:=0<=j/\j<=1000000/\i.natAbs < 2 ^ 64
noncomputable def Bg (i j:Int):Prop:=(-(2 ^ 64) < i/\i < 2 ^ 64)\/(-(2 ^ 64) < j/\j < 2 ^ 64)
theorem Bg.ok (h:Bg i j):IntMulOk i j:=by
 rcases h with ⟨h1,h2⟩ | ⟨h1,h2⟩
 ·exact .of_left (intBits_le_64 h1 h2)
 ·exact .of_right (intBits_le_64 h1 h2)
theorem EY:OpR X (Qq .Add) (rI0 fun i j=>.int (i+j)):=IU fun _ _ _ _ _ _ _ q=>add_int q
theorem EZ:OpR X (Qq .Sub) (rI0 fun i j=>.int (i - j)):=IU fun _ _ _ _ _ _ _ q=>sub_int q
theorem E2:OpR X (Qq .Mult) (rI Bg fun i j=>.int (i*j)):=opI fun _ _ _ _ _ _ _ hc q=>mul_int q hc.ok
theorem Bh:OpR X (Qq .FloorDiv) (rI MG fun i j=>.int (i / j)):=opI fun i j _ _ _ _ _ hc q=>by
 have h1:(0:Int) < j:=hc.1
 have h2:j < 1073741824:=hc.2
 exact floordiv_int (by lia) (by rw[Int.fdiv_eq_ediv_of_nonneg i (by lia)];exact q) (.inl (PyProof.noPylong_small (by lia)))
theorem E3:OpR X (Qq .Mod) (rI (fun _ j=>0 < j) fun i j=>.int (i % j)):=opI fun i j _ _ _ _ _ hc q=>by
 have h1:(0:Int) < j:=hc
 exact mod_int' (by lia) (by rw[Int.fmod_eq_emod_of_nonneg i (by lia)];exact q)
theorem E4:OpR X (Qq .Pow) (rI MH fun i j=>.int (i ^ j.toNat)):=opI fun _ _ _ _ _ _ _ hc q=>pow_int_small hc.1 hc.2.1 hc.2.2 q
theorem unI {f:Value->Sem Value}{g:Int->Int}
 (rule:∀ (i:Int) (t:Tok) (s:O4) (Q:Value->O4->Prop) (E:Value->O4->Prop),Q (.int (g i) s.toks) { s with toks:=s.toks+1 }->wpAny (Pp X.prog X.w) X.A (f (.int i t)) Q E s) :
 UnR X f (rU fun i=>.int (g i)):=by
 intro pins s σ H x v Q I rx h
 obtain ⟨i,rfl,q⟩:=h
 obtain ⟨t,rfl⟩:=rx
 exact rule i t s _ _ ⟨.int (g i),H,I.tok _,⟨_,rfl⟩,q⟩
theorem xF:UnR X (unaryOp .USub) (rU fun i=>.int (-i)):=unI fun _ _ _ _ _ q=>neg_int q
end
section
theorem xG (I:Inv X pins σ H s) (q:Q (.bl k) H) (e:k=k'):EP X pins σ Q (.bool k') s:=by
 subst e
 exact ⟨.bl k,H,I,rfl,q⟩
theorem IV:OpR X (P4 .Lt) (rI0 fun i j=>.bl (decide (i < j))):=Bf fun _ _ _ _ _ _ _ q=>lt_int q
theorem IW:OpR X (P4 .LtE) (rI0 fun i j=>.bl (decide (i<=j))):=Bf fun _ _ _ _ _ _ _ q=>le_int q
theorem IX:OpR X (P4 .Gt) (rI0 fun i j=>.bl (decide (j < i))):=Bf fun _ _ _ _ _ _ _ q=>gt_int q
theorem IY:OpR X (P4 .GtE) (rI0 fun i j=>.bl (decide (j<=i))):=Bf fun _ _ _ _ _ _ _ q=>ge_int q
theorem E5:OpR X (P4 .Is) (fun x y H Q=>y=.non/\Q (.bl (decide (x=.non))) H):=by
 intro pins s σ H x y v u Q I rx ry h
 obtain ⟨rfl,q⟩:=h
 cases ry
 refine is_none_gen (xG I q ?_)
 cases x<;>first
  | (cases rx;rfl)
  | (obtain ⟨t,rfl⟩:=rx;rfl)
theorem Bj:OpR X (P4 .IsNot) (fun x y H Q=>y=.non/\Q (.bl (!decide (x=.non))) H):=by
 intro pins s σ H x y v u Q I rx ry h
 obtain ⟨rfl,q⟩:=h
 cases ry
 refine isnot_none_gen (xG I q ?_)
 cases x<;>first
  | (cases rx;rfl)
  | (obtain ⟨t,rfl⟩:=rx;rfl)
theorem Bk {op:CmpOp}{r:R2} (ho:OpR X (P4 op) r) (ha:PE X a ta) (hb:PE X b tb) (hm:SH op b=false):PE X (.Compare a [op] [b] pos) (tOp r ta tb):=by
 intro pins s σ H Q I h
 exact wpAny_Compare1 (EX ha hb I h fun v u s2 x y H2 I2 rx ry q=>ho pins s2 σ H2 x y v u Q I2 rx ry q) hm
noncomputable def xH (t:TE):TT:=fun σ H Q=>t σ H fun x H'=>∃ k,x=.bl k/\Q k H'
theorem Bl (ho:OpR X (P4 op) r) (ha:PE X a ta) (hb:PE X b tb) (hm:SH op b=false):PT X (.Compare a [op] [b] pos) (xH (tOp r ta tb)):=by
 intro pins s σ H Q I h
 refine S7 (thn (ha pins s σ H _ I h) fun v s1 ⟨x,H1,I1,r1,q1⟩=>thn (hb pins s1 σ H1 _ I1 q1) fun u s2 ⟨y,H2,I2,r2,q2⟩ =>
  thn (ho pins s2 σ H2 x y v u _ I2 r1 r2 q2) fun c s3 ⟨z,H3,I3,r3,k,e,q3⟩=>?_) hm
 subst e
 cases r3
 exact Qd ⟨H3,I3,q3⟩
noncomputable def rD (r r':R2) (ta tb tc:TE):TE:=fun σ H Q=>ta σ H fun x H1=>tb σ H1 fun y H2=>r x y H2 fun z H3=>∃ k,z=.bl k ∧
 (if k=true then tc σ H3 fun w' H4=>r' y w' H4 Q else Q (.bl false) H3)
theorem xJ (ho:OpR X (P4 op) r) (ho':OpR X (P4 op') r') (ha:PE X a ta) (hb:PE X b tb) (hc:PE X c tc)
 (hm:lastMarks [op,op'] [b,c]=false:=by with_unfolding_all rfl):PE X (.Compare a [op,op'] [b,c] pos) (rD r r' ta tb tc):=by
 intro pins s σ H Q I h
 refine Compare_chain (thn (ha pins s σ H _ I h) fun v s1 ⟨x,H1,I1,r1,q1⟩=>chain_link (thn (hb pins s1 σ H1 _ I1 q1) fun u s2 ⟨y,H2,I2,r2,q2⟩ =>
  thn (ho pins s2 σ H2 x y v u _ I2 r1 r2 q2) fun d s3 ⟨z,H3,I3,r3,k,e,q3⟩=>?_)) hm
 subst e
 cases r3
 refine Qd ?_
 cases k with
 | false=>exact ite_ff ⟨.bl false,H3,I3,rfl,q3⟩
 | true=>exact ite_tt (chain_last (thn (hc pins s3 σ H3 _ I3 q3) fun w' s4 ⟨z',H4,I4,r4,q4⟩=>ho' pins s4 σ H4 y z' u w' Q I4 r2 r4 q4))
theorem xK (ho:OpR X (P4 op) r) (ho':OpR X (P4 op') r') (ha:PE X a ta) (hb:PE X b tb) (hc:PE X c tc)
 (hm:lastMarks [op,op'] [b,c]=false:=by with_unfolding_all rfl):PT X (.Compare a [op,op'] [b,c] pos) (xH (rD r r' ta tb tc)):=by
 intro pins s σ H Q I h
 refine isTrue_chain (thn (ha pins s σ H _ I h) fun v s1 ⟨x,H1,I1,r1,q1⟩=>test_link (thn (hb pins s1 σ H1 _ I1 q1) fun u s2 ⟨y,H2,I2,r2,q2⟩ =>
  thn (ho pins s2 σ H2 x y v u _ I2 r1 r2 q2) fun d s3 ⟨z,H3,I3,r3,k,e,q3⟩=>?_)) hm
 subst e
 cases r3
 refine Qd ?_
 cases k with
 | false =>
  obtain ⟨k',e',q'⟩:=q3
  cases e'
  exact ite_ff ⟨H3,I3,q'⟩
 | true =>
  refine ite_tt (test_last (thn (hc pins s3 σ H3 _ I3 q3) fun w' s4 ⟨z',H4,I4,r4,q4⟩=>thn (ho' pins s4 σ H4 y z' u w' _ I4 r2 r4 q4) fun d' s5 zq=>?_))
  obtain ⟨z2,H5,I5,r5,k2,e2,q5⟩:=zq
  subst e2
  cases r5
  exact Qd ⟨H5,I5,q5⟩
theorem jy:(sizeLine:Nat) < 2 ^ 63:=by rw[QM];decide
theorem rE:OpR X (Qq .Add) (fun x y H Q=>∃ i j,x=.str i/\y=.str j/\i.length+j.length<=sizeLine/\Q (.str (i++j)) H):=by
 intro pins s σ H x y v u Q I rx ry h
 obtain ⟨i,j,rfl,rfl,hz,q⟩:=h
 obtain ⟨t,rfl⟩:=rx
 obtain ⟨t',rfl⟩:=ry
 exact add_str (fun t' tk=>⟨.str (i++j),H,I.tok _,⟨_,rfl⟩,q⟩) hz
theorem vals1 (r:ao [x] us):∃ u,us=[u]/\RelV x u:=by
 cases r with
 | cons r1 r2=>cases r2;exact ⟨_,rfl,r1⟩
theorem vals2 (r:ao [x,y] us):∃ u w',us=[u,w']/\RelV x u/\RelV y w':=by
 cases r with
 | cons r1 r2 =>
  cases r2 with
  | cons r3 r4=>cases r4;exact ⟨_,_,rfl,r1,r3⟩
theorem xM:bW X (.builtin "abs") (fun xs H Q=>∃ i,xs=[.int i]/\Q (.int (if i < 0 then -i else i)) H):=by
 intro pins s σ H xs us Q I r h
 obtain ⟨i,rfl,q⟩:=h
 obtain ⟨u,rfl,t,rfl⟩:=vals1 r
 exact call_abs_int fun u tk=>⟨.int (if i < 0 then -i else i),H,I.tok _,⟨_,rfl⟩,q⟩
theorem vp (hc:X.calm=true):bW X (.builtin "max") (fun xs H Q=>∃ i j,xs=[.int i,.int j]/\Q (.int (if j > i then j else i)) H):=by
 intro pins s σ H xs us Q I r h
 obtain ⟨i,j,rfl,q⟩:=h
 obtain ⟨u,w',rfl,⟨t,rfl⟩,⟨t',rfl⟩⟩:=vals2 r
 refine max_two_ints (I.ok.hd hc) fun h' tk k=>⟨_,H,I.kept k,?_,q⟩
 by_cases hj:j > i
 ·rw[if_pos hj,if_pos hj];exact ⟨_,rfl⟩
 ·rw[if_neg hj,if_neg hj];exact ⟨_,rfl⟩
theorem vq (hc:X.calm=true):bW X (.builtin "min") (fun xs H Q=>∃ i j,xs=[.int i,.int j]/\Q (.int (if j < i then j else i)) H):=by
 intro pins s σ H xs us Q I r h
 obtain ⟨i,j,rfl,q⟩:=h
 obtain ⟨u,w',rfl,⟨t,rfl⟩,⟨t',rfl⟩⟩:=vals2 r
 refine min_two_ints (I.ok.hd hc) fun h' tk k=>⟨_,H,I.kept k,?_,q⟩
 by_cases hj:j < i
 ·rw[if_pos hj,if_pos hj];exact ⟨_,rfl⟩
 ·rw[if_neg hj,if_neg hj];exact ⟨_,rfl⟩
theorem mR:bW X (.type "int") (fun xs H Q=>(∃ i,xs=[.int i]/\Q (.int i) H)\/∃ k,xs=[.bl k]/\Q (.int (if k then 1 else 0)) H):=by
 intro pins s σ H xs us Q I r h
 rcases h with ⟨i,rfl,q⟩ | ⟨k,rfl,q⟩
 ·obtain ⟨u,rfl,t,rfl⟩:=vals1 r
  exact call_int_int ⟨.int i,H,I,⟨_,rfl⟩,q⟩
 ·obtain ⟨u,rfl,r1⟩:=vals1 r
  cases r1
  exact call_int_bool ⟨.int (if k then 1 else 0),H,I.tok _,⟨_,rfl⟩,q⟩
end
end L2
namespace L2
open PySem PySem.Spec PyProof.Rows
structure rF (h:Heap) (x dx C:O9) (mA:Str->Option Value):Prop where
 obj:h.get? x=some (QH C dx)
 ns:h.Ns1 dx mA
 ne:dx≠x
theorem vv {h:Heap}{dx:O9}{mA:Str->Option Value} (n:h.Ns1 dx mA):∃ od,h.get? dx=some od/\∀ name,SC name od=some (mA name):=by
 obtain ⟨o,es,ep,ho,hd,hk,_,hm⟩:=n
 refine ⟨o,ho,fun name=>?_⟩
 have e:=hm name
 unfold nsFind findBy at e
 rw[← Array.find?_toList] at e
 unfold SC
 rw[hd]
 dsimp only
 split
 ·rename_i y q
  rw[q] at e
  exact congrArg some e
 ·rename_i q
  rw[q] at e
  have a:es.toList.any (·.refKey)=false:=by
   rw[List.any_eq_false]
   intro y hy
   obtain ⟨z,t,hkey⟩:=hk y (Array.mem_toList_iff.mp hy)
   simp[DictEntry.refKey,hkey]
  have a':¬ es.toList.any (·.refKey)=true:=by rw[a];exact QD
  rw[if_neg a']
  exact congrArg some e
theorem rF.look (I:rF h x dx C mA):∃ od,PySem.W.InstAt h x (QH C dx) C (some od)/\∀ name,SC name od=some (mA name) :=
 let ⟨od,ho,hl⟩:=vv I.ns
 ⟨od,⟨I.obj,rfl,rfl,ho⟩,hl⟩
section
variable {E:Value->O4->Prop}{K:OX}
theorem get_map (X:K.In s.heap) (I:rF s.heap x dx C mA) (hg:Rt K C name=true) (hh:QZ K C=true)
 (ha:PB K (.ref C) name=some none) (hv:mA name=some v) (hv':Vd v=true) (h:Q v { s with toks:=s.toks+1 }) :
 wpAny (Pp prog w) A (getAttr (.ref x) name expr) Q E s:=by
 obtain ⟨od,J,hl⟩:=I.look
 exact PySem.W.get_value X J (SK hg).1 (PySem.W.findObj_own hh ha rfl (by rw[hl,hv])) hv' h
theorem xN (X:K.In s.heap) (I:rF s.heap x dx C mA) (hg:Rt K C name=true)
 (hf:PB K (.ref C) name=some (some (.ref f))) (ht:To K (.ref f)=true) (hv:mA name=none) (h:Q (.ref f,[.ref x]) s) :
 wpAny (Pp prog w) A (Uc (.ref x) name pl) Q E s:=by
 obtain ⟨od,J,hl⟩:=I.look
 exact PySem.W.method_fn X J (SK hg).1 (SK hg).2 hf (beq_iff_eq.mp ht) (by show (SC name od).map (·.isSome)=some false;rw[hl,hv];rfl) h
theorem Bm (X:K.In s.heap) (I:rF s.heap x dx C mA)
 (hs:PB K (.ref C) "__setattr__"=some (some (.builtin "object.__setattr__"))) (hp:Tf K C=true) (ht:TZ K C name=some none) (hh:QZ K C=true)
 (hw:UN mA ns) (hsz:ns.length<=sizeLine)
 (h:∀ h',rF h' x dx C (fun y=>if y=name then some v else mA y)->Rh dx s.heap h'->Q () { s with heap:=h',toks:=s.toks+2 }) :
 wpAny (Pp prog w) A (setAttr (.ref x) name v) Q E s:=by
 obtain ⟨od,J,hl⟩:=I.look
 refine PySem.W.set_plain X J hs (PySem.W.osa_open (s:={ s with toks:=s.toks+1 }) (r:=none) X J hp ht fun b=>?_)
 obtain ⟨cd,hc,hd'⟩:=PySem.W.any_some hh
 have hx:s.heap.get? x=some ⟨.ref C,some dx,.plain,#[]⟩:=I.obj
 refine O0 (wpAny_pure (O0 (O0 (U0 hx (O0 (PySem.W.Looks.here (s:={ s with toks:=s.toks+1 }) (PySem.W.looks_clsIn X hc) ?_))))))
 rw[hd']
 refine wpAny_pure (a:=some dx) (O0 (wpAny_pure (O0 ?_)))
 refine wpAny_nsSet1 (s:={ s with toks:=s.toks+1 }) I.ns fun h' hn2 hs2=>?_
 obtain ⟨oD,esD,epD,hoD,hdD,hcD⟩:=hn2.count (PySem.Within.cons name v hw)
 refine O0 (wpAny_lookBehind hoD (by rw[hdD];exact pastItsLine_dict (PD hcD (by rw[Po];lia))) ?_)
 exact wpAny_pure (h _ ⟨(hs2.2 _ (Qp I.ne)).trans I.obj,hn2,I.ne⟩ hs2)
theorem xO (X:K.In s.heap) (hm:T3 K C=true)
 (hi:PB K (.ref C) "__init__"=some (some (.ref f))) (hf:PySem.W.typeIn K (.ref f)=some (.type "function"))
 (h:codeAny (Pp prog w) (A.under (.builtin "type.__call__" ⟨.ref C :: vs,kw⟩)) (.call (.ref f) ⟨.ref (s.heap.objs.size+1) :: vs,kw⟩) (PySem.W.InitBack (s.heap.objs.size+1) R)
  { s with heap:=(s.heap.push Qi).push (QH C s.heap.objs.size) }) :
 codeAny (Pp prog w) A (.call (.ref C) ⟨vs,kw⟩) R s:=by
 obtain ⟨hh,g,d,t,os⟩:=s
 exact PySem.W.make_core (PySem.W.makes_of X hm) (PySem.W.looks_findIn X hi) (fun self=>PySem.W.bind_fn X self hf) (.inl rfl) h
end
noncomputable def aY (f:Str) (v:V):List (Str×V)->List (Str×V)
 | []=>[(f,v)]
 | (g,x) :: r=>if g=f then (g,v) :: r else (g,x) :: aY f v r
theorem jO (f g:Str) (v:V):∀ fs:List (Str×V),(aY f v fs).lookup g=if g=f then some v else fs.lookup g
 | []=>by
  show Re g [(f,v)]=_
  by_cases h:g=f
  ·have hb:(g==f)=true:=beq_iff_eq.mpr h
   simp only[Re,hb,if_pos h]
  ·have hb:(g==f)=false:=beq_eq_false_iff_ne.mpr h
   simp only[Re,hb,if_neg h]
 | (k,x) :: r=>by
  have ih:=jO f g v r
  rw[show aY f v ((k,x) :: r)=(if k=f then (k,v) :: r else (k,x) :: aY f v r) from rfl]
  by_cases hk:k=f
  ·rw[if_pos hk]
   by_cases h:g=k
   ·have hb:(g==k)=true:=beq_iff_eq.mpr h
    simp only[Re,hb,if_pos (h.trans hk)]
   ·have hb:(g==k)=false:=beq_eq_false_iff_ne.mpr h
    simp only[Re,hb,if_neg (fun e:g=f=>h (e.trans hk.symm))]
  ·rw[if_neg hk]
   by_cases h:g=k
   ·have hb:(g==k)=true:=beq_iff_eq.mpr h
    simp only[Re,hb,if_neg (fun e:g=f=>hk (h.symm.trans e))]
   ·have hb:(g==k)=false:=beq_eq_false_iff_ne.mpr h
    simp only[Re,hb]
    exact ih
theorem jz (f:Str) (v:V):∀ fs:List (Str×V),f∈(aY f v fs).map (·.1)/\∀ g,g∈fs.map (·.1)->g∈(aY f v fs).map (·.1)
 | []=>⟨by simp[aY],fun g h=>by simp at h⟩
 | (k,x) :: r=>by
  obtain ⟨i1,i2⟩:=jz f v r
  rw[show aY f v ((k,x) :: r)=(if k=f then (k,v) :: r else (k,x) :: aY f v r) from rfl]
  by_cases hk:k=f
  ·rw[if_pos hk]
   subst hk
   exact ⟨by simp,fun g h=>by simpa using h⟩
  ·rw[if_neg hk]
   refine ⟨?_,fun g h=>?_⟩
   ·rw[Pn]
    exact Pc _ i1
   ·rw[Pn] at h ⊢
    rcases List.mem_cons.mp h with e | e
    ·exact List.mem_cons.mpr (.inl e)
    ·exact Pc _ (i2 g e)
theorem jP (f:Str) (v:V):∀ fs:List (Str×V),(aY f v fs).length<=fs.length+1
 | []=>by simp[aY]
 | (k,x) :: r=>by
  have ih:=jP f v r
  rw[show aY f v ((k,x) :: r)=(if k=f then (k,v) :: r else (k,x) :: aY f v r) from rfl]
  by_cases hk:k=f
  ·rw[if_pos hk,Po,Po];lia
  ·rw[if_neg hk,Po,Po];lia
theorem kL.some_of (r:kL (some v) o):∃ u,o=some u/\RelV v u:=by
 cases o with
 | none=>exact (show False from r).elim
 | some u=>exact ⟨u,rfl,r⟩
theorem kL.none_of (r:kL none o):o=none:=by
 cases o with
 | none=>rfl
 | some u=>exact (show False from r).elim
theorem vz (r:RelV v u):Vd u=true:=by
 cases v with
 | non=>cases (show u=Uv from r);rfl
 | bl b=>cases (show u=Vv b from r);rfl
 | int i=>obtain ⟨t,e⟩:=(show ∃ t,u=Te i t from r);cases e;rfl
 | str x=>obtain ⟨t,e⟩:=(show ∃ t,u=Sh x t from r);cases e;rfl
 | byt b=>obtain ⟨t,e⟩:=(show ∃ t,u=Value.bytes b t from r);cases e;rfl
 | flt b=>obtain ⟨t,e⟩:=(show ∃ t,u=Value.float b t from r);cases e;rfl
 | ref a=>cases (show u=Px a from r);rfl
 | ty n=>cases (show u=Value.type n from r);rfl
section
theorem nK (hok:HOk P w H h) (e:H a=some (.ins C dx fs)):∃ mA,rF h a dx C mA/\(∀ f,kL (fs.lookup f) (mA f))/\UN mA (fs.map (·.1))/\fs.length<=1000/\H dx=some (.own a):=by
 obtain ⟨d,z,ne,ob,mA,n,r,q⟩:=(show bV P w H h a (.ins C dx fs) from hok a _ e)
 exact ⟨mA,⟨ob,n,ne⟩,r,q,z,d⟩
end
structure Cls (K:OX) (C:O9):Prop where
 pg:Rt K C Tv=true
 hd:QZ K C=true
 po:Tf K C=true
 sa:PB K (.ref C) "__setattr__"=some (some (.builtin "object.__setattr__"))
theorem Cls.get {K:OX} (c:Cls K C) (f:Str):Rt K C f=true:=c.pg
noncomputable def gu (K:OX) (C:O9) (f:Str):Prop:=PB K (.ref C) f=some none
theorem gu.IZ {K:OX} (n:gu K C f):TZ K C f=some none:=by
 unfold TZ
 rw[show PB K (.ref C) f=some none from n]
 rfl
structure nL (K:OX) (C:O9) (m:Str) (f:O9):Prop where
 at_:PB K (.ref C) m=some (some (.ref f))
 fn:To K (.ref f)=true
 kp:PK K (.ref f)=true
section
variable {E:Value->O4->Prop}
theorem kN (I:Inv X pins σ H s) (e:H a=some (.ins C dx fs)) (c:Cls X.K C) (n:gu X.K C f) (l:fs.lookup f=some v)
 (h:∀ u s',Inv X pins σ H s'->RelV v u->Q u s'):wpAny (Pp X.prog X.w) A (getAttr (.ref a) f b) Q E s:=by
 obtain ⟨mA,O,r,_,_,_⟩:=nK I.hok e
 obtain ⟨u,hu,ru⟩:=kL.some_of (v:=v) (o:=mA f) (by rw[← l];exact r f)
 exact get_map I.kIn O (c.get f) c.hd n hu (vz ru) (h u _ (I.tok _) ru)
theorem fO (I:Inv X pins σ H s) (e:H a=some (.ins C dx fs)) (c:Cls X.K C) (k:nL X.K C m g) (l:fs.lookup m=none)
 (h:Q (.ref g,[.ref a]) s):wpAny (Pp X.prog X.w) A (Uc (.ref a) m pl) Q E s:=by
 obtain ⟨mA,O,r,_,_,_⟩:=nK I.hok e
 have hn:mA m=none:=kL.none_of (by rw[← l];exact r m)
 exact xN I.kIn O (c.get m) k.at_ k.fn hn h
theorem kO (I:Inv X pins σ H s) (e:H a=some (.ins C dx fs)) (c:Cls X.K C) (n:gu X.K C f) (hl:fs.length < 1000) (ry:RelV y u)
 (h:∀ s',Inv X pins σ (upd H a (.ins C dx (aY f y fs))) s'->Q () s'):wpAny (Pp X.prog X.w) A (setAttr (.ref a) f u) Q E s:=by
 obtain ⟨mA,O,r,wi,_,ho⟩:=nK I.hok e
 have hz:(fs.map (·.1)).length<=sizeLine:=by rw[Pr,QM];lia
 refine Bm I.kIn O c.sa c.po n.IZ c.hd wi hz fun h' O' sb=>h _ ?_
 have hd:∃ o,h'.get? dx=some o:=let ⟨o,_,_,e',_⟩:=O'.ns;⟨o,e'⟩
 refine I.write (x:=a) (e:=dx) (by rw[e];exact Q4) (.inr ho) (fun b q hb z=>(sb.2 b hb).trans z) hd ?_
 refine ⟨by rw[au O.ne];exact ho,?_,O.ne,O'.obj,_,O'.ns,fun g=>?_,fun g hg=>?_⟩
 ·have:=jP f y fs;lia
 ·show kL ((aY f y fs).lookup g) (if g=f then some u else mA g)
  rw[jO]
  by_cases q:g=f
  ·rw[if_pos q,if_pos q];exact ry
  ·rw[if_neg q,if_neg q];exact r g
 ·by_cases q:g=f
  ·rw[q];exact (jz f y fs).1
  ·refine (jz f y fs).2 g (wi g fun z=>hg ?_)
   show (if g=f then some u else mA g)=none
   rw[if_neg q];exact z
theorem Inv.made (I:Inv X pins σ H s):Inv X pins σ (upd (upd H s.heap.objs.size (.own (s.heap.objs.size+1))) (s.heap.objs.size+1) (.ins C s.heap.objs.size []))
 { s with heap:=(s.heap.push Qi).push (QH C s.heap.objs.size) }:=by
 have e1:(s.heap.push Qi).get? s.heap.objs.size=some Qi:=Pf s.heap rfl
 have e2:((s.heap.push Qi).push (QH C s.heap.objs.size)).get? (s.heap.objs.size+1)=some (QH C s.heap.objs.size):=by
  have:=Pf (s.heap.push Qi) (o:=QH C s.heap.objs.size) rfl
  rwa [QG] at this
 have e3:(s.heap.push Qi).Ns s.heap.objs.size (fun _=>none):=⟨Qi,#[],_,e1,rfl,(fun e he=>absurd he (by simp)),fun _=>rfl⟩
 have I1:=I.laid (a:=s.heap.objs.size) (o:=.own (s.heap.objs.size+1)) (h':=s.heap.push Qi) (t':=s.toks) (fun b u q=>OZ _ q) (O8 _) ⟨_,e1⟩
 refine I1.laid (a:=s.heap.objs.size+1) (o:=.ins C s.heap.objs.size []) (t':=s.toks) (fun b u q=>OZ _ q) (Nat.le_of_eq (QG _ _)) ?_
 have ne:s.heap.objs.size≠s.heap.objs.size+1:=PL (Rc _)
 refine ⟨by rw[au ne,aJ],QU _,ne,e2,fun _=>none,(Heap.Ns1.of_empty e3).at fun o q=>OZ _ q,fun _=>Q4,fun y hy=>absurd rfl hy⟩
theorem Bo (hb:SI e f env (eval e env)=eval e env)
 (h:wpAny (Pp prog w) A (eval e env) (fun o s₁=>wpAny (Pp prog w) A (getAttr o f true) Q E s₁) E s):wpAny (Pp prog w) A (eval (.Attribute e f pos) env) Q E s :=
 Attribute_any_ h (by rw[arm_eval_Attribute,hb])
end
noncomputable def MI (K:OX) (ta:TE) (f:Str):TE:=fun σ H Q=>ta σ H fun x H1=>∃ a C dx fs v,x=.ref a/\H1 a=some (.ins C dx fs)/\Cls K C/\gu K C f/\fs.lookup f=some v/\Q v H1
noncomputable def I0 (K:OX) (ta tv:TE) (f:Str):TS:=fun D σ H=>tv σ H fun y H1=>ta σ H1 fun x H2=>∃ a C dx fs,x=.ref a/\H2 a=some (.ins C dx fs)/\Cls K C/\gu K C f/\fs.length < 1000 ∧
 D.nx σ (upd H2 a (.ins C dx (aY f y fs)))
noncomputable def MJ (X:Cx) (op:Tt) (rd:V->V->Hp->VK->Prop):Prop :=
 ∀ (pins:List (O9×Obj)) (s:O4) (σ:St) (H:Hp) (x y:V) (u v:Value) (Q:VK),Inv X pins σ H s->RelV x u->RelV y v->rd x y H Q->wpAny (Pp X.prog X.w) X.A (inplaceOp op u v) (EP X pins σ Q) X.xe s
noncomputable def tO (K:OX) (ta tv:TE) (rd:V->V->Hp->VK->Prop) (f:Str):TS:=fun D σ H=>ta σ H fun x H1=>∃ a C dx fs v,x=.ref a/\H1 a=some (.ins C dx fs)/\Cls K C/\gu K C f/\fs.lookup f=some v ∧
 tv σ H1 fun y H2=>rd v y H2 fun z H3=>∃ dx' fs',H3 a=some (.ins C dx' fs')/\fs'.length < 1000/\D.nx σ (upd H3 a (.ins C dx' (aY f z fs')))
section
theorem E6 (he:PE X e ta) (hb:SI e f X.env (eval e X.env)=eval e X.env):PE X (.Attribute e f pos) (MI X.K ta f):=by
 intro pins s σ H Q I h
 refine Bo hb (thn (he pins s σ H _ I h) fun u s1 zq=>?_)
 obtain ⟨x,H1,I1,rx,a,C,dx,fs,v,ex,ea,c,n,l,q⟩:=zq
 subst ex
 obtain rfl:u=Px a:=rx
 exact kN I1 ea c n l fun u' s2 I2 ru=>⟨v,H1,I2,ru,q⟩
theorem E7 (ha:PE X o ta) (hv:PE X value tv) (hs:Sb value (some (.Attribute o f pos')) pos.line X.env=pure false):PS X (.Assign [.Attribute o f pos'] value pos) (I0 X.K ta tv f):=by
 intro pins s σ H D I h
 refine plainObj_wpAny_Assign_Attribute (thn (hv pins s σ H _ I h) fun u s1 ⟨y,H1,I1,ry,q⟩=>thn (ha pins s1 σ H1 _ I1 q) fun ov s2 ⟨x,H2,I2,rx,a,C,dx,fs,ex,ea,c,n,l,q2⟩=>?_) hs
 subst ex
 obtain rfl:ov=Px a:=rx
 exact kO I2 ea c n l ry fun s3 I3=>⟨σ,_,I3,q2⟩
theorem vA {rd:V->V->Hp->VK->Prop} (ha:PE X o ta) (hv:PE X value tv) (hop:MJ X op rd):PS X (.AugAssign (.Attribute o f tpos) op value pos) (tO X.K ta tv rd f):=by
 intro pins s σ H D I h
 refine wpAny_AugAssign_AttributeAny (thn (ha pins s σ H _ I h) fun ov s1 zq=>?_)
 obtain ⟨x,H1,I1,rx,a,C,dx,fs,v,ex,ea,c,n,l,q⟩:=zq
 subst ex
 obtain rfl:ov=Px a:=rx
 refine kN I1 ea c n l fun u s2 I2 ru=>thn (hv pins s2 σ H1 _ I2 q) fun w3 s3 ⟨y,H2,I3,ry,q3⟩=>thn (hop pins s3 σ H2 v y u w3 _ I3 ru ry q3) fun w4 s4 zq=>?_
 obtain ⟨z,H3,I4,rz,dx',fs',ea',l',q4⟩:=zq
 exact kO I4 ea' c n l' rz fun s5 I5=>⟨σ,_,I5,q4⟩
theorem D6 (he:PE X e te) (I:Inv X pins σ H s)
 (h:te σ H fun x H1=>∃ a C dx fs g,x=.ref a/\H1 a=some (.ins C dx fs)/\Cls X.K C/\nL X.K C m g/\fs.lookup m=none ∧
  ∀ s1,Inv X pins σ H1 s1->wpAny (Pp X.prog X.w) X.A (callWith pos (.ref g) [.ref a] (Qx pos (Pu args X.env)) (Tj pos (RI [] X.env))) Q X.xe s1)
 (ht:eval (.Call (.Attribute e m apos) args [] pos) X.env=(do
  let ov ← eval e X.env
  standAt apos.atName
  let (f,first) ← holding [ov] (Uc ov m pl)
  callWith pos f first (Qx pos (Pu args X.env)) (Tj pos (RI [] X.env)))) :
 wpAny (Pp X.prog X.w) X.A (eval (.Call (.Attribute e m apos) args [] pos) X.env) Q X.xe s:=by
 refine Rn (pl:=pl) (thn (he pins s σ H _ I h) fun u s1 ⟨x,H1,I1,rx,a,C,dx,fs,g,ex,ea,c,k,l,q⟩=>?_) ht
 subst ex
 obtain rfl:u=Px a:=rx
 exact fO I1 ea c k l (q s1 I1)
end
section
variable {E:Value->O4->Prop}{b:Bool}
end
end L2
namespace L2
open PySem PySem.Spec PyProof.Rows
structure bA (k:Nat) (A:QV):Prop where
 hd:A.handled=none
 dp:A.depth+3*k+5 < recursionLimit
 un:A.units+16*k+200 < cLine
theorem bA.mono (r:bA k A) (h:j<=k):bA j A:=⟨r.hd,by have:=r.dp;lia,by have:=r.un;lia⟩
theorem bA.deeper (r:bA (k+1) A) (env:Env):bA k (A.deeper env) :=
 ⟨r.hd,by have:=r.dp;show A.depth+1+3*k+5 < _;lia,by have:=r.un;show A.units+3+16*k+200 < _;lia⟩
theorem rG {A:QV}{C:O9}{us:List Value}{kw:List (Str×Value)}:(A.under (.builtin "type.__call__" ⟨.ref C :: us,kw⟩)).depth=A.depth+1:=by
 first | rfl | simp[UK,Code.weight,Code.isCreation,Code.isGuard,Code.isCaller,Code.frames,UY,guardIds]
theorem rH {A:QV}{C:O9}{us:List Value}{kw:List (Str×Value)}:(A.under (.builtin "type.__call__" ⟨.ref C :: us,kw⟩)).units=A.units+1:=by
 first | rfl | simp[UK,Code.cUnits,Code.frames,UY]
theorem bA.make (r:bA (k+1) A) (C:O9) (us:List Value) (kw:List (Str×Value)):bA k (A.under (.builtin "type.__call__" ⟨.ref C :: us,kw⟩)) :=
 ⟨r.hd,by have:=r.dp;rw[rG];lia,by have:=r.un;rw[rH];lia⟩
theorem bA.depth (r:bA k A):A.depth < recursionLimit:=by have:=r.dp;lia
noncomputable def xP:TA:=fun _ H Q=>Q [] H
noncomputable def D7 (ta:TE) (tr:TA):TA:=fun σ H Q=>ta σ H fun x H1=>tr σ H1 fun xs H2=>Q (x :: xs) H2
section
theorem iH:PA X [] xP:=fun _ _ _ _ H Q I h=>Qa ⟨[],H,I,.nil,h⟩
theorem bO (ha:PE X e te) (hr:PA X es t) (hs:Pu (e :: es) X.env=(false,eval e X.env) :: Pu es X.env:=by rfl):PA X (e :: es) (D7 te t):=by
 intro pos pins s σ H Q I h
 rw[hs]
 show wpAny _ _ (RG ((false,eval e X.env) :: Qx pos (Pu es X.env))) _ _ s
 refine PU (thn (ha pins s σ H _ I h) fun u s1 zq=>?_)
 obtain ⟨x,H1,I1,r1,q1⟩:=zq
 exact thn (hr pos pins s1 σ H1 _ I1 q1) fun us s2 ⟨xs,H2,I2,r2,q2⟩=>⟨x :: xs,H2,I2,.cons r1 r2,q2⟩
noncomputable def Ja (t:TA):TE:=fun σ H Q=>t σ H fun xs H1=>xs.length<=sizeLine/\∀ p,H1 p=none->Q (.ref p) (upd H1 p (.tup xs))
noncomputable def Jb (t:TA):TE:=fun σ H Q=>t σ H fun xs H1=>xs.length<=sizeLine/\∀ p,H1 p=none->Q (.ref p) (upd H1 p (.lst xs))
theorem E8 {x1} (h:PA X es t):PE X (.Tuple es x1 pos) (Ja t):=by
 intro pins s σ H Q I hq
 refine wpAny_Tuple_spliced (thn (h pos pins s σ H _ I hq) fun us s1 ⟨xs,H1,I1,r,z,q⟩=>⟨by rw[← r.length];exact z,?_⟩)
 have hf:H1 s1.heap.objs.size=none:=I1.hok.fresh (O8 _)
 refine ⟨.ref s1.heap.objs.size,upd H1 s1.heap.objs.size (.tup xs),I1.laid (t':=s1.toks) (fun b u e=>OZ _ e) (O8 _) ?_,rfl,q _ hf⟩
 exact ⟨z,us,r,⟨_,Pf _ rfl,rfl,_,rfl⟩⟩
theorem E9 (h:PA X es t):PE X (.List es pos) (Jb t):=by
 intro pins s σ H Q I hq
 refine wpAny_List_spliced (thn (h pos pins s σ H _ I hq) fun us s1 ⟨xs,H1,I1,r,z,q⟩=>⟨by rw[← r.length];exact z,?_⟩)
 have hf:H1 s1.heap.objs.size=none:=I1.hok.fresh (O8 _)
 refine ⟨.ref s1.heap.objs.size,upd H1 s1.heap.objs.size (.lst xs),I1.laid (t':=s1.toks) (fun b u e=>OZ _ e) (O8 _) ?_,rfl,q _ hf⟩
 exact ⟨z,us,0,r,Pf _ rfl⟩
end
noncomputable abbrev Sp:=List V->Hp->VK->XK->Prop
noncomputable abbrev CXT:=List Env->Hp->O4->XK->Value->O4->Prop
structure kP (P:Pv) (w:P0) (K:OX) (mg:Str->Option Value) (base:Heap) (A:QV) (outer:List Env) (s:O4) (H:Hp):Prop where
 frames:A.frames=some outer
 mod:Mod K mg base
 bs:∀ b o,base.get? b=some o->s.heap.get? b=some o/\H b=none
 bsz:base.objs.size<=s.heap.objs.size
 fL:s.heap.FunFrames base outer
 frf:∀ b∈frs outer,H b=none
 hok:HOk P w H s.heap
 bare:T7 s.gens
inductive CE (outer:List Env) (P:Pv) (w:P0) (H:Hp) (s:O4) (Q:VK) (u:Value) (s':O4):Prop where
 | mk (v:V) (H':Hp) (os:s'.os=s.os) (b:T7 s'.gens) (un:Un (frs outer) [] H H' s.heap s'.heap) (hk:HOk P w H' s'.heap) (r:RelV v u) (q:Q v H'):CE outer P w H s Q u s'
noncomputable def CR (CX:CXT) (outer:List Env) (P:Pv) (w:P0) (H:Hp) (s:O4) (Q:VK) (E:XK) (r:Result) (s':O4):Prop :=
 match r with
 | .ok (.ret u)=>CE outer P w H s Q u s'
 | .ok _=>False
 | .error e=>CX outer H s E e s'
structure bS (P:Pv) (w:P0) (K:OX) (mg:Str->Option Value) (base:Heap) (CX:CXT) (k:Nat) (f:O9) (fd:Qm) (ps:List Str) (sp:Sp):Prop where
 len:∀ vs H Q E,sp vs H Q E->vs.length=ps.length
 run:∀ (A:QV) (outer:List Env) (s:O4) (H:Hp) (args:Args) (us:List Value) (vs:List V) (Q:VK) (E:XK),bA k A->kP P w K mg base A outer s H->BindsTo s fd args (ps.zip us)->ao vs us->sp vs H Q E →
  codeAny (Pp P w) A (.call (.ref f) args) (CR CX outer P w H s Q E) s
theorem kP.make {K:OX} (e:kP P w K mg base A outer s H) (C:O9) (us:List Value) (kw:List (Str×Value)) :
 kP P w K mg base (A.under (.builtin "type.__call__" ⟨.ref C :: us,kw⟩)) outer s H:=⟨by first | exact e.frames | (simpa [UK,Code.envs,UY,pushEnvs] using e.frames),e.mod,e.bs,e.bsz,e.fL,e.frf,e.hok,e.bare⟩
section
theorem Inv.Fb (I:Inv X pins σ H s):kP X.prog X.w X.K X.mg X.base X.A X.stack s H :=
 ⟨I.ok.frames,I.ok.mod,I.bs,PD I.ok.bsz I.sz,I.stack,I.kq,I.hok,I.bare⟩
theorem Inv.after (I:Inv X pins σ H s) (h:CE X.stack X.prog X.w H s Q u s'):EP X pins σ Q u s':=by
 obtain ⟨v,H',os,bare,un,hok,r,q⟩:=h
 obtain ⟨hh,g,d,t,os'⟩:=s'
 obtain rfl:os'=s.os:=os
 exact ⟨v,H',I.call (h':=hh) (g':=g) (d':=d) (t':=t) (ch:=[]) un hok bare (fun b z=>absurd z (by simp)),r,q⟩
end
noncomputable def xQ (sp:Sp) (dvs:List V) (E:XK) (t:TA):TE:=fun σ H Q=>t σ H fun vs H1=>sp (vs++dvs) H1 Q E
noncomputable def tP (C:O9) (m:Str) (sp:Sp) (dvs:List V) (E:XK) (ta:TE) (t:TA):TE:=fun σ H Q=>ta σ H fun x H1=>∃ a dx fs,x=.ref a/\H1 a=some (.ins C dx fs)/\fs.lookup m=none ∧
 t σ H1 fun vs H2=>sp (x :: (vs++dvs)) H2 Q E
noncomputable def xR (C:O9) (sp:Sp) (dvs:List V) (E:XK) (t:TA):TE:=fun σ H Q=>t σ H fun vs H1=>∀ x dx,H1 x=none->H1 dx=none->dx≠x →
 sp (.ref x :: (vs++dvs)) (upd (upd H1 dx (.own x)) x (.ins C dx [])) (fun v H2=>v=.non/\Q (.ref x) H2) E
noncomputable def Binds (K:OX) (fd:Qm) (ps:List Str) (ds:List Value):Prop :=
 ∀ (s:O4) (us:List Value),K.In s.heap->(us++ds).length=ps.length->BindsTo s fd ⟨us,[]⟩ (ps.zip (us++ds))
theorem Binds.all {K:OX} (h:∀ us:List Value,us.length=ps.length->UG fd ⟨us,[]⟩=pure (ps.zip us)):Binds K fd ps []:=fun s us _ hl=>by
 rw[PY] at hl ⊢
 exact .of_eq (h us hl)
noncomputable def dw (CX:CXT) (X:Cx) (E:XK):Prop:=∀ (pins:List (O9×Obj)) (σ:St) (H:Hp) (s:O4) (e:Value) (s':O4),Inv X pins σ H s->CX X.stack H s E e s'->X.xe e s'
section
variable {k:Nat}{E:XK}
theorem kQ (F:bS X.prog X.w X.K X.mg X.base CX k f fd ps sp) (hr:bA k X.A) (hb:Binds X.K fd ps ds) (hd:ao dvs ds) (hx:dw CX X E)
 (I:Inv X pins σ H s) (r:ao vs us) (h:sp (vs++dvs) H Q E):wpAny (Pp X.prog X.w) X.A (call (.ref f) us) (EP X pins σ Q) X.xe s:=by
 have r2:ao (vs++dvs) (us++ds):=r.append hd
 have hl:(us++ds).length=ps.length:=by rw[← r2.length];exact F.len _ _ _ _ h
 refine Th (RM (F.run X.A X.stack s H ⟨us,[]⟩ (us++ds) (vs++dvs) Q E hr I.Fb (hb s us I.kIn hl) r2 h) fun r s' hq=>?_)
 cases r with
 | error e=>exact hx pins σ H s e s' I hq
 | ok fl =>
  cases fl with
  | ret u=>exact I.after hq
  | next=>exact PN hq
  | brk=>exact PN hq
  | cont=>exact PN hq
theorem tQ (F:bS X.prog X.w X.K X.mg X.base CX k f fd ps sp) (hr:bA k X.A) (hg:Gl X x) (hm:X.mg x=some (.ref f)) (hk:PK X.K (.ref f)=true) (hb:Binds X.K fd ps ds) (hd:ao dvs ds) (hx:dw CX X E)
 (ha:PA X (e :: es) t) (hdb:(x==("__debug__":Str))=false:=by decide) (he:Pu (e :: es) X.env=(false,eval e X.env) :: Pu es X.env:=by rfl) (hpl:(Qx pos (Pu es X.env)).any (·.1)=false:=by rfl) :
 PE X (.Call (.Name x p) (e :: es) [] pos) (xQ sp dvs E t):=by
 intro pins s σ H Q I h
 refine Qh (fM I hg hm ?_ hdb)
 refine QW (h₀:=X.base) I.ok.mod.kin hk (thn (ha pos pins s σ H _ I h) fun us s1 ⟨vs,H1,I1,r,q⟩=>⟨I1.kIn,?_⟩) he hpl
 exact kQ F hr hb hd hx I1 r q
theorem pM (F:bS X.prog X.w X.K X.mg X.base CX k f fd ps sp) (hr:bA k X.A) (hg:Gl X x) (hm:X.mg x=some (.ref f)) (hk:PK X.K (.ref f)=true) (hb:Binds X.K fd ps ds) (hd:ao dvs ds) (hx:dw CX X E)
 (hdb:(x==("__debug__":Str))=false:=by decide):PE X (.Call (.Name x p) [] [] pos) (xQ sp dvs E xP):=by
 intro pins s σ H Q I h
 refine Qh (fM I hg hm ?_ hdb)
 exact SM I.kIn hk (kQ (us:=[]) F hr hb hd hx I .nil h)
theorem tR (he:PE X o ta) (c:Cls X.K C) (hm:nL X.K C m f) (F:bS X.prog X.w X.K X.mg X.base CX k f fd ps sp) (hr:bA k X.A) (hb:Binds X.K fd ps ds) (hd:ao dvs ds) (hx:dw CX X E) (ha:PA X (e :: es) t)
 (hst:Pu (e :: es) X.env=(false,eval e X.env) :: Pu es X.env:=by rfl) (hpl:(Qx pos (Pu es X.env)).any (·.1)=false:=by rfl)
 (ht:eval (.Call (.Attribute o m apos) (e :: es) [] pos) X.env=(do
  let ov ← eval o X.env
  standAt apos.atName
  let (f,first) ← holding [ov] (Uc ov m pl)
  callWith pos f first (Qx pos (Pu (e :: es) X.env)) (Tj pos (RI [] X.env))):=by rfl) :
 PE X (.Call (.Attribute o m apos) (e :: es) [] pos) (tP C m sp dvs E ta t):=by
 intro pins s σ H Q I h
 refine Rn (pl:=pl) (thn (he pins s σ H _ I h) fun u s1 ⟨x,H1,I1,rx,a,dx,fs,ex,ea,l,q⟩=>?_) ht
 subst ex
 obtain rfl:u=Px a:=rx
 refine fO I1 ea c hm l ?_
 refine QW (first:=[.ref a]) (h₀:=X.base) I.ok.mod.kin hm.kp (thn (ha pos pins s1 σ H1 _ I1 q) fun us s2 ⟨vs,H2,I2,r,q2⟩=>⟨I2.kIn,?_⟩) hst hpl
 exact kQ (us:=.ref a :: us) (vs:=.ref a :: vs) F hr hb hd hx I2 (.cons rfl r) q2
theorem pN (he:PE X o ta) (c:Cls X.K C) (hm:nL X.K C m f) (F:bS X.prog X.w X.K X.mg X.base CX k f fd ps sp) (hr:bA k X.A) (hb:Binds X.K fd ps ds) (hd:ao dvs ds) (hx:dw CX X E)
 (ht:eval (.Call (.Attribute o m apos) [] [] pos) X.env=(do
  let ov ← eval o X.env
  standAt apos.atName
  let (f,first) ← holding [ov] (Uc ov m pl)
  callWith pos f first (Qx pos (Pu [] X.env)) (Tj pos (RI [] X.env))):=by rfl) :
 PE X (.Call (.Attribute o m apos) [] [] pos) (tP C m sp dvs E ta xP):=by
 intro pins s σ H Q I h
 refine Rn (pl:=pl) (thn (he pins s σ H _ I h) fun u s1 ⟨x,H1,I1,rx,a,dx,fs,ex,ea,l,q⟩=>?_) ht
 subst ex
 obtain rfl:u=Px a:=rx
 refine fO I1 ea c hm l ?_
 exact SM (first:=[.ref a]) I1.kIn hm.kp (kQ (us:=[.ref a]) (vs:=[.ref a]) F hr hb hd hx I1 (.cons rfl .nil) q)
structure Mk (K:OX) (C f:O9):Prop where
 makes:T3 K C=true
 init:PB K (.ref C) "__init__"=some (some (.ref f))
 fn:To K (.ref f)=true
 kp:PK K (.ref C)=true
theorem pO (M:Mk X.K C f) (F:bS X.prog X.w X.K X.mg X.base CX k f fd ps sp) (hr:bA (k+1) X.A) (hb:Binds X.K fd ps ds) (hd:ao dvs ds)
 (hx:dw CX X E) (I:Inv X pins σ H s) (r:ao vs us)
 (h:∀ x dx,H x=none->H dx=none->dx≠x->sp (.ref x :: (vs++dvs)) (upd (upd H dx (.own x)) x (.ins C dx [])) (fun v H2=>v=.non/\Q (.ref x) H2) E) :
 wpAny (Pp X.prog X.w) X.A (call (.ref C) us) (EP X pins σ Q) X.xe s:=by
 have hq:=h (s.heap.objs.size+1) s.heap.objs.size (I.hok.fresh (P9 _)) (I.hok.fresh (O8 _)) (PL (Rc _))
 have I2:=Inv.made (C:=C) I
 have r2:ao (V.ref (s.heap.objs.size+1) :: (vs++dvs)) (Px (s.heap.objs.size+1) :: (us++ds)):=.cons rfl (r.append hd)
 have hl:(Px (s.heap.objs.size+1) :: us++ds).length=ps.length:=by
  have e:=r2.length
  rw[F.len _ _ _ _ hq] at e
  exact e.symm
 refine Th (xO (f:=f) I.kIn M.makes M.init (beq_iff_eq.mp M.fn) (RM (F.run _ X.stack _ _ ⟨Px (s.heap.objs.size+1) :: us,[]⟩ (Px (s.heap.objs.size+1) :: (us++ds)) _ _ E (hr.make C us [])
  (I2.Fb.make C us []) (hb _ (Px (s.heap.objs.size+1) :: us) I2.kIn hl) r2 hq) fun r s' hq'=>?_))
 cases r with
 | error e=>exact hx pins σ _ _ e s' I2 hq'
 | ok fl =>
  cases fl with
  | ret u =>
   obtain ⟨v,H',I3,rv,ev,q3⟩:=I2.after hq'
   subst ev
   exact ⟨rv,⟨V.ref (s.heap.objs.size+1),H',I3,rfl,q3⟩⟩
  | next=>exact PN hq'
  | brk=>exact PN hq'
  | cont=>exact PN hq'
theorem Bp (M:Mk X.K C f) (F:bS X.prog X.w X.K X.mg X.base CX k f fd ps sp) (hr:bA (k+1) X.A) (hg:Gl X x) (hm:X.mg x=some (.ref C)) (hb:Binds X.K fd ps ds) (hd:ao dvs ds) (hx:dw CX X E)
 (ha:PA X (e :: es) t) (hdb:(x==("__debug__":Str))=false:=by decide) (he:Pu (e :: es) X.env=(false,eval e X.env) :: Pu es X.env:=by rfl) (hpl:(Qx pos (Pu es X.env)).any (·.1)=false:=by rfl) :
 PE X (.Call (.Name x p) (e :: es) [] pos) (xR C sp dvs E t):=by
 intro pins s σ H Q I h
 refine Qh (fM I hg hm ?_ hdb)
 refine QW (h₀:=X.base) I.ok.mod.kin M.kp (thn (ha pos pins s σ H _ I h) fun us s1 ⟨vs,H1,I1,r,q⟩=>⟨I1.kIn,?_⟩) he hpl
 exact pO M F hr hb hd hx I1 r q
theorem xS (M:Mk X.K C f) (F:bS X.prog X.w X.K X.mg X.base CX k f fd ps sp) (hr:bA (k+1) X.A) (hg:Gl X x) (hm:X.mg x=some (.ref C)) (hb:Binds X.K fd ps ds) (hd:ao dvs ds) (hx:dw CX X E)
 (hdb:(x==("__debug__":Str))=false:=by decide):PE X (.Call (.Name x p) [] [] pos) (xR C sp dvs E xP):=by
 intro pins s σ H Q I h
 refine Qh (fM I hg hm ?_ hdb)
 exact SM I.kIn M.kp (pO (us:=[]) M F hr hb hd hx I .nil h)
end
section
variable {k:Nat}{E:XK}
end
structure aM (N P:List Str) (sc:Qc):Prop where
 kind:sc.kind=.function
 co:sc.isCoroutine=false
 gen:sc.isGenerator=false
 nd:N.Nodup
 pre:N.take P.length=P
 par:∀ x∈P,sc.names.lookup x=some .local\/sc.names.lookup x=some .cell
 nofree:∀ y∈sc.names,y.2≠.free
theorem mS {kindOf:Str->Option Rj}:∀ {binds:List (Str×Value)}{m:Str->Option Value},(∀ v,(x,v)∉binds)->bindL kindOf binds m x=m x
 | [],_,_=>rfl
 | (n,v) :: r,m,h=>by
  unfold bindL
  rw[mS fun w hw=>h w (Pc _ hw)]
  split
  ·have:x≠n:=by rintro rfl;exact h v Pq
   simp[this]
  ·rfl
theorem mT {kindOf:Str->Option Rj}:∀ {binds:List (Str×Value)}{m:Str->Option Value},(∀ v,(x,v)∉binds)->bindC kindOf binds m x=m x
 | [],_,_=>rfl
 | (n,v) :: r,m,h=>by
  unfold bindC
  rw[mT fun w hw=>h w (Pc _ hw)]
  split
  ·rfl
  ·have:x≠n:=by rintro rfl;exact h v Pq
   simp[this]
theorem mU {kindOf:Str->Option Rj}:∀ {P:List Str}{vs:List Value}{i:Nat}{m:Str->Option Value},P.Nodup->P[i]?=some x->vs[i]?=some v->kindOf x=some .local →
 bindL kindOf (P.zip vs) m x=some v
 | [],_,_,_,_,h,_,_=>by simp at h
 | _ :: _,[],_,_,_,_,h,_=>by simp at h
 | p :: P,w :: vs,0,m,nd,h1,h2,hk=>by
  simp at h1 h2;subst h1;subst h2
  show bindL kindOf ((p,w) :: P.zip vs) m p=_
  unfold bindL
  rw[mS fun v hv=>(List.nodup_cons.mp nd).1 (SE hv).1,if_pos hk]
  simp
 | p :: P,w :: vs,i+1,m,nd,h1,h2,hk=>by
  show bindL kindOf ((p,w) :: P.zip vs) m x=_
  unfold bindL
  exact mU (i:=i) (List.nodup_cons.mp nd).2 (by simpa using h1) (by simpa using h2) hk
theorem mV {kindOf:Str->Option Rj}:∀ {P:List Str}{vs:List Value}{i:Nat}{m:Str->Option Value},P.Nodup->P[i]?=some x->vs[i]?=some v->kindOf x≠some .local →
 bindC kindOf (P.zip vs) m x=some v
 | [],_,_,_,_,h,_,_=>by simp at h
 | _ :: _,[],_,_,_,_,h,_=>by simp at h
 | p :: P,w :: vs,0,m,nd,h1,h2,hk=>by
  simp at h1 h2;subst h1;subst h2
  show bindC kindOf ((p,w) :: P.zip vs) m p=_
  unfold bindC
  rw[mT fun v hv=>(List.nodup_cons.mp nd).1 (SE hv).1,if_neg hk]
  simp
 | p :: P,w :: vs,i+1,m,nd,h1,h2,hk=>by
  show bindC kindOf ((p,w) :: P.zip vs) m x=_
  unfold bindC
  exact mV (i:=i) (List.nodup_cons.mp nd).2 (by simpa using h1) (by simpa using h2) hk
noncomputable def start (N:List Str) (vs:List V):St:=vs.map some++Pi (N.length - vs.length) none
noncomputable def aI (CX:CXT) (P:Pv) (w:P0) (K:OX) (mg:Str->Option Value) (base:Heap) (N:List Str) (qual:Str) (scope:Qc) (f:O9) (cd:Value) (A:QV) (outer:List Env) (s:O4) (H:Hp) (E:XK):Cx where
 prog:=P
 w:=w
 K:=K
 mg:=mg
 base:=base
 A:=A.deeper (Rr qual scope s.heap.objs.size f cd)
 N:=N
 s₀:=s
 H₀:=H
 env:=Rr qual scope s.heap.objs.size f cd
 outer:=outer
 stack:=Rr qual scope s.heap.objs.size f cd :: outer
 ex:=[]
 calm:=true
 fn:=fun _=>true
 pn:=[]
 xe:=fun e s'=>wpAny (Pp P w) (A.deeper (Rr qual scope s.heap.objs.size f cd)) (leaving (Rr qual scope s.heap.objs.size f cd) e) (fun _ s''=>CX outer H s E e s'') (fun e' s''=>CX outer H s E e' s'') s'
theorem pP {sc:Qc}{n:Nat}{x:Str} (h:sc.names.lookup x=some .cell):∃ c,(cellsFrom n sc.names []).lookup x=some c:=by
 have q:=Uw sc.names n [] (.inl h)
 exact Option.isSome_iff_exists.mp q
theorem vB {K:OX}{E:XK}
 (S:aM N ps scope) (hd:A.handled=none) (e0:kP P w K mg base A outer s H) (hl:vs.length=ps.length) (r:ao vs us)
 (x:InCallC s s.heap.objs.size (bindL (Rr qual scope s.heap.objs.size f cd).kindOf (ps.zip us) fun _=>none) (cellsFrom (s.heap.objs.size+1) scope.names []) (bindC (Rr qual scope s.heap.objs.size f cd).kindOf (ps.zip us) fun _=>none) s1) :
 Inv (aI CX P w K mg base N qual scope f cd A outer s H E) [] (start N vs) H s1:=by
 have hpl:ps.length<=N.length:=by have:=congrArg RT S.pre;rw[Ua] at this;lia
 obtain ⟨h1,tk,rfl,hk⟩:=x.done
 have noA:∀ b:O9,b∉(aI CX P w K mg base N qual scope f cd A outer s H E).ex:=fun b z=>absurd (show b∈([]:List O9) from z) (by simp)
 refine ⟨⟨e0.mod,S.kind,rfl,rfl,O8 _,fun y z c h1 h2=>?_,fun y hy=>?_,fun y c _ h=>?_,fun _=>hd,UT e0.frames,.inr ⟨rfl,rfl⟩,fun b z=>absurd z (noA b),e0.bs,e0.bsz,fun b _ _=>noA b,fun b z=>absurd z (noA b),e0.fL,e0.frf⟩,
  rfl,e0.bare,Un.kept hk,⟨_,x.toInCall.ns,fun i y v h1 h2 h3=>?_⟩,fun y c h=>⟨_,x.cell y c h⟩,e0.hok.fresh (O8 _),fun y c h=>?_,fun p hp=>absurd (show p∈([]:List (O9×Obj)) from hp) (by simp),e0.hok.kept hk,?_⟩
 ·exact name_of_addr x.apart (Qt h1) (Qt h2)
 ·have hy:scope.names.lookup y=some .cell\/scope.names.lookup y=some .free:=hy
  rcases hy with hy | hy
  ·exact pP hy
  ·exact absurd rfl (S.nofree _ (Qt hy))
 ·exact QE (x.above y c (Qt h))
 ·have hi:i < vs.length:=by
   unfold start at h2
   by_cases hi:i < vs.length
   ·exact hi
   ·rw[Py (by simpa using hi)] at h2
    rw[QS] at h2
    split at h2<;>cases h2
  have ha:vs[i]?=some v:=by
   unfold start at h2
   rw[O6 (by simpa using hi),PR] at h2
   cases e:vs[i]? with
   | none=>rw[e] at h2;cases h2
   | some a=>rw[e] at h2;cases h2;rfl
  obtain ⟨u,hu,rv⟩:=r.get ha
  have hp:ps[i]?=some y:=by
   rw[← S.pre,Rg (by lia)];exact h1
  have ndP:ps.Nodup:=by rw[← S.pre];exact S.nd.sublist (List.take_sublist _ _)
  refine ⟨u,rv,?_⟩
  rcases S.par y (Pb hp) with k | k
  ·exact .inl ⟨k,mU ndP hp hu k⟩
  ·obtain ⟨c,e⟩:=pP (n:=s.heap.objs.size+1) k
   refine .inr ⟨.inl k,c,e,?_⟩
   have q:=x.cell y c e
   rw[mV ndP hp hu (by show scope.names.lookup y≠_;rw[k];decide)] at q
   exact q
 ·exact e0.hok.fresh (QE (x.above y c (Qt h)))
 ·unfold start
  show _=N.length
  rw[PJ,Pr,Rv]
  lia
theorem xT {K:OX}{kV:Value}
 {osl:Array (Option Value)} (lk:K.lookup f=some ⟨oc,od,.func (Qo name qual params body scope dV kV doc pm an cdv ct),osl⟩) (hcd:SD K cdv qual=true) (S:aM N ps scope)
 (len:∀ vs H Q E,sp vs H Q E->vs.length=ps.length)
 (hbody:∀ (A:QV) (outer:List Env) (s:O4) (H:Hp) (vs:List V) (Q:VK) (E:XK),bA k (A.deeper (Rr qual scope s.heap.objs.size f cdv))->sp vs H Q E →
  ∃ t,PSs (aI CX P w K mg base N qual scope f cdv A outer s H E) body t/\t { nx:=fun _ H'=>Q .non H',rt:=Q } (start N vs) H) :
 bS P w K mg base CX (k+1) f (Qo name qual params body scope dV kV doc pm an cdv ct) ps sp:=by
 refine ⟨len,fun A outer s H args us vs Q E hr e0 hb r hsp=>?_⟩
 have hl:=len _ _ _ _ hsp
 have KX:K.In s.heap:=e0.mod.kin.keeps fun b o e=>(e0.bs b o e).1
 have lim:s.heap.NoLimit:=e0.mod.nolimit.keeps fun b o e=>(e0.bs b o e).1
 have hkind:∀ y∈ps.zip us,scope.names.lookup y.1=some .local\/(scope.names.lookup y.1=some .cell/\((cellsFrom (s.heap.objs.size+1) scope.names []).lookup y.1).isSome=true):=fun ⟨n,v⟩ hy=>by
  rcases S.par n (SE hy).1 with q | q
  ·exact .inl q
  ·exact .inr ⟨q,Uw _ _ _ (.inl q)⟩
 refine codeAny_call_function hr.depth (KX _ _ lk) rfl S.co S.gen rfl (PySem.W.codeRec_of KX hcd) (hb _ _ _ _ ?_)
 refine wpAny_newFunctionEnv_cells S.kind hkind fun env he s1 x=>?_
 subst he
 refine ⟨lim.keeps x.toInCall.keep,codeAny_func ?_⟩
 obtain ⟨t,ht,hq⟩:=hbody A outer s H vs Q E (hr.deeper _) hsp
 have I:Inv (aI CX P w K mg base N qual scope f cdv A outer s H E) [] (start N vs) H s1:=vB S hr.hd e0 hl r x
 refine wpAny_mono (ht [] s1 (start N vs) H _ I hq) (fun fl s' hs=>?_) fun e s' hs=>hs
 have fin:∀ {σ':St}{H':Hp}{v:V}{u:Value},Inv (aI CX P w K mg base N qual scope f cdv A outer s H E) [] σ' H' s'->RelV v u->Q v H'->CE outer P w H s Q u s' :=
  fun {σ' H' v u} J rv q=>⟨v,H',J.os,J.bare,J.base,J.hok,rv,q⟩
 cases fl with
 | ret u =>
  obtain ⟨v,σ',H',J,rv,q⟩:=hs
  exact fin J rv q
 | next =>
  obtain ⟨σ',H',J,q⟩:=hs
  exact fin (v:=V.non) (u:=Uv) J rfl q
 | brk =>
  obtain ⟨_,_,_,q⟩:=hs
  exact PN q
 | cont =>
  obtain ⟨_,_,_,q⟩:=hs
  exact PN q
end L2
namespace L2
open PySem PySem.Spec PyProof.Rows
section
variable {id:String}
noncomputable def tCB (r:List V->Hp->VK->Prop) (t:TA):TE:=fun σ H Q=>t σ H fun vs H1=>r vs H1 Q
theorem cZ (hc:bW X (.builtin id) r) (hg:Gl X x) (hm:X.mg x=none) (hv:Ss x=some (.builtin id)) (ha:PA X (e :: es) t) (hn:x≠"__name__":=by decide) (hdb:(x==("__debug__":Str))=false:=by decide)
 (he:Pu (e :: es) X.env=(false,eval e X.env) :: Pu es X.env:=by rfl) (hpl:(Qx pos (Pu es X.env)).any (·.1)=false:=by rfl):PE X (.Call (.Name x p) (e :: es) [] pos) (tCB r t):=by
 intro pins s σ H Q I h
 refine Qh (bR I hg hm hv ?_ hn hdb)
 exact PyProof.Rows.callWith_builtin1 (thn (ha pos pins s σ H _ I h) fun us s1 ⟨vs,H1,I1,r1,q1⟩=>hc pins s1 σ H1 vs us Q I1 r1 q1) he hpl
theorem gT (hc:bW X (.type T) r) (hg:Gl X x) (hm:X.mg x=none) (hv:Ss x=some (.type T)) (ha:PA X (e :: es) t) (hn:x≠"__name__":=by decide) (hdb:(x==("__debug__":Str))=false:=by decide)
 (he:Pu (e :: es) X.env=(false,eval e X.env) :: Pu es X.env:=by rfl) (hpl:(Qx pos (Pu es X.env)).any (·.1)=false:=by rfl):PE X (.Call (.Name x p) (e :: es) [] pos) (tCB r t):=by
 intro pins s σ H Q I h
 refine Qh (bR I hg hm hv ?_ hn hdb)
 exact Pj (thn (ha pos pins s σ H _ I h) fun us s1 ⟨vs,H1,I1,r1,q1⟩=>hc pins s1 σ H1 vs us Q I1 r1 q1) he hpl
end
end L2
namespace HT
open PySem PyProof.Rows
section
open PySem.SeqAt
open PySem.AutoSeq1 (wpAny_loadPart')
open PySem.MeetsSeq PySem.MeetsSeq2 PySem.MeetsSeq3
end
section
variable {E:Value->O4->Prop}
theorem Bq (ht:IsTup s.heap t vs.toArray) (hb:IsTup s.heap b ws.toArray) (hv:vs≠[])
 (h1:ws=[]->Q (.ref t) s) (h2:ws≠[]->Q (.ref s.heap.objs.size) { s with heap:=s.heap.push { cls:=.type "tuple",data:=.seq (vs++ws).toArray } })
 (hsz:vs.length+ws.length<=sizeLine):wpAny (Pp prog w) A (Qq .Add (.ref t) (.ref b)) Q E s:=by
 obtain ⟨⟨cls,dd,data,sl⟩,ho,hc,n,hd⟩:=id ht
 obtain ⟨⟨cls2,dd2,data2,sl2⟩,ho2,hc2,n2,hd2⟩:=id hb
 simp only at hc hd hc2 hd2
 subst hc hd hc2 hd2
 have e:vs.toArray++ws.toArray=(vs++ws).toArray:=by simp
 by_cases hw:ws=[]
 ·exact concat_meets ⟨_,ho,rfl⟩ ⟨_,ho2,rfl⟩ UB Vo Sk Si (RZ _ _)
   (tuple_addW1 t b vs.toArray ws.toArray n n2 dd dd2 sl sl2 (by simpa using hv) (by simp[hw])) ⟨ho,ho2,h1 hw⟩
 ·refine concat_meets ⟨_,ho,rfl⟩ ⟨_,ho2,rfl⟩ UB Vo Sk Si (RZ _ _)
   (tuple_addW2 t b vs.toArray ws.toArray n n2 dd dd2 sl sl2 (by simpa using hv) (by simpa using hw) (by rw[O2,O2];exact hsz)) ⟨ho,ho2,?_⟩
  rw[e]
  exact h2 hw
noncomputable def sIx (n d:Nat):Option Int->Nat
 | none=>d
 | some v=>if v < 0 then (v+(n:Int)).toNat else min v.toNat n
theorem Fc (n d:Nat) (hd:d<=n) (o:Option Int):sIx n d o<=n:=by
 cases o with
 | none=>exact hd
 | some v =>
  show (if v < 0 then (v+(n:Int)).toNat else min v.toNat n)<=n
  by_cases hv:v < 0
  ·rw[if_pos hv];lia
  ·rw[if_neg hv];exact Nat.min_le_right _ _
theorem tS (v:Int) (n d:Nat):(if v < 0 then max (v+(n:Int)) 0 else min v (n:Int))=((sIx n d (some v):Nat):Int):=by
 show (if v < 0 then max (v+(n:Int)) 0 else min v (n:Int))=(((if v < 0 then (v+(n:Int)).toNat else min v.toNat n):Nat):Int)
 by_cases hv:v < 0
 ·simp only[if_pos hv];lia
 ·simp only[if_neg hv];lia
theorem rJ (lo hi:Option Int) (n:Nat):Rz lo hi 1 (n:Int)=(((sIx n 0 lo:Nat):Int),((sIx n n hi:Nat):Int)):=by
 have h1:¬ ((1:Int) < 0):=by lia
 unfold Rz
 simp only[h1,if_false]
 refine Prod.ext ?_ ?_
 ·cases lo with
  | none=>rfl
  | some v=>exact tS v n 0
 ·cases hi with
  | none=>rfl
  | some v=>exact tS v n n
theorem rK (i j:Nat):QY (i:Int) (j:Int) 1=j - i:=by
 unfold QY
 have h1:(1:Int) > 0:=by lia
 simp only[h1,if_true,Int.ediv_one]
 split<;>lia
theorem kR (p:UA v o) (h:Q o s):wpAny (Pp prog w) A (Builtin.Slice.slicePartIndex v) Q E s:=by
 cases p with
 | none=>exact slicePart_none h
 | int i t=>exact slicePart_int h
theorem fk {lo:Option Int}{n:Nat} (hs:s.heap.IsSliceOf sl vl vu .none) (pl:UA vl lo) (pu:UA vu hi)
 (h:Q (((sIx n 0 lo:Nat):Int),1,sIx n n hi - sIx n 0 lo) s):wpAny (Pp prog w) A (SY (.ref sl) (pure (n:Int))) Q E s:=by
 obtain ⟨os,hos,hcs,hds⟩:=id hs
 unfold SY Builtin.Slice.sliceFields
 refine O0 (O0 (wpAny_field hos hds (x:=vl) rfl (O0 (wpAny_field hos hds (x:=vu) rfl (O0 (wpAny_field hos hds (x:=.none) rfl (wpAny_pure ?_)))))))
 refine O0 (slicePart_none ?_)
 show wpAny _ _ (if ((1:Int)==0)=true then _ else _) _ _ s
 rw[if_neg (by decide)]
 refine O0 (kR pl (O0 (kR pu (O0 (wpAny_pure ?_)))))
 show wpAny _ _ (match Rz lo hi 1 (n:Int) with | (lo,hi)=>pure (lo,(1:Int),QY lo hi 1)) _ _ s
 rw[rJ lo hi n]
 show wpAny _ _ (pure (((sIx n 0 lo:Nat):Int),(1:Int),QY ((sIx n 0 lo:Nat):Int) ((sIx n n hi:Nat):Int) 1)) _ _ s
 rw[rK]
 exact wpAny_pure h
theorem xU (xs:Array Value) (i k:Nat):((PF k).filterMap fun (m:Nat)=>xs[((i:Int)+(m:Int)*1).toNat]?).toArray=((xs.toList.drop i).take k).toArray:=by
 have e:(fun (m:Nat)=>xs[((i:Int)+(m:Int)*1).toNat]?)=fun m=>xs[i+m]?:=by
  funext m
  have:((i:Int)+(m:Int)*1).toNat=i+m:=by lia
  rw[this]
 rw[e]
 have:=pick_run xs i k
 rw[List.filterMap_map] at this
 have e2:((fun x=>xs[x]?) ∘ fun x=>i+x)=fun m=>xs[i+m]?:=rfl
 rw[e2] at this
 rw[this]
theorem iX {lo:Option Int} (ht:IsTup s.heap t items) (hs:s.heap.IsSliceOf sl vl vu .none) (pl:UA vl lo) (pu:UA vu hi)
 (hw:¬ (sIx items.size 0 lo=0/\sIx items.size items.size hi=items.size))
 (h:Q (.ref s.heap.objs.size) { s with heap:=s.heap.push { cls:=.type "tuple",data:=.seq ((items.toList.drop (sIx items.size 0 lo)).take (sIx items.size items.size hi - sIx items.size 0 lo)).toArray } })
 (hsz:items.size<=sizeLine):wpAny (Pp prog w) A (Ul (.ref t) (.ref sl)) Q E s:=by
 have htake:sizeOk (.seq ((items.toList.drop (sIx items.size 0 lo)).take (sIx items.size items.size hi - sIx items.size 0 lo)).toArray):=by
  show ((items.toList.drop (sIx items.size 0 lo)).take (sIx items.size items.size hi - sIx items.size 0 lo)).toArray.size<=sizeLine
  rw[O2,Ua,List.length_drop,Qu]
  lia
 have hj:sIx items.size items.size hi<=items.size:=Fc _ _ (O8 _) hi
 obtain ⟨os,hos,hcs,hds⟩:=id hs
 have hTs:s.TypeIs (.ref sl) "slice":=⟨os,hos,hcs⟩
 unfold Ul
 try with_reducible refine QI ?_
 first | refine O0 (wpAny_pure ?_) | skip
 refine O0 (wpAny_sequenceKey ht.typeIs (by decide) ?_)
 refine O0 (Vk (name:=Pe "__getitem__") ht.typeIs Qw
  (wpAny_call_entry Qw ht.typeIs entry_tuple_getitem ?_ (args_tuple_getitem _ _)))
 show wpAny _ _ (SX (.ref t) >>= _) _ _ s
 refine O0 (tupleItemsOf_ ht ?_)
 refine O0 (Uu hTs ?_)
 rw[if_pos (by decide)]
 refine O0 (fk hs pl pu ?_)
 have hno:¬ ((((sIx items.size 0 lo:Nat):Int)==0&&(1:Int)==1&&(sIx items.size items.size hi - sIx items.size 0 lo)==items.size)=true):=by
  intro q
  rw[OY,OY] at q
  have q1:((sIx items.size 0 lo:Nat):Int)=0:=eq_of_beq q.1.1
  have q2:sIx items.size items.size hi - sIx items.size 0 lo=items.size:=eq_of_beq q.2
  exact hw ⟨by lia,by lia⟩
 show wpAny _ _ (if (((sIx items.size 0 lo:Nat):Int)==0&&(1:Int)==1&&(sIx items.size items.size hi - sIx items.size 0 lo)==items.size)=true then _ else _) _ _ s
 rw[if_neg hno,xU]
 first
  | exact O0 (m:=Q2 _) (RE (wpAny_pure ⟨_,rfl,wpAny_pure h⟩) htake)
  | exact O0 (m:=Q2 _) (RE (O0 (wpAny_pure (wpAny_pure ⟨_,rfl,wpAny_pure h⟩))) htake)
  | exact O0 (O0 (m:=Q2 _) (RE (wpAny_pure (wpAny_pure ⟨_,rfl,wpAny_pure h⟩)) htake))
  | exact O0 (O0 (m:=Q2 _) (RE (wpAny_pure ⟨_,rfl,wpAny_pure h⟩) htake))
end
end HT
namespace L2
open PySem PySem.Spec PyProof.Rows
noncomputable abbrev TO:=St->Hp->(Option Int->Hp->Prop)->Prop
noncomputable def PO (X:Cx) (e:Option Expr) (t:TO):Prop :=
 ∀ (pins:List (O9×Obj)) (s:O4) (σ:St) (H:Hp) (Q:Option Int->Hp->Prop),Inv X pins σ H s->t σ H Q →
  wpAny (Pp X.prog X.w) X.A (evalPart e X.env) (fun u s'=>∃ o H',Inv X pins σ H' s'/\UA u o/\Q o H') X.xe s
noncomputable def Br:TO:=fun _ H Q=>Q none H
noncomputable def Jc (t:TE):TO:=fun σ H Q=>t σ H fun x H1=>∃ i,x=.int i/\Q (some i) H1
theorem intsAre_of:∀ {us:List Value},ao (ns.map V.int) us->VD us ns:=by
 induction ns with
 | nil=>intro us r;rw[QC] at r;cases r;exact .nil
 | cons n ns ih =>
  intro us r
  rw[Pn] at r
  cases r with
  | cons r1 r2 =>
   obtain ⟨t,e⟩:=r1
   subst e
   exact .cons n t (ih r2)
section
variable {lo:Option Expr}
theorem Bs:PO X none Br:=by
 intro pins s σ H Q I h
 rw[Vs]
 exact wpAny_pure ⟨none,H,I,.none,h⟩
theorem Bt (h:PE X e te):PO X (some e) (Jc te):=by
 intro pins s σ H Q I hw
 rw[evalPart_some]
 refine thn (h pins s σ H _ I hw) fun u s1 zq=>?_
 obtain ⟨x,H1,I1,r1,q1⟩:=zq
 obtain ⟨i,rfl,q⟩:=q1
 obtain ⟨t,rfl⟩:=r1
 exact ⟨some i,H1,I1,.int i t,q⟩
noncomputable def SlR (X:Cx) (r:V->Option Int->Option Int->Hp->VK->Prop):Prop :=
 ∀ (pins:List (O9×Obj)) (s:O4) (σ:St) (H:Hp) (x:V) (v vl vu:Value) (lo hi:Option Int) (sl:O9) (Q:VK),Inv X pins σ H s->RelV x v->s.heap.IsSliceOf sl vl vu .none->UA vl lo->UA vu hi->r x lo hi H Q →
  ∃ T id,typeLookup (.type T) "__getitem__"=pure (some (.builtin id))/\s.TypeIs v T/\wpAny (Pp X.prog X.w) X.A (Ul v (.ref sl)) (EP X pins σ Q) X.xe s
noncomputable def tSl (r:V->Option Int->Option Int->Hp->VK->Prop) (te:TE) (tl th:TO):TE:=fun σ H Q=>te σ H fun x H1=>tl σ H1 fun l H2=>th σ H2 fun u H3=>r x l u H3 Q
theorem xV (hr:SlR X r) (he:PE X e te) (hl:PO X lo tl) (hu:PO X hi th):PE X (.Subscript e (.Slice lo hi none p2) pos) (tSl r te tl th):=by
 intro pins s σ H Q I h
 refine Vb (thn (he pins s σ H _ I h) fun v s1 zq=>?_)
 obtain ⟨x,H1,I1,r1,q1⟩:=zq
 refine wpAny_Slice (thn (hl pins s1 σ H1 _ I1 q1) fun vl s2 ⟨l,H2,I2,pl,q2⟩=>thn (hu pins s2 σ H2 _ I2 q2) fun vu s3 zq=>?_)
 obtain ⟨u,H3,I3,pu,q3⟩:=zq
 rw[Vs]
 refine wpAny_pure ?_
 have I4:Inv X pins σ H3 { s3 with heap:=s3.heap.push { cls:=.type "slice",data:=.fields #[vl,vu,.none] } }:=I3.kept (t':=s3.toks) fun b ob q=>OZ _ q
 obtain ⟨T,id,hT,ht,hg⟩:=hr pins { s3 with heap:=s3.heap.push { cls:=.type "slice",data:=.fields #[vl,vu,.none] } } σ H3 x v vl vu l u s3.heap.objs.size Q I4 r1 (Uh ..) pl pu q3
 show wpAny (Pp X.prog X.w) X.A (Vn e (.Slice lo hi none p2) v (.ref s3.heap.objs.size)) (EP X pins σ Q) X.xe { s3 with heap:=s3.heap.push { cls:=.type "slice",data:=.fields #[vl,vu,.none] } }
 exact Vm (ops:=[.ref s3.heap.objs.size,v]) ht hT hg (by with_unfolding_all rfl)
noncomputable def pQ (xs:List V) (lo hi:Option Int):List V:=(xs.drop (HT.sIx xs.length 0 lo)).take (HT.sIx xs.length xs.length hi - HT.sIx xs.length 0 lo)
theorem jQ (xs:List V) (lo hi:Option Int):(pQ xs lo hi).length<=xs.length:=by
 unfold pQ
 rw[Ua,List.length_drop]
 lia
noncomputable def MK (K:OX):V->Option Int->Option Int->Hp->VK->Prop:=fun x lo hi H Q=>∃ a xs,x=.ref a/\SqT K H a xs ∧
 ¬ (HT.sIx xs.length 0 lo=0/\HT.sIx xs.length xs.length hi=xs.length)/\∀ p,H p=none->Q (.ref p) (upd H p (.tup (pQ xs lo hi)))
theorem Fd:SlR X (MK X.K):=by
 intro pins s σ H x v vl vu lo hi sl Q I rx hs pl pu h
 obtain ⟨a,xs,rfl,hx,hw,q⟩:=h
 cases rx
 obtain ⟨its,r,ht,hz⟩:=I.tuple hx
 have hlen:its.toArray.size=xs.length:=by rw[O2];exact r.length.symm
 refine ⟨"tuple",_,PyProof.Rows.slot_tuple_getitem.lookup,ht.typeIs,?_⟩
 refine HT.iX ht hs pl pu (by rw[hlen];exact hw) ?_ (by rw[hlen];exact hz)
 rw[hlen]
 refine ⟨.ref s.heap.objs.size,_,I.laid (t':=s.toks) (o:=.tup (pQ xs lo hi)) (fun b ob q=>OZ _ q) (O8 _) ?_,rfl,q _ (I.hok.fresh (O8 _))⟩
 exact ⟨PD (jQ xs lo hi) hz,_,(r.drop (HT.sIx xs.length 0 lo)).take (HT.sIx xs.length xs.length hi - HT.sIx xs.length 0 lo),IsTup.new _ _⟩
noncomputable def Jd (K:OX):R2:=fun x y H Q=>∃ a b xs ys,x=.ref a/\y=.ref b/\SqT K H a xs/\SqT K H b ys/\xs≠[]/\xs.length+ys.length<=sizeLine ∧
 (ys=[]->Q (.ref a) H)/\(ys≠[]->∀ p,H p=none->Q (.ref p) (upd H p (.tup (xs++ys))))
theorem ao.iY (r:ao xs us):us=[]↔xs=[]:=by
 cases r with
 | nil=>simp
 | cons _ _=>simp
theorem Bu:OpR X (Qq .Add) (Jd X.K):=by
 intro pins s σ H x y v u Q I rx ry h
 obtain ⟨a,b,xs,ys,rfl,rfl,ha,hb,hx,hz,q1,q2⟩:=h
 cases rx
 cases ry
 obtain ⟨its,r1,p1,_⟩:=I.tuple ha
 obtain ⟨its2,r2,p2,_⟩:=I.tuple hb
 refine HT.Bq p1 p2 (fun z=>hx (r1.iY.mp z)) (fun z=>⟨.ref a,H,I,rfl,q1 (r2.iY.mp z)⟩) (fun z=>?_) (by rw[← r1.length,← r2.length];exact hz)
 refine ⟨.ref s.heap.objs.size,_,I.laid (t':=s.toks) (o:=.tup (xs++ys)) (fun b ob q=>OZ _ q) (O8 _) ?_,rfl,q2 (fun w=>z (r2.iY.mpr w)) _ (I.hok.fresh (O8 _))⟩
 exact ⟨by rw[PJ];exact hz,_,r1.append r2,IsTup.new _ _⟩
end
end L2
namespace L2
open PySem PySem.Spec PyProof.Rows
noncomputable def ixN (n:Nat) (i:Int):Option Nat:=if 0<=i then (if i < n then some i.toNat else none) else if -(n:Int)<=i then some (i+n).toNat else none
noncomputable def atI {α:Type} (xs:List α) (i:Int):Option α:=(ixN xs.length i).bind fun j=>xs[j]?
theorem tT (h:ixN n i=some j):seqIndex? i n=some j/\j < n/\-(n:Int)<=i/\i < n:=by
 unfold ixN at h
 by_cases h0:0<=i
 ·rw[if_pos h0] at h
  by_cases h1:i < n
  ·rw[if_pos h1] at h
   have e:i.toNat=j:=O5 h
   exact ⟨by rw[seqIndex_of h0 h1,e],by lia,by lia,h1⟩
  ·rw[if_neg h1] at h;cases h
 ·rw[if_neg h0] at h
  by_cases h1:-(n:Int)<=i
  ·rw[if_pos h1] at h
   have e:(i+n).toNat=j:=O5 h
   exact ⟨by rw[seqIndex_neg (by lia) h1,e],by lia,h1,by lia⟩
  ·rw[if_neg h1] at h;cases h
theorem nM {α:Type}{xs:List α}{v:α} (h:atI xs i=some v):∃ j,seqIndex? i xs.length=some j/\xs[j]?=some v/\j < xs.length/\-(xs.length:Int)<=i/\i < xs.length:=by
 unfold atI at h
 cases e:ixN xs.length i with
 | none=>rw[e] at h;cases h
 | some j =>
  rw[e] at h
  obtain ⟨h1,h2,h3,h4⟩:=tT e
  exact ⟨j,h1,h,h2,h3,h4⟩
noncomputable def tU (b:Expr):Prop:=∀ o i,subscripted b false o i=operate [o,i] (Ul o i)
noncomputable def IxR (X:Cx) (r:R2):Prop :=
 ∀ (value slice:Expr) (pins:List (O9×Obj)) (s:O4) (σ:St) (H:Hp) (x y:V) (v u:Value) (Q:VK),Inv X pins σ H s->RelV x v->RelV y u->r x y H Q →
  subscripted slice false v u=operate [v,u] (Ul v u)->wpAny (Pp X.prog X.w) X.A (Vn value slice v u) (EP X pins σ Q) X.xe s
noncomputable def MtR (X:Cx) (id:String) (r:V->List V->Hp->VK->Prop):Prop :=
 ∀ (pins:List (O9×Obj)) (s:O4) (σ:St) (H:Hp) (x:V) (xs:List V) (v:Value) (us:List Value) (Q:VK),Inv X pins σ H s->RelV x v->ao xs us->r x xs H Q →
  wpAny (Pp X.prog X.w) X.A (call (.builtin id) (v :: us)) (EP X pins σ Q) X.xe s
section
theorem Je (hr:IxR X r) (ha:PE X a ta) (hb:PE X b tb) (hs:tU b):PE X (.Subscript a b pos) (tOp r ta tb):=by
 intro pins s σ H Q I h
 exact Vb (EX ha hb I h fun v u s2 x y H2 I2 rx ry q=>hr a b pins s2 σ H2 x y v u Q I2 rx ry q (hs _ _))
noncomputable def ML (K:OX):R2:=fun x y H Q=>∃ p xs i v,x=.ref p/\y=.int i/\SqL K H p xs/\atI xs i=some v/\Q v H
noncomputable def MN (K:OX):R2:=fun x y H Q=>∃ p xs i v,x=.ref p/\y=.int i/\SqT K H p xs/\atI xs i=some v/\Q v H
noncomputable def MO:R2:=fun x y H Q=>∃ z i c,x=.str z/\y=.int i/\z.length<=sizeLine/\atI z.cps.toList i=some c/\Q (.str ⟨#[c]⟩) H
theorem Bv:IxR X (ML X.K):=by
 intro value slice pins s σ H x y v u Q I rx ry h hs
 obtain ⟨p,xs,i,z,rfl,rfl,hq,he,q⟩:=h
 cases rx
 obtain ⟨t,rfl⟩:=ry
 obtain ⟨its,r,pl,hz⟩:=I.list hq
 obtain ⟨j,h1,h2,h3,h4,h5⟩:=nM he
 obtain ⟨w,ew,rw'⟩:=r.get h2
 have hl:=r.length
 have hn:=jy
 have fin:EP X pins σ Q w s:=⟨z,H,I,rw',q⟩
 by_cases h0:0<=i
 ·have hj:i.toNat=j:=by
   rw[seqIndex_of h0 h5] at h1
   exact O5 h1
  exact item_listR pl.isList h0 (by lia) (by rw[hj];simpa using ew) fin hs
 ·have hj:(i+(its.toArray.size:Int)).toNat=j:=by
   rw[seqIndex_neg (by lia) h4] at h1
   rw[O2,← hl]
   exact O5 h1
  exact subscriptTail_builtinR (x:=w) pl.isList.typeIs slot_list_getitem.lookup
   (wpAny_getItem_list_neg (Q:=fun r s'=>r=w/\EP X pins σ Q r s') pl.isList (by lia) (by rw[O2]<;>lia) (by lia) (by rw[hj];simpa using ew) ⟨rfl,fin⟩) hs
theorem Fe:IxR X (MN X.K):=by
 intro value slice pins s σ H x y v u Q I rx ry h hs
 obtain ⟨p,xs,i,z,rfl,rfl,hq,he,q⟩:=h
 cases rx
 obtain ⟨t,rfl⟩:=ry
 obtain ⟨its,r,pl,hz⟩:=I.tuple hq
 obtain ⟨j,h1,h2,h3,h4,h5⟩:=nM he
 obtain ⟨w,ew,rw'⟩:=r.get h2
 have hl:=r.length
 have hn:=jy
 have fin:EP X pins σ Q w s:=⟨z,H,I,rw',q⟩
 exact subscriptTail_builtinR (x:=w) pl.typeIs slot_tuple_getitem.lookup
  (getItem_tuple (j:=j) (Q:=fun r s'=>r=w/\EP X pins σ Q r s') pl (by lia) (by lia) (by rw[O2,← hl];exact h1) (by simpa using ew) ⟨rfl,fin⟩) hs
theorem Ff:IxR X MO:=by
 intro value slice pins s σ H x y v u Q I rx ry h hs
 obtain ⟨z,i,c,rfl,rfl,hz,he,q⟩:=h
 obtain ⟨t,rfl⟩:=rx
 obtain ⟨t',rfl⟩:=ry
 obtain ⟨j,h1,h2,h3,h4,h5⟩:=nM he
 have hl:z.cps.toList.length=z.length:=by simp[Str.length]
 rw[hl] at h1 h4 h5
 have hn:=jy
 exact Vm (typeIs_str s z t) slot_str_getitem.lookup (getItem_str (c:=c) (by
  have e1:decide (i < -(2 ^ 63:Int))=false:=decide_eq_false (by lia)
  have e2:decide (i ≥ 2 ^ 63)=false:=decide_eq_false (by lia)
  rw[e1,e2,UJ]) (by rw[h1];simpa using h2) ⟨.str ⟨#[c]⟩,H,I.tok _,⟨_,rfl⟩,q⟩) hs
theorem rL (its:List Value) (n j:Nat) (u:Value):Ri (·.setIfInBounds j u) { cls:=.type "list",data:=.seq its.toArray n }={ cls:=.type "list",data:=.seq (its.set j u).toArray n }:=by
 simp[Ri]
theorem Inv.lst {pins:List (O9×Obj)}{σ:St}{H:Hp}{s:O4}{p:O9}{xs:List V} (I:Inv X pins σ H s) (h:H p=some (.lst xs)) :
 ∃ (its:List Value) (n:Nat),ao xs its/\s.heap.get? p=some { cls:=.type "list",data:=.seq its.toArray n }/\xs.length<=sizeLine:=by
 obtain ⟨z,its,n,r,e⟩:=I.hok p _ h
 exact ⟨its,n,r,e,z⟩
theorem Inv.Fg {pins:List (O9×Obj)}{σ:St}{H:Hp}{s:O4}{p:O9}{xs ys:List V}{its its':List Value}{n n':Nat}{f:Obj->Obj} (I:Inv X pins σ H s) (h:H p=some (.lst xs))
 (ho:s.heap.get? p=some { cls:=.type "list",data:=.seq its.toArray n }) (hf:f { cls:=.type "list",data:=.seq its.toArray n }={ cls:=.type "list",data:=.seq its'.toArray n' }) (r:ao ys its') (hz:ys.length<=sizeLine) (t:Nat) :
 Inv X pins σ (upd H p (.lst ys)) { s with heap:=s.heap.update p f,toks:=t }:=by
 have e:(s.heap.update p f).get? p=some { cls:=.type "list",data:=.seq its'.toArray n' }:=by
  rw[Rx f ho (by rw[hf]<;>rfl),hf]
 refine I.write (x:=p) (e:=p) (by rw[h];trivial) (.inl rfl) (fun b u hb q=>(P8 _ _ (Qp hb)).trans q) ⟨_,e⟩ ?_
 exact ⟨hz,its',n',r,e⟩
noncomputable def D8:V->V->V->Hp->(Hp->Prop)->Prop:=fun o i v H Q=>∃ p xs k j,o=.ref p/\i=.int k/\H p=some (.lst xs)/\ixN xs.length k=some j/\Q (upd H p (.lst (xs.set j v)))
theorem set_list:EO X D8:=by
 intro pins s σ H o i v ov iv u Q I ro ri rv h
 obtain ⟨p,xs,k,j,rfl,rfl,hp,hj,q⟩:=h
 cases ro
 obtain ⟨t,rfl⟩:=ri
 obtain ⟨its,n,r,ho,hz⟩:=I.lst hp
 obtain ⟨h1,h2,h3,h4⟩:=tT hj
 have hl:=r.length
 have hn:=jy
 have I':Inv X pins σ (upd H p (.lst (xs.set j v))) { s with heap:=s.heap.update p (Ri (·.setIfInBounds j u)) } :=
  I.Fg hp ho (rL its n j u) (r.set rv j) (by rw[List.length_set];exact hz) s.toks
 by_cases h0:0<=k
 ·have hk:k.toNat=j:=by
   rw[seqIndex_of h0 h4] at h1
   exact O5 h1
  exact PySem.W.ki_setAt ho h0 (by lia) (by rw[O2,← hl];exact h4) (by rw[hk];exact ⟨_,I',q⟩)
 ·have hk:(k+(its.toArray.size:Int)).toNat=j:=by
   rw[seqIndex_neg (by lia) h3] at h1
   rw[O2,← hl]
   exact O5 h1
  exact PySem.W.ki_setBack ho (by lia) (by rw[O2,← hl];exact h3) (by lia) (by rw[hk];exact ⟨_,I',q⟩)
theorem nN (lo hi:Option Int) (n:Nat):(PM lo hi none n).1=((HT.sIx n 0 lo:Nat):Int)/\(PM lo hi none n).2.1=((HT.sIx n n hi:Nat):Int)/\(PM lo hi none n).2.2=1:=by
 refine ⟨?_,?_,rfl⟩
 ·cases lo with
  | none=>simp[PM,HT.sIx]
  | some i =>
   simp only[PM,HT.sIx,Vz,show (1:Int) > 0 by decide,if_true]
   by_cases h:i < 0
   ·simp only[h,if_true]<;>lia
   ·simp only[h,if_false]<;>lia
 ·cases hi with
  | none=>simp[PM,HT.sIx]
  | some i =>
   simp only[PM,HT.sIx,Vz,show (1:Int) > 0 by decide,if_true]
   by_cases h:i < 0
   ·simp only[h,if_true]<;>lia
   ·simp only[h,if_false]<;>lia
theorem mj (its:List Value) (lo hi:Option Int):slicePick its.toArray lo hi none=((its.drop (HT.sIx its.length 0 lo)).take (HT.sIx its.length its.length hi - HT.sIx its.length 0 lo)).toArray:=by
 obtain ⟨h1,h2,h3⟩:=nN lo hi its.toArray.size
 unfold slicePick
 rw[h1,h2,h3]
 simp only[sliceRange_one,pick_run,O2]<;>rfl
noncomputable def MP (K:OX):V->Option Int->Option Int->Hp->VK->Prop:=fun x lo hi H Q=>∃ a xs,x=.ref a/\SqL K H a xs/\∀ p,H p=none->Q (.ref p) (upd H p (.lst (pQ xs lo hi)))
theorem Bw:SlR X (MP X.K):=by
 intro pins s σ H x v vl vu lo hi sl Q I rx hs pl pu h
 obtain ⟨a,xs,rfl,hx,q⟩:=h
 cases rx
 obtain ⟨its,r,ht,hz⟩:=I.list hx
 have hlen:=r.length
 refine ⟨"list",_,slot_list_getitem.lookup,ht.isList.typeIs,?_⟩
 refine Va ht.isList hs pl pu .none (by simp) ?_ (by rw[O2]<;>lia)
 rw[mj,← hlen]
 refine ⟨.ref s.heap.objs.size,_,I.laid (t':=s.toks) (o:=.lst (pQ xs lo hi)) (fun b ob q=>OZ _ q) (O8 _) ?_,rfl,q _ (I.hok.fresh (O8 _))⟩
 exact ⟨PD (jQ xs lo hi) hz,_,0,(r.drop (HT.sIx xs.length 0 lo)).take (HT.sIx xs.length xs.length hi - HT.sIx xs.length 0 lo),Pf _ rfl⟩
theorem iZ:bW X (.builtin "len") (fun xs H Q=>∃ p ys,xs=[.ref p]/\(SqL X.K H p ys\/SqT X.K H p ys)/\Q (.int ys.length) H):=by
 intro pins s σ H xs us Q I r h
 obtain ⟨p,ys,rfl,hq,q⟩:=h
 obtain ⟨u,rfl,rx⟩:=vals1 r
 cases rx
 have hn:=jy
 rcases hq with hq | hq
 ·obtain ⟨its,r',pl,hz⟩:=I.list hq
  have hlen:=r'.length
  exact Calls.call_len_list pl.isList (by simp only[O2]<;>lia) ⟨.int ys.length,H,I.tok _,⟨s.toks+1,by rw[O2,hlen]⟩,q⟩
 ·obtain ⟨its,r',pl,hz⟩:=I.tuple hq
  have hlen:=r'.length
  exact len_tuple pl (by simp only[O2]<;>lia) ⟨.int ys.length,H,I.tok _,⟨s.toks+1,by rw[O2,hlen]⟩,q⟩
theorem nO:bW X (.builtin "len") (fun xs H Q=>∃ z,xs=[.str z]/\z.length<=sizeLine/\Q (.int z.length) H):=by
 intro pins s σ H xs us Q I r h
 obtain ⟨z,rfl,hz,q⟩:=h
 obtain ⟨u,rfl,t,rfl⟩:=vals1 r
 have hn:=jy
 exact len_str (by lia) ⟨.int z.length,H,I.tok _,⟨_,rfl⟩,q⟩
theorem i6:bW X (.type "list") (fun xs H Q=>∃ p ys,xs=[.ref p]/\(SqL X.K H p ys\/SqT X.K H p ys)/\∀ l,H l=none->Q (.ref l) (upd H l (.lst ys))):=by
 intro pins s σ H xs us Q I r h
 obtain ⟨p,ys,rfl,hq,q⟩:=h
 obtain ⟨u,rfl,rx⟩:=vals1 r
 cases rx
 have fin:∀ (its:List Value),ao ys its->ys.length<=sizeLine->∀ (h':Heap) (c':Nat),(∀ b o',s.heap.get? b=some o'->h'.get? b=some o') →
  h'.get? s.heap.objs.size=some { cls:=.type "list",dict:=none,data:=.seq its.toArray c',slots:=#[] }->EP X pins σ Q (.ref s.heap.objs.size) { s with heap:=h' }:=fun its r' hz h' c' kp e =>
  ⟨.ref s.heap.objs.size,_,I.laid (t':=s.toks) kp (O8 _) (show bV X.prog X.w _ h' _ (.lst ys) from ⟨hz,its,c',r',e⟩),rfl,q _ (I.hok.fresh (O8 _))⟩
 rcases hq with hq | hq
 ·obtain ⟨its,r',pl,hz⟩:=I.list hq
  have hlen:=r'.length
  obtain ⟨o,ho,hc,n,hd⟩:=pl.isList
  exact call_list_seq p (.inl rfl) ho hc hd (fun h' c' kp e=>fin its r' hz h' c' kp e) (by simp only[O2]<;>lia)
 ·obtain ⟨its,r',pl,hz⟩:=I.tuple hq
  have hlen:=r'.length
  obtain ⟨o,ho,hc,n,hd⟩:=pl
  exact call_list_seq p (.inr rfl) ho hc hd (fun h' c' kp e=>fin its r' hz h' c' kp e) (by simp only[O2]<;>lia)
theorem iA:bW X (.type "tuple") (fun xs H Q=>∃ p ys,xs=[.ref p]/\((SqL X.K H p ys/\∀ l,H l=none->Q (.ref l) (upd H l (.tup ys)))\/(SqT X.K H p ys/\Q (.ref p) H))):=by
 intro pins s σ H xs us Q I r h
 obtain ⟨p,ys,rfl,h⟩:=h
 obtain ⟨u,rfl,rx⟩:=vals1 r
 cases rx
 rcases h with ⟨hq,q⟩ | ⟨hq,q⟩
 ·obtain ⟨its,r',pl,hz⟩:=I.list hq
  have hlen:=r'.length
  refine call_tuple_list pl.isList (fun h' kp=>?_) (by simp only[O2]<;>lia)
  have I1:Inv X pins σ H { s with heap:=h' }:=I.kept (t':=s.toks) kp
  have I2:Inv X pins σ (upd H h'.objs.size (.tup ys)) { s with heap:=h'.push { cls:=.type "tuple",data:=.seq its.toArray } } :=
   I1.laid (t':=s.toks) (fun b o e=>OZ _ e) (O8 _) (show bV X.prog X.w _ _ _ (.tup ys) from ⟨hz,its,r',IsTup.new _ _⟩)
  exact ⟨.ref h'.objs.size,_,I2,rfl,q _ (I1.hok.fresh (O8 _))⟩
 ·obtain ⟨its,r',pl,hz⟩:=I.tuple hq
  exact call_tuple_same pl ⟨.ref p,H,I,rfl,q⟩
noncomputable def tyV (K:OX) (T:String) (x:V) (H:Hp):Prop:=match x with
 | .str _=>T="str"
 | .int _=>T="int"
 | .ref p=>(T="list"/\∃ xs,SqL K H p xs)\/(T="tuple"/\∃ o,K.lookup p=some o/\o.cls=.type "tuple"/\o.dict=none) ∨
  (T="dict"/\((∃ kvs,H p=some (.dK kvs))\/∃ kvs,H p=some (.dT kvs)))\/(T="set"/\∃ S n,H p=some (.set S n))
 | _=>False
theorem rM (I:Inv X pins σ H s) (r:RelV x v) (ty:tyV X.K T x H) :
 s.TypeIs v T/\∀ a,v=.ref a->∃ ob,s.heap.get? a=some ob/\ob.dict=none:=by
 cases x with
 | str z =>
  obtain ⟨t,rfl⟩:=r
  cases (show T="str" from ty)
  exact ⟨typeIs_str s z t,fun _ e=>nomatch e⟩
 | int i =>
  obtain ⟨t,rfl⟩:=r
  cases (show T="int" from ty)
  exact ⟨typeIs_int s i t,fun _ e=>nomatch e⟩
 | ref p =>
  cases r
  rcases ty with ⟨rfl,xs,hq⟩ | ⟨rfl,o,hk,hc,hd⟩ | ⟨rfl,hk⟩ | ⟨rfl,S,n,hk⟩
  ·obtain ⟨its,_,pl,_⟩:=I.list hq
   refine ⟨pl.isList.typeIs,fun a e=>?_⟩
   cases e
   obtain ⟨o,n,e,c,hd,_⟩:=pl
   exact ⟨o,e,hd⟩
  ·refine ⟨⟨o,I.kIn p o hk,hc⟩,fun a e=>?_⟩
   cases e
   exact ⟨o,I.kIn _ o hk,hd⟩
  ·have z:∃ o,s.heap.get? p=some o/\o.ExactDict:=by
    rcases hk with ⟨kvs,hk⟩ | ⟨kvs,hk⟩
    ·obtain ⟨_,_,_,_,o,_,_,e,ex,_⟩:=I.hok p _ hk
     exact ⟨o,e,ex⟩
    ·obtain ⟨_,_,_,_,o,_,_,e,ex,_⟩:=I.hok p _ hk
     exact ⟨o,e,ex⟩
   obtain ⟨o,e,ex⟩:=z
   refine ⟨⟨o,e,ex.1⟩,fun a e2=>?_⟩
   cases e2
   exact ⟨o,e,ex.2.1⟩
  ·obtain ⟨o,_,_,_,e,ex,_⟩:=I.hok p _ hk
   refine ⟨⟨o,e,ex.1⟩,fun a e2=>?_⟩
   cases e2
   exact ⟨o,e,ex.2.1⟩
 | _=>exact PN ty
noncomputable def MQ (K:OX) (T:String) (r:V->List V->Hp->VK->Prop) (to:TE):TE:=fun σ H Q=>to σ H fun x H1=>tyV K T x H1/\r x [] H1 Q
noncomputable def tBM (K:OX) (T:String) (r:V->List V->Hp->VK->Prop) (to:TE) (t:TA):TE:=fun σ H Q=>to σ H fun x H1=>tyV K T x H1/\t σ H1 fun xs H2=>r x xs H2 Q
variable {id:String}
theorem Fi (pa:PlainAttrs T) (slot:Slot T name id) (hty:typeOf (.builtin id)=pure (.type "method_descriptor")) (hm:MtR X id r) (ho:PE X o to)
 (hbase:SI o name X.env (eval o X.env)=eval o X.env:=by rfl) (hline:(apos.endLine==cpos.line)=true:=by rfl):PE X (.Call (.Attribute o name apos) [] [] cpos) (MQ X.K T r to):=by
 intro pins s σ H Q I h
 refine Vl hbase hline (thn (ho pins s σ H _ I h) fun v s1 zq=>?_)
 obtain ⟨x,H1,I1,r1,ty,q1⟩:=zq
 obtain ⟨h1,h2⟩:=rM I1 r1 ty
 exact ⟨T,id,pa,slot,hty,h1,h2,Sz rfl (U3 (hm pins s1 σ H1 x [] v [] Q I1 r1 .nil q1))⟩
theorem D9 (pa:PlainAttrs T) (slot:Slot T name id) (hty:typeOf (.builtin id)=pure (.type "method_descriptor")) (hm:MtR X id r) (ho:PE X o to) (ha:PA X (e :: es) t)
 (hbase:SI o name X.env (eval o X.env)=eval o X.env:=by rfl)
 (hfew:((Qx cpos (Pu (e :: es) X.env)).all (fun x=>!x.1)&&(Tj cpos (RI [] X.env)).all (fun x=>x.1.isSome)
 &&decide ((e :: es).length+([]:List Ut).length+(if ([]:List Ut).isEmpty then 0 else 1) < 30))=true:=by rfl)
 (hline:(apos.endLine==cpos.line)=true:=by rfl) (hs:Pu (e :: es) X.env=(false,eval e X.env) :: Pu es X.env:=by rfl) (hplain:(Qx cpos (Pu es X.env)).any (·.1)=false:=by rfl) :
 PE X (.Call (.Attribute o name apos) (e :: es) [] cpos) (tBM X.K T r to t):=by
 intro pins s σ H Q I h
 refine wpAny_Call_method_late hbase hfew hline rfl (thn (ho pins s σ H _ I h) fun v s1 zq=>?_)
 obtain ⟨x,H1,I1,r1,ty,q1⟩:=zq
 obtain ⟨h1,h2⟩:=rM I1 r1 ty
 refine ⟨T,id,pa,slot,hty,h1,h2,?_⟩
 have hA:=ha cpos pins s1 σ H1 _ I1 q1
 rw[hs] at hA ⊢
 refine Sz (by show (false||(Qx cpos (Pu es X.env)).any (·.1))=false;rw[hplain]<;>rfl) (UZ ?_)
 exact thn hA fun us s2 ⟨vs,H2,I2,r2,q2⟩=>hm pins s2 σ H2 x vs v us Q I2 r1 r2 q2
/- xs.append(e),list.index on a module's tuple .. are MtR facts of 06m -/
end
end L2
namespace L2
open PySem PySem.Spec PyProof.Rows
noncomputable def MtM (X:Cx) (id:String) (r:V->List V->Hp->VK->Prop):Prop :=
 ∀ (pins:List (O9×Obj)) (s:O4) (σ:St) (H:Hp) (x:V) (xs:List V) (v:Value) (us:List Value) (Q:VK),Inv X pins σ H s->RelV x v->ao xs us->r x xs H Q →
  wpAny (Pp X.prog X.w) X.A (call (.builtin id) (v :: us)) (EP X pins σ Q) X.xe s
theorem ao.one {x:V}{us:List Value} (h:ao [x] us):∃ u,us=[u]/\RelV x u:=by
 cases h with | cons r t=>cases t;exact ⟨_,rfl,r⟩
theorem ao.two {x y:V}{us:List Value} (h:ao [x,y] us):∃ u v,us=[u,v]/\RelV x u/\RelV y v:=by
 cases h with | cons r t=>obtain ⟨v,rfl,q⟩:=ao.one t;exact ⟨_,v,rfl,r,q⟩
theorem ao.zero:∀ {us:List Value},ao [] us->us=[]
 | _,.nil=>rfl
theorem ao.dropLast (h:ao xs us):ao xs.dropLast us.dropLast:=by
 induction h with
 | nil=>exact .nil
 | cons r t ih =>
  cases t with
  | nil=>exact .nil
  | cons q t'=>exact .cons r ih
theorem ao.rep (h:ao xs us):∀ k:Nat,ao (Pi k xs).flatten (Pi k us).flatten
 | 0=>.nil
 | k+1=>by
  rw[Qv,Qv,Q5,Q5]
  exact ao.append h (ao.rep h k)
theorem rN (l:List α):l.eraseIdx (l.length - 1)=l.dropLast:=by
 induction l with
 | nil=>rfl
 | cons a r ih =>
  cases r with
  | nil=>rfl
  | cons b r =>
   have e:(a :: b :: r).length - 1=((b :: r).length - 1)+1:=by
    have h1:(a :: b :: r).length=r.length+2:=rfl
    have h2:(b :: r).length=r.length+1:=rfl
    lia
   rw[e,List.eraseIdx_cons_succ,ih]
   all_goals rfl
theorem foldl_rep (its:List Value):∀ (k:Nat) (acc:List Value),
 UD (fun x1 x2=>x1++x2) acc.toArray (Pi k its.toArray)=(acc++(Pi k its).flatten).toArray
 | 0,acc=>by simp
 | k+1,acc=>by
  have e:acc.toArray++its.toArray=(acc++its).toArray:=by simp
  have e2:(acc++its)++(Pi k its).flatten=acc++(Pi (k+1) its).flatten:=by
   rw[Qv,Q5,QK]
  rw[← e2,← foldl_rep its k (acc++its),← e,Qv,List.foldl_cons]
section
theorem Inv.Bx {its its':List Value}{n:Nat}{f:Array Value->Array Value}{t':Nat} (I:Inv X pins σ H s) (hH:H l=some (.lst xs))
 (e:s.heap.get? l=some { cls:=.type "list",data:=.seq its.toArray n }) (hf:f its.toArray=its'.toArray) (hv:ao ys its') (hz:ys.length<=sizeLine) :
 Inv X pins σ (upd H l (.lst ys)) { s with heap:=s.heap.update l (Ri f),toks:=t' }:=by
 have q:=PySem.IsL.update e f
 rw[hf] at q
 refine I.write (x:=l) (e:=l) (by rw[hH];exact trivial) (.inl rfl) (fun b' u hb hu=>(P8 s.heap (Ri f) (Qp hb)).trans hu) ⟨_,q⟩ ?_
 exact ⟨hz,its',_,hv,q⟩
theorem Inv.Jf (I:Inv X pins σ H s) (hv:ao ys its) (hz:ys.length<=sizeLine) :
 Inv X pins σ (upd H s.heap.objs.size (.lst ys)) { s with heap:=s.heap.push { cls:=.type "list",data:=.seq its.toArray },toks:=t' } :=
 I.laid (fun _ _ q=>OZ _ q) (O8 _) ⟨hz,its,0,hv,Pf _ rfl⟩
theorem Inv.fresh (I:Inv X pins σ H s):H s.heap.objs.size=none:=I.hok.fresh (O8 _)
theorem Inv.By (I:Inv X pins σ H s) (hH:H l=some (.lst xs)):xs.length<=sizeLine/\∃ (its:List Value) (n:Nat),ao xs its/\xs.length=its.length/\s.heap.get? l=some { cls:=.type "list",data:=.seq its.toArray n }:=by
 obtain ⟨z,its,n,r,e⟩:=I.hok l _ hH
 exact ⟨z,its,n,r,r.length,e⟩
theorem kT (h:n<=sizeLine):Qk n=false:=by
 unfold Qk
 exact decide_eq_false (by lia)
end
section
noncomputable def BA:V->List V->Hp->VK->Prop:=fun x vs H Q=>∃ l xs y,x=.ref l/\vs=[y]/\H l=some (.lst xs)/\xs.length < sizeLine/\Q .non (upd H l (.lst (xs++[y])))
theorem vC:MtM X "list.append" BA:=by
 intro pins s σ H x vs v us Q I rx rv h
 obtain ⟨l,xs,y,rfl,rfl,hH,hz,q⟩:=h
 cases rx
 obtain ⟨u,rfl,ru⟩:=rv.one
 obtain ⟨z,its,n,r,hl,e⟩:=I.By hH
 refine Q9 F.slot_list_append ⟨_,e,rfl⟩ F.entry_list_append (F.args_list_append_2 _ _) (PySem.list_append l its.toArray n u (by rw[O2];lia)) ⟨e,?_⟩
 refine ⟨.non,_,I.Bx (its':=its++[u]) hH e (by simp) (r.append (.cons ru .nil)) ?_,rfl,q⟩
 rw[PJ,SG]
 lia
noncomputable def MR:V->List V->Hp->VK->Prop:=fun x vs H Q=>∃ l xs y,x=.ref l/\vs=[]/\H l=some (.lst xs)/\xs[xs.length - 1]?=some y/\Q y (upd H l (.lst xs.dropLast))
theorem Fj:MtM X "list.pop" MR:=by
 intro pins s σ H x vs v us Q I rx rv h
 obtain ⟨l,xs,y,rfl,rfl,hH,hy,q⟩:=h
 cases rx
 have hus:=rv.zero
 subst hus
 obtain ⟨z,its,n,r,hl,e⟩:=I.By hH
 obtain ⟨u,hu,ru⟩:=r.get hy
 have hy':its.toArray[its.toArray.size - 1]?=some u:=by
  show its.toArray[its.length - 1]?=some u
  rw[← US,← hl]
  exact hu
 refine Q9 F.slot_list_pop ⟨_,e,rfl⟩ F.entry_list_pop (F.args_list_pop_1 _) (MeetsSeq.list_pop_last l its.toArray n u hy' (by rw[O2];lia)) ⟨e,?_⟩
 refine ⟨y,_,I.Bx (its':=its.dropLast) hH e ?_ r.dropLast ?_,ru,q⟩
 ·show its.toArray.eraseIdxIfInBounds (its.toArray.size - 1)=its.dropLast.toArray
  rw[O2,List.eraseIdxIfInBounds_toArray,rN]
 ·rw[List.length_dropLast]
  lia
theorem len_rep (xs:List α) (k:Nat):(Pi k xs).flatten.length=k*xs.length:=by
 induction k with
 | zero=>simp
 | succ k ih=>rw[Qv,Q5,PJ,ih,Nat.succ_mul,Nat.add_comm]
end
section
variable {E:Value->O4->Prop}
set_option maxRecDepth 100000 in
end
section
end
end L2
namespace Att
open PySem PySem.W PySem.Calls PyProof.Rows
theorem j4:∀ (ns:List Int) (vs:List Value),WellAll P h vs (ns.map WData.int)->VD vs ns:=by
 intro ns
 induction ns with
 | nil =>
  intro vs w
  rw[QC] at w
  cases w
  exact .nil
 | cons n ns ih =>
  intro vs w
  rw[Pn] at w
  cases w with
  | cons a b =>
   cases a
   exact .cons _ _ (ih _ b)
theorem vD {l:OpenLaw}{n:Nat} (hn:l.most=some n) {P:Params}{h:Heap}{args:List WData}{vals:List Value}
 (hpre:l.row.toRowW.claim.pre args=true) (hwl:WellAll P h vals args) :
 ∃ a vs ns,vals=[Px a]/\args=[WData.list (ns.map WData.int)]/\h.get? a=some { cls:=.type "list",data:=.seq vs.toArray }/\VD vs ns/\ns.length<=n:=by
 have hsh:WShape.hasAll [] args [.list .int]=true:=(pre_splitW hpre).1
 have hc:l.pre.holds [] { args:=args }=true:=(pre_splitW hpre).2
 obtain ⟨d,r,rfl,h1,h2⟩:=hasAllW_cons hsh
 obtain rfl:=hasAllW_nil h2
 obtain ⟨xs,rfl,h3⟩:=hasW_list h1
 obtain ⟨ns,rfl⟩:=items_int h3
 have hlen:ns.length<=n:=by
  unfold OpenLaw.pre at hc
  have h4:(WTm.not (.lt (.lit (.int (n:Int))) (.len (.arg 0)))).holds [] { args:=[.list (ns.map .int)] }=true:=by
   have h4:=(holds_andW hc).1
   rw[hn] at h4
   exact h4
  have h5:=condW_of h4 (w_not (w_lt w_lit (w_len_list (w_arg rfl))))
  rw[Pr] at h5
  refine Nat.le_of_not_lt fun q=>?_
  have q':(n:Int) < ((ns.length:Nat):Int):=by lia
  first
   | (rw[decide_eq_true q'] at h5;exact absurd h5 (by decide))
   | (simp at h5;lia)
 cases hwl with
 | cons w1 w2 =>
  cases w2
  cases w1 with
  | list ho hall=>exact ⟨_,_,ns,rfl,rfl,ho,j4 ns _ hall,hlen⟩
theorem vE (l:OpenLaw) (args:List WData):l.row.toRowW.claim.post args (.bool true) args=true :=
 postW_of (r:=l.row.toRowW) (X:=(true==true))
  (show WShape.has [] (.bool true) .bool=true by first | rfl | decide | simp[WShape.has,WShape.arms,WShape.armsAll])
  (show (WTm.eq .res (.lit (.bool true))).value [] { args:=args,res:=some (.bool true),after:=args }=some (.bool (true==true)) from w_eq_bool (w_res rfl) w_lit) rfl
theorem pR {l:OpenLaw}{n:Nat}{q:Pv}{loose:List Str}{XP:(Str->Option Value)->Heap->Prop}{YP:P0->Heap->Prop}{d:DefRec}
 (hn:l.most=some n) (hdf:d.params.defaults=[])
 (call:∀ (w:P0) (s₀ s₁:O4) (mg mb:Str->Option Value) (fa:O9) (o:Obj) (pm cd doc:Value) (a:O9) (vs:List Value) (ns:List Int),
  Ground q loose [] XP w s₀ mg mb s₁.heap->YP w s₁.heap →
  s₁.heap.get? fa=some o->o.data=.func (docDef d.name d.params d.body d.scope pm cd doc)->s₁.heap.CodeRec cd d.name->mg d.name=some (.ref fa) →
  s₁.heap.get? a=some { cls:=.type "list",data:=.seq vs.toArray }->VD vs ns->ns.length<=n->s₁.gens=#[] →
  codeAny (Pp l.prog w) Vu (.call (.ref fa) ⟨[.ref a],[]⟩) (fun r s'=>r=.ok (.ret (.bool true))/\OldK s₁.heap s'.heap/\s'.os=s₁.os/\T7 s'.gens) s₁) :
 WalkO q loose XP YP l.row.toRowW d [] (fun f vs=>Vw f vs):=by
 intro w s₀ s₁ mg mb G Y fa o pm cd doc dV kV ho hd hcd hD hmg hg args vals as hpre hlay hrd hwl hlo
 obtain rfl:dV=.none:=Dflts.none hD hdf
 obtain rfl:kV=.none:=Dflts.noKw hD
 obtain ⟨a,vs,ns,rfl,rfl,hobj,hints,hlen⟩:=vD hn hpre hwl
 refine enter_call (RM (call w s₀ s₁ mg mb fa o pm cd doc a vs ns G Y ho (fd_plain hd) hcd hmg hobj hints hlen hg) fun r s' hq=>?_)
 obtain ⟨rfl,h2,h3,h4⟩:=hq
 exact ⟨.inl ⟨.bool true,.bool true,[],rfl,fun _=>rfl,.bool true,vE l _,fun _=>⟨List.Pairwise.nil,fun _ hm=>(nomatch hm)⟩⟩,h2,h3,h4⟩
section
variable {E:Value->O4->Prop}{K:Frag}
noncomputable def ledger (h:Heap) (L d:O9):List (O9×Obj):=(PF h.objs.size).filterMap fun a=>if a=L\/a=d then none else (h.get? a).map fun o=>(a,o)
end
end Att
namespace L2
open PySem PySem.Spec PyProof.Rows
theorem mW:∀ {vs:List Value}{ns:List Int},VD vs ns->ao (ns.map V.int) vs
 | _,_,.nil=>.nil
 | _,_,.cons n t h=>.cons ⟨t,rfl⟩ (mW h)
end L2
namespace L2
open PySem PySem.Spec PyProof.Rows
noncomputable abbrev KOf {K:OX}{h:Heap} (_:K.In h):OX:=K
end L2
/- THE LAST THEOREM (shape;LID,My.* are yours):
 My.Adr: a structure of the addresses that your layer names (classes,functions);My.Txt K t: a structure (Prop) of the equations over K;
 My.txt_mk:{K}{implicit addresses ..} (e1:nsIn K Pd "law"=some (some (.ref f))) (e2:K.lookup f=some ⟨oc,od,.func (fnOf "law" "law" params body scope dV kV doc pm an cdv ct),sl⟩) (e3:codeIn K cdv "law"=true) ..:∃ t,My.Txt K t
set_option maxRecDepth 100000 in
set_option maxHeartbeats 0 in
theorem PySem.Challenge.BB:PySem.Challenge.rw_LID.Holds:=by
 w_on;o_law;k_head;(case hw=>w_witness2)
 k_fill
 refine L2.walk_of (l:=PySem.Challenge.rw_LID) (n:=63) (k:=40) (x:="script") (CX:=fun w=>..) (sp:=fun _=>My.AO) rfl (by decide) rfl ⟨rfl,by decide,by decide⟩ (fun w h Y=>PySem.W.kIn_of Y) ?F ?S ?C
 case F =>
  intro w mg fa h KX G hmg
  have T:∃ t,My.Txt (L2.KOf KX) t:=by
   dsimp only[L2.KOf]                          -- K must stand as «<heap const> w.params» for k_is
   refine' My.txt_mk ?e1 ?e2 ?e3 ..
   (case e1=>PySem.W.k_is)                    -- in the order: a name->its address->its object->its parts
   (case e2=>PySem.W.k_is)
   ..
  obtain ⟨t,T⟩:=T
  have e0:=hmg.symm.trans (P5 KX G T.law)
  cases e0                                       -- fa is the law's own address
  exact ⟨_,fun s u=>.of_eq rfl,fun base kb nb=>My.law_fn T kb nb⟩     -- if «.of_eq rfl» comes too early: refine' ⟨_,?b,fun base kb nb=>My.law_fn T kb nb⟩;exact fun s u=>.of_eq rfl
 case S=>exact fun w H a ns hl hO hS=>..
 case C=>exact ..
(the tactic k_is has no namespace: write k_is) -/
namespace L2
open PySem PySem.Spec PyProof.Rows
noncomputable abbrev CX0:CXT:=fun _ _ _ _ _ _=>False
noncomputable abbrev E0:XK:=fun _ _ _=>False
theorem kU:dw CX0 X E0:=fun _ _ _ _ _ _ _ h=>h.elim
inductive Jg (K:OX) (x qual:Str) (st:TY) (f:O9) (fd:Qm):Prop where
 | mk (oc:Value) (od:Option O9) (kV doc pm:Value) (an:Option O9) (cdv ct:Value) (osl:Array (Option Value)) (h1:fd=Qo x qual (b8 st) (aq st) (aa st) .none kV doc pm an cdv ct) (h2:K.lookup f=some ⟨oc,od,.func fd,osl⟩) (h3:SD K cdv qual=true):Jg K x qual st f fd
structure Fun (K:OX) (x qual:Str) (st:TY) (f:O9) (fd:Qm):Prop where
 ex:Jg K x qual st f fd
 kp:PK K (.ref f)=true
section
variable {K:OX}
theorem Fun.binds {st:TY} (F:Fun K x qual st f fd)
 (h:∀ (kV doc pm:Value) (an:Option O9) (cdv ct:Value) (us:List Value),us.length=ps.length->UG (Qo x qual (b8 st) (aq st) (aa st) .none kV doc pm an cdv ct) ⟨us,[]⟩=pure (ps.zip us)):Binds K fd ps []:=by
 obtain ⟨oc,od,kV,doc,pm,an,cdv,ct,osl,rfl,lk,hcd⟩:=F.ex
 exact .all (h kV doc pm an cdv ct)
theorem Fk {st:TY}{osl:Array (Option Value)}{kV:Value} (l:K.lookup f=some ⟨oc,od,.func (Qo x qual (b8 st) (aq st) (aa st) .none kV doc pm an cdv ct),osl⟩)
 (c:SD K cdv qual=true) (k:PK K (.ref f)=true):Fun K x qual st f (Qo x qual (b8 st) (aq st) (aa st) .none kV doc pm an cdv ct):=⟨⟨oc,od,kV,doc,pm,an,cdv,ct,osl,rfl,l,c⟩,k⟩
end
theorem vF (h:n<=1000):n < sizeLine:=TF h (by decide)
section
end
end L2
end
section
namespace L2
open PySem PySem.Spec PyProof.Rows
section
variable {κ:Type} [DecidableEq κ]
noncomputable def pS (kvs:List (κ×V)) (k:κ):Option V:=(kvs.find? fun kv=>decide (kv.1=k)).map (·.2)
noncomputable def putK (kvs:List (κ×V)) (k:κ) (v:V):List (κ×V) :=
 if (kvs.any fun kv=>decide (kv.1=k))=true then kvs.map (fun kv=>if kv.1=k then (kv.1,v) else kv) else kvs++[(k,v)]
theorem pT {p:κ×V}{r:List (κ×V)}{k:κ} (e:p.1=k):pS (p :: r) k=some p.2:=by simp[pS,Rl,e]
theorem pU {p:κ×V}{r:List (κ×V)}{k:κ} (e:¬ p.1=k):pS (p :: r) k=pS r k:=by simp[pS,Rl,e]
theorem pV (kvs:List (κ×V)) (k:κ) (v:V):(putK kvs k v).length<=kvs.length+1:=by
 unfold putK
 split
 ·rw[Pr];lia
 ·rw[PJ,Po,Qe];lia
theorem KV.val {kvs:List (κ×V)}{vs:List (κ×Value)} (r:KV kvs vs) (k:κ):kL (pS kvs k) (valueAt vs k):=by
 unfold KV at r
 induction r with
 | nil=>exact Q4
 | @cons p q ps qs h t ih =>
  obtain ⟨h1,h2⟩:=h
  by_cases e:p.1=k
  ·have e':q.1=k:=h1.symm.trans e
   have b:valueAt (q :: qs) k=some q.2:=by simp[valueAt,Rl,e']
   rw[pT e,b];exact h2
  ·have e':¬ q.1=k:=fun z=>e (h1.trans z)
   have b:valueAt (q :: qs) k=valueAt qs k:=by simp[valueAt,Rl,e']
   rw[pU e,b];exact ih
theorem KV.any (r:KV kvs vs) (k:κ):(kvs.any fun kv=>decide (kv.1=k))=vs.any fun kv=>decide (kv.1=k):=by
 unfold KV at r
 induction r with
 | nil=>rfl
 | cons h t ih=>rw[RL,RL,ih,h.1]
theorem KV.repl (r:KV kvs vs) (k:κ) (ry:RelV y u) :
 KV (kvs.map fun kv=>if kv.1=k then (kv.1,y) else kv) (vs.map fun kv=>if kv.1=k then (kv.1,u) else kv):=by
 unfold KV at r ⊢
 induction r with
 | nil=>exact .nil
 | @cons p q ps qs h t ih =>
  rw[Pn,Pn]
  refine .cons ?_ ih
  obtain ⟨h1,h2⟩:=h
  by_cases e:p.1=k
  ·rw[if_pos e,if_pos (h1.symm.trans e)];exact ⟨h1,ry⟩
  ·rw[if_neg e,if_neg (fun z=>e (h1.trans z))];exact ⟨h1,h2⟩
theorem KV.put (r:KV kvs vs) (k:κ) (ry:RelV y u):KV (putK kvs k y) (stored vs k u):=by
 unfold putK stored
 rw[r.any k]
 by_cases e:(vs.any fun kv=>decide (kv.1=k))=true
 ·rw[if_pos e,if_pos e];exact r.repl k ry
 ·rw[if_neg e,if_neg e];exact Paired.snoc r ⟨rfl,ry⟩
theorem KV.length (r:KV kvs vs):kvs.length=vs.length:=Paired.length r
end
theorem tV (r:RelV (kV k) u):(aF P w).is k u=true:=by
 cases k with
 | inl i=>obtain ⟨t,e⟩:=(show ∃ t,u=Te i t from r);subst e;exact pA P w i t
 | inr x=>obtain ⟨t,e⟩:=(show ∃ t,u=Sh x t from r);subst e;exact d9 P w x t
section
theorem Jh (ok:HOk P w H h) (e:Rd H a u):bV P w H h a u:=e.ok ok
theorem Ea (ok:HOk P w H h) (e:Rd H a (.dK kvs)):kvs.length<=sizeLine/\(a==Q0)=false/\∃ vs,KV kvs vs/\h.DictOf (aF P w) a vs :=
 show bV P w H h a (.dK kvs) from Jh ok e
theorem xW (ok:HOk P w H h) (e:H a=some (.dK kvs)):kvs.length<=sizeLine/\(a==Q0)=false/\∃ vs,KV kvs vs/\h.DictOf (aF P w) a vs:=Ea ok (.inl e)
end
section
variable {E:Value->O4->Prop}
theorem Inv.big (I:Inv X pins σ H s):Q0 < s.heap.objs.size:=by
 have h:Pd < s.heap.objs.size:=(I.mod.glob.keeps I.bk).lt
 exact T8 (by decide) h
theorem BD (I:Inv X pins σ H s) (mu:Mut (H a)) (hs:Rh a s.heap h') (he:∃ q,h'.get? a=some q) (new:bV X.prog X.w (upd H a ob) h' a ob) :
 Inv X pins σ (upd H a ob) { s with heap:=h',toks:=t' } :=
 I.write (x:=a) (e:=a) mu (.inl rfl) (fun b q hb z=>(hs.2 b hb).trans z) he new
theorem Fo (z:kvs.length<=sizeLine) (hd:(a==Q0)=false) (rel:KV kvs vs) (dd:h'.DictOf (aF P w) a vs) :
 bV P w H' h' a (.dK kvs):=⟨z,hd,vs,rel,dd⟩
end
theorem xX (h:Heap) (hb:Q0 < h.objs.size):bV P w H (h.push { cls:=.type "dict",data:=.dict #[] }) h.objs.size (.dK []) :=
 ⟨QU _,beq_eq_false_iff_ne.mpr (Qp (PL hb)),[],.nil,Heap.DictOf.new h⟩
end L2
end
section
namespace BT
open PySem PySem.W PyProof.Rows
noncomputable def Ends {α:Type} (n:Nat) (P:α->Prop):KasT α->Prop
 | .ret a=>P a
 | .ask i j k=>i < n/\j < n/\∀ b,Ends n P (k b)
end BT
end
section
namespace BS
open PySem PySem.W PySem.Spec PyProof.Rows
section
variable {E:Value->O4->Prop}
end
end BS
end
section
namespace BX
open PySem PyProof.Rows
section
variable {prog:Pv}{w:P0}{A:QV}{E:Value->O4->Prop}{s:O4}
end
section
variable {prog:Pv}{w:P0}{A:QV}{E:Value->O4->Prop}{R:Result->O4->Prop}
end
section
variable {prog:Pv}{w:P0}{A:QV}{E:Value->O4->Prop}{s:O4}
end
section
variable {prog:Pv}{w:P0}{A:QV}{E:Value->O4->Prop}{s:O4}
end
end BX
end
section
namespace BX
open PySem PySem.Spec PyProof.Rows
section
variable {prog:Pv}{w:P0}{A:QV}{E:Value->O4->Prop}{h:Heap}{g:Array GenState}{d:Drawn}{t:Nat}{os:OsState}{a:O9}{o:Obj}
end
section
variable {prog:Pv}{w:P0}{K:Type} [DecidableEq K] {knd:KeyKind prog w K}{A:QV}{E:Value->O4->Prop}{s:O4}
end
end BX
end
section
namespace BT
open PySem
inductive D where
 | non | bl (b:Bool) | int (i:Int) | str (x:Str) | tup (xs:List D) | lst (xs:List D)
inductive FK where
 | f (x:Str) | m (c x:Str) | l (i:Nat)
 deriving DecidableEq
instance:Coe String FK:=⟨fun s=>.f (Pe s)⟩
inductive Cp where
 | p (d:D) | o (n:Nat)
noncomputable abbrev Ky:=Int ⊕ Str
inductive Kd where
 | t (kvs:List (Str×D)) | l (kvs:List (Ky×D))
inductive W where
 | p (d:D) | r (n:Nat) | k (kvs:Kd) | o (n:Nat) | c (f:FK) (cs:List Cp) | x (c:Str)
noncomputable def Cp.w:Cp->W
 | .p d=>.p d
 | .o n=>.o n
@[simp] theorem Cp.w_p (d:D):Cp.w (.p d)=.p d:=rfl
@[simp] theorem Cp.w_o (n:Nat):Cp.w (.o n)=.o n:=rfl
noncomputable def pW:W->Option Cp
 | .p d=>some (.p d)
 | .o n=>some (.o n)
 | .r _=>none
 | .k _=>none
 | .c _ _=>none
 | .x _=>none
@[simp] theorem Lk (d:D):pW (.p d)=some (.p d):=rfl
@[simp] theorem Ll (n:Nat):pW (.o n)=some (.o n):=rfl
inductive Cl where
 | l (xs:List D) | o (c:Str) (fs:List (Str×W)) | d (kvs:List (Ky×D))
noncomputable abbrev HH:=List Cl
noncomputable abbrev Sl:=List (Option W)
set_option genInjectivity false in
inductive Bin where
 | add | sub | mul | mod | fdiv | pow
set_option genInjectivity false in
inductive Cm where
 | eq | ne | lt | le | gt | ge | isN | notN | mem | nmem
set_option genInjectivity false in
inductive Sr where
 | seq | rng1 | rng2 | rev | enu | zip2
inductive Bi where
 | len | abs | int | str | bool | list | tuple | all | any | isInt | isBool | isStr | isTuple | isList | min2 | max2
 | sum | sorted | max1 | lzip | nset | sset | maxd | lrng3
set_option genInjectivity false in
inductive Me where
 | append | pop | extend | tindex | sindex | dget | count | lindex
inductive Dk where
 | of | ks | so
set_option genInjectivity false in
mutual
inductive E where
 | var (i:Nat)
 | cst (d:D)
 | glo (x:Str)
 | bin (o:Bin) (a b:E)
 | neg (a:E)
 | not (a:E)
 | and (a b:E)
 | or (a b:E)
 | cmp (o:Cm) (a b:E)
 | chain (o o':Cm) (a b c:E)
 | ite (c a b:E)
 | tup (as:Es)
 | lst (mu:Bool) (as:Es)
 | idx (a i:E)
 | slc (a:E) (lo hi:Es)
 | stp (mu:Bool) (k:Int) (a:E)
 | call (f:Str) (as:Es)
 | fld (a:E) (f:Str)
 | meth (o:E) (m:Str) (as:Es)
 | make (c:Str) (as:Es)
 | bi (b:Bi) (mu:Bool) (as:Es)
 | lsr (mu:Bool) (sr:Sr) (as:Es)
 | me (m:Me) (o:E) (as:Es)
 | comp (mu:Bool) (sr:Sr) (sa:Es) (tg:List Str) (fv:List (Nat×Str)) (cond:Es) (elt:E)
 | callv (i:Nat) (as:Es)
 | methL (o:E) (m:Str) (as:Es) (L:Nat) (fv:List (Nat×Str))
 | dnew
 | isx (c:Str) (a:E)
 | dli (o:E)
 | cat (a b:E)
inductive Es where
 | nil
 | cons (a:E) (as:Es)
end
set_option genInjectivity false in
inductive S where
 | nil
 | seq (a b:S)
 | set (i:Nat) (e:E)
 | aug (i:Nat) (o:Bin) (e:E)
 | put (i:Nat) (k e:E)
 | putd (i:Nat) (k e:E)
 | setf (o:E) (f:Str) (e:E)
 | augf (o:E) (f:Str) (op:Bin) (e:E)
 | ex (e:E)
 | ret (e:E)
 | ife (c:E) (a b:S)
 | whl (c:E) (b:S)
 | for (tg:List (Nat×Str)) (sr:Sr) (sa:Es) (b:S)
 | brk | cnt
 | bad
 | rai (c:Str) (e:E)
set_option genInjectivity false in
structure Fn where
 ps:List Str
 ns:List Str
 body:S
noncomputable def bnd {α β:Type} (x:Option (α×HH)) (k:α->HH->Option β):Option β :=
 match x with | some (a,h)=>k a h | none=>none
@[simp] theorem bX (a:α) (h:HH) (k:α->HH->Option β):bnd (some (a,h)) k=k a h:=rfl
@[simp] theorem Ji (k:α->HH->Option β):bnd none k=none:=rfl
@[simp] noncomputable def lim:Nat:=100000
mutual
@[simp] noncomputable def eqv:D->D->Bool
 | .non,.non=>true
 | .bl a,.bl b=>a==b
 | .bl a,.int j=>(if a then (1:Int) else 0)==j
 | .int i,.bl b=>i==(if b then (1:Int) else 0)
 | .int i,.int j=>i==j
 | .str x,.str y=>x==y
 | .tup xs,.tup ys=>mq xs ys
 | .lst xs,.lst ys=>mq xs ys
 | _,_=>false
@[simp] noncomputable def mq:List D->List D->Bool
 | [],[]=>true
 | x :: xs,y :: ys=>eqv x y&&mq xs ys
 | _,_=>false
end
noncomputable def nQ:Cl->Option (List D)
 | .l xs=>some xs
 | .o _ _=>none
 | .d _=>none
noncomputable def pX:Cl->Option (Str×List (Str×W))
 | .l _=>none
 | .o c fs=>some (c,fs)
 | .d _=>none
noncomputable def xY:Cl->Option (List (Ky×D))
 | .l _=>none
 | .o _ _=>none
 | .d kvs=>some kvs
@[simp] theorem MS (kvs:List (Ky×D)):nQ (.d kvs)=none:=rfl
@[simp] theorem MT (kvs:List (Ky×D)):pX (.d kvs)=none:=rfl
@[simp] theorem MU (kvs:List (Ky×D)):xY (.d kvs)=some kvs:=rfl
@[simp] theorem MV (xs:List D):xY (.l xs)=none:=rfl
@[simp] theorem MW (c:Str) (fs:List (Str×W)):xY (.o c fs)=none:=rfl
@[simp] theorem MY (xs:List D):nQ (.l xs)=some xs:=rfl
@[simp] theorem MZ (c:Str) (fs:List (Str×W)):nQ (.o c fs)=none:=rfl
@[simp] theorem M0 (xs:List D):pX (.l xs)=none:=rfl
@[simp] theorem Fp (c:Str) (fs:List (Str×W)):pX (.o c fs)=some (c,fs):=rfl
noncomputable def lat (h:HH) (n:Nat):Option (List D):=(h[n]?).bind nQ
noncomputable def oat (h:HH) (n:Nat):Option (Str×List (Str×W)):=(h[n]?).bind pX
noncomputable def dat (h:HH) (n:Nat):Option (List (Ky×D)):=(h[n]?).bind xY
noncomputable def j6:D->Option Ky
 | .non=>none
 | .bl _=>none
 | .int i=>some (.inl i)
 | .str x=>some (.inr x)
 | .tup _=>none
 | .lst _=>none
@[simp] theorem Jj (i:Int):j6 (.int i)=some (.inl i):=rfl
@[simp] theorem Jk (x:Str):j6 (.str x)=some (.inr x):=rfl
noncomputable def rO:Ky->D
 | .inl i=>.int i
 | .inr x=>.str x
@[simp] theorem M1 (i:Int):rO (.inl i)=.int i:=rfl
@[simp] theorem M3 (x:Str):rO (.inr x)=.str x:=rfl
noncomputable def c5 (kvs:List (Ky×D)) (k:Ky):Option D:=(kvs.find? fun kv=>decide (kv.1=k)).map (·.2)
noncomputable def tW (kvs:List (Ky×D)) (k:Ky) (v:D):List (Ky×D) :=
 if (kvs.any fun kv=>decide (kv.1=k))=true then kvs.map (fun kv=>if kv.1=k then (kv.1,v) else kv) else kvs++[(k,v)]
noncomputable def jA (kvs:List (Ky×D)):List D:=kvs.map fun q=>.tup [rO q.1,q.2]
noncomputable def rd (w:W) (h:HH):Option D:=match w with
 | .p d=>some d
 | .r n=>(lat h n).map D.lst
 | .k _=>none
 | .o _=>none
 | .c _ _=>none
 | .x _=>none
@[simp] theorem OM (d:D) (h:HH):rd (.p d) h=some d:=rfl
noncomputable def big (i:Int):Bool:=decide (i.natAbs < 2 ^ 64)
noncomputable def rep (k:Nat) (xs:List D):List D:=(Pi k xs).flatten
noncomputable def jB:Bin->D->D->Option D
 | .add,.int i,.int j=>some (.int (i+j))
 | .add,.str x,.str y=>if x.length+y.length<=lim then some (.str (x++y)) else none
 | .add,.tup xs,.tup ys=>if xs.length+ys.length<=lim then some (.tup (xs++ys)) else none
 | .add,.lst xs,.lst ys=>if xs.length+ys.length<=lim then some (.lst (xs++ys)) else none
 | .sub,.int i,.int j=>some (.int (i - j))
 | .mul,.int i,.int j=>if big i||big j then some (.int (i*j)) else none
 | .mul,.tup xs,.int k=>if 2<=k&&k<=1000&&!xs.isEmpty&&xs.length*k.toNat<=lim then some (.tup (rep k.toNat xs)) else none
 | .mul,.lst xs,.int k=>if -1000<=k&&k<=1000&&xs.length*k.toNat<=lim then some (.lst (rep k.toNat xs)) else none
 | .mod,.int i,.int j=>if 0 < j then some (.int (i % j)) else none
 | .fdiv,.int i,.int j=>if 0 < j&&j < 1073741824 then some (.int (i / j)) else none
 | .pow,.int i,.int j=>if 0<=j&&j<=100&&big i then some (.int (i ^ j.toNat)) else none
 | _,_,_=>none
noncomputable def kW:Bin->D->D->Option D
 | .add,.int i,.int j=>some (.int (i+j))
 | .sub,.int i,.int j=>some (.int (i - j))
 | .mul,.int i,.int j=>if big i||big j then some (.int (i*j)) else none
 | _,_,_=>none
@[simp] theorem Jl (i j:Int):kW .add (.int i) (.int j)=some (.int (i+j)):=rfl
@[simp] theorem Jm (i j:Int):kW .sub (.int i) (.int j)=some (.int (i - j)):=rfl
@[simp] theorem pY (i j:Int):kW .mul (.int i) (.int j)=if big i||big j then some (.int (i*j)) else none:=rfl
@[simp] noncomputable def place (n:Nat) (i:Int):Option Nat :=
 if 0<=i then (if i < n then some i.toNat else none) else if -(n:Int)<=i then some (i+n).toNat else none
@[simp] noncomputable def atP {α:Type} (xs:List α) (i:Int):Option α:=(place xs.length i).bind fun j=>xs[j]?
@[simp] noncomputable def cM (k:Str):List (Str×D)->Option D
 | []=>none
 | (x,d) :: r=>if k=x then some d else cM k r
noncomputable def aX:D->D->Option D
 | .tup xs,.int i=>atP xs i
 | .lst xs,.int i=>atP xs i
 | .str x,.int i=>if x.length<=lim then (atP x.cps.toList i).map fun c=>.str ⟨#[c]⟩ else none
 | _,_=>none
@[simp] noncomputable def clip (n d:Nat):Option Int->Nat
 | none=>d
 | some v=>if v < 0 then (v+(n:Int)).toNat else if v<=(n:Int) then v.toNat else n
@[simp] noncomputable def cut (xs:List D) (lo hi:Option Int):List D:=(xs.drop (clip xs.length 0 lo)).take (clip xs.length xs.length hi - clip xs.length 0 lo)
@[simp] noncomputable def nR:List D->Option (Option Int)
 | []=>some none
 | [.int i]=>some (some i)
 | _=>none
noncomputable def rP (x:D) (lo hi:Option Int):Option D:=match x with
 | .tup xs=>some (.tup (cut xs lo hi))
 | .lst xs=>some (.lst (cut xs lo hi))
 | _=>none
noncomputable def dok:Nat->D->Bool
 | _,.non=>true
 | _,.bl _=>true
 | _,.int _=>true
 | _,.str _=>true
 | 0,.tup _=>false
 | 0,.lst _=>false
 | n+1,.tup xs=>xs.all (dok n)
 | n+1,.lst xs=>xs.all (dok n)
@[simp] theorem Lm (n:Nat):dok n .non=true:=by cases n<;>rfl
@[simp] theorem M4 (n:Nat) (b:Bool):dok n (.bl b)=true:=by cases n<;>rfl
@[simp] theorem Ln (n:Nat) (i:Int):dok n (.int i)=true:=by cases n<;>rfl
@[simp] theorem Lo (n:Nat) (x:Str):dok n (.str x)=true:=by cases n<;>rfl
@[simp] theorem tX (n:Nat) (xs:List D):dok (n+1) (.tup xs)=xs.all (dok n):=rfl
@[simp] theorem tY (n:Nat) (xs:List D):dok (n+1) (.lst xs)=xs.all (dok n):=rfl
noncomputable def aU (x y:D):Bool:=dok 100 x||dok 100 y
@[simp] theorem Jo (x:D) (y:Str):aU x (.str y)=true:=by simp[aU]
@[simp] theorem Jp (x:D) (y:Int):aU x (.int y)=true:=by simp[aU]
@[simp] theorem HY (x:D) (y:Str):aU (.str y) x=true:=by simp[aU]
@[simp] theorem HZ (x:D) (y:Int):aU (.int y) x=true:=by simp[aU]
@[simp] theorem Ia (x:D):aU x (.tup [])=true:=by simp[aU,dok]
@[simp] theorem Ib (x:D):aU x (.lst [])=true:=by simp[aU,dok]
@[simp] theorem Lp (x:D) (b:Bool):aU x (.bl b)=true:=by simp[aU]
theorem iI (h:dok 100 y=true):aU x y=true:=by simp[aU,h]
noncomputable def gw:D->Bool
 | .non=>true
 | .bl _=>false
 | .int _=>false
 | .str _=>false
 | .tup _=>false
 | .lst _=>false
@[simp] theorem Ic:gw .non=true:=rfl
@[simp] theorem Jq (z:Bool):gw (.bl z)=false:=rfl
@[simp] theorem Ie (z:Int):gw (.int z)=false:=rfl
@[simp] theorem Ig (z:Str):gw (.str z)=false:=rfl
@[simp] theorem Ih (z:List D):gw (.tup z)=false:=rfl
@[simp] theorem Ii (z:List D):gw (.lst z)=false:=rfl
noncomputable def nT (b:Bool):D->Bool
 | .non=>false
 | .bl c=>c==b
 | .int _=>false
 | .str _=>false
 | .tup _=>false
 | .lst _=>false
@[simp] theorem Jr (b:Bool):nT b .non=false:=rfl
@[simp] theorem Lq (b z:Bool):nT b (.bl z)=(z==b):=rfl
@[simp] theorem Js (b:Bool) (z:Int):nT b (.int z)=false:=rfl
@[simp] theorem Jt (b:Bool) (z:Str):nT b (.str z)=false:=rfl
@[simp] theorem Ju (b:Bool) (z:List D):nT b (.tup z)=false:=rfl
@[simp] theorem Jv (b:Bool) (z:List D):nT b (.lst z)=false:=rfl
noncomputable def d8:Cm->D->D->Option Bool
 | .eq,x,y=>if aU x y then some (eqv x y) else none
 | .ne,x,y=>if aU x y then some (!eqv x y) else none
 | .lt,.int i,.int j=>some (decide (i < j))
 | .le,.int i,.int j=>some (decide (i<=j))
 | .gt,.int i,.int j=>some (decide (j < i))
 | .ge,.int i,.int j=>some (decide (j<=i))
 | .isN,x,.non=>some (gw x)
 | .notN,x,.non=>some (!gw x)
 | .notN,x,.bl b=>some (!nT b x)
 | .mem,x,.tup ys=>if ys.all fun y=>aU y x then some (ys.any fun y=>eqv y x) else none
 | .mem,x,.lst ys=>if ys.all fun y=>aU y x then some (ys.any fun y=>eqv y x) else none
 | .nmem,x,.tup ys=>if ys.all fun y=>aU y x then some (!ys.any fun y=>eqv y x) else none
 | .nmem,x,.lst ys=>if ys.all fun y=>aU y x then some (!ys.any fun y=>eqv y x) else none
 | _,_,_=>none
@[simp] noncomputable def intsOf:List D->Option (List Int)
 | []=>some []
 | .int i :: r=>(intsOf r).map (i :: ·)
 | _=>none
@[simp] noncomputable def allB:List D->Option Bool
 | []=>some true
 | .bl b :: r=>if b then allB r else some false
 | _=>none
@[simp] noncomputable def anyB:List D->Option Bool
 | []=>some false
 | .bl b :: r=>if b then some true else anyB r
 | _=>none
noncomputable def isI:D->Bool
 | .non=>false
 | .bl _=>true
 | .int _=>true
 | .str _=>false
 | .tup _=>false
 | .lst _=>false
@[simp] theorem Lr:isI .non=false:=rfl
@[simp] theorem M5 (z:Bool):isI (.bl z)=true:=rfl
@[simp] theorem Ls (z:Int):isI (.int z)=true:=rfl
@[simp] theorem Lu (z:Str):isI (.str z)=false:=rfl
@[simp] theorem Lv (z:List D):isI (.tup z)=false:=rfl
@[simp] theorem Lx (z:List D):isI (.lst z)=false:=rfl
noncomputable def isB:D->Bool
 | .non=>false
 | .bl _=>true
 | .int _=>false
 | .str _=>false
 | .tup _=>false
 | .lst _=>false
@[simp] theorem Ly:isB .non=false:=rfl
@[simp] theorem M6 (z:Bool):isB (.bl z)=true:=rfl
@[simp] theorem LC (z:Int):isB (.int z)=false:=rfl
@[simp] theorem LD (z:Str):isB (.str z)=false:=rfl
@[simp] theorem LG (z:List D):isB (.tup z)=false:=rfl
@[simp] theorem LH (z:List D):isB (.lst z)=false:=rfl
noncomputable def isS:D->Bool
 | .non=>false
 | .bl _=>false
 | .int _=>false
 | .str _=>true
 | .tup _=>false
 | .lst _=>false
@[simp] theorem LJ:isS .non=false:=rfl
@[simp] theorem M7 (z:Bool):isS (.bl z)=false:=rfl
@[simp] theorem LK (z:Int):isS (.int z)=false:=rfl
@[simp] theorem LM (z:Str):isS (.str z)=true:=rfl
@[simp] theorem LN (z:List D):isS (.tup z)=false:=rfl
@[simp] theorem LP (z:List D):isS (.lst z)=false:=rfl
noncomputable def isT:D->Bool
 | .non=>false
 | .bl _=>false
 | .int _=>false
 | .str _=>false
 | .tup _=>true
 | .lst _=>false
@[simp] theorem LQ:isT .non=false:=rfl
@[simp] theorem M8 (z:Bool):isT (.bl z)=false:=rfl
@[simp] theorem LR (z:Int):isT (.int z)=false:=rfl
@[simp] theorem LS (z:Str):isT (.str z)=false:=rfl
@[simp] theorem LU (z:List D):isT (.tup z)=true:=rfl
@[simp] theorem LV (z:List D):isT (.lst z)=false:=rfl
noncomputable def isL:D->Bool
 | .non=>false
 | .bl _=>false
 | .int _=>false
 | .str _=>false
 | .tup _=>false
 | .lst _=>true
@[simp] theorem LW:isL .non=false:=rfl
@[simp] theorem M9 (z:Bool):isL (.bl z)=false:=rfl
@[simp] theorem LY (z:Int):isL (.int z)=false:=rfl
@[simp] theorem LZ (z:Str):isL (.str z)=false:=rfl
@[simp] theorem L0 (z:List D):isL (.tup z)=false:=rfl
@[simp] theorem L1 (z:List D):isL (.lst z)=true:=rfl
noncomputable def sortI (ns:List Int):List Int:=ns.mergeSort fun a b=>decide (a<=b)
noncomputable def nU:List Int->Option Int
 | []=>none
 | n :: ns=>some (ns.foldl max n)
@[simp] noncomputable def BE:List D->List D->List D
 | x :: xs,y :: ys=>.tup [x,y] :: BE xs ys
 | _,_=>[]
noncomputable def ded (ns:List Int):List Int:=ns.foldl (fun σ v=>if σ.any (·==v) then σ else σ++[v]) []
noncomputable def gx (a b c:Int):Nat:=if a < b then ((b - a - 1) / c+1).toNat else 0
noncomputable def stepI (a c:Int) (n:Nat):List Int:=(PF n).map fun (k:Nat)=>a+(k:Int)*c
noncomputable def biD:Bi->List D->Option D
 | .len,[.tup xs]=>some (.int xs.length)
 | .len,[.lst xs]=>some (.int xs.length)
 | .len,[.str x]=>if x.length<=lim then some (.int x.length) else none
 | .abs,[.int i]=>some (.int (if i < 0 then -i else i))
 | .int,[.int i]=>some (.int i)
 | .int,[.bl b]=>some (.int (if b then 1 else 0))
 | .str,[.int i]=>if big i then some (.str (toString i)) else none
 | .tuple,[.lst xs]=>some (.tup xs)
 | .tuple,[.tup xs]=>some (.tup xs)
 | .list,[.lst xs]=>some (.lst xs)
 | .list,[.tup xs]=>some (.lst xs)
 | .all,[.lst xs]=>(allB xs).map .bl
 | .any,[.lst xs]=>(anyB xs).map .bl
 | .isInt,[x]=>some (.bl (isI x))
 | .isBool,[x]=>some (.bl (isB x))
 | .isStr,[x]=>some (.bl (isS x))
 | .isTuple,[x]=>some (.bl (isT x))
 | .isList,[x]=>some (.bl (isL x))
 | .min2,[.int i,.int j]=>some (.int (if j < i then j else i))
 | .max2,[.int i,.int j]=>some (.int (if j > i then j else i))
 | .sorted,[.lst xs]=>(intsOf xs).bind fun ns=>if ns.length < 64 then some (.lst ((sortI ns).map .int)) else none
 | .max1,[.lst xs]=>(intsOf xs).bind fun ns=>(nU ns).map .int
 | .sum,[.lst xs]=>(intsOf xs).map fun ns=>.int ns.sum
 | .nset,[.lst xs]=>(intsOf xs).bind fun ns=>if ns.length < 1000 then some (.int ((ded ns).length:Nat)) else none
 | .sset,[.lst xs]=>(intsOf xs).bind fun ns=>if ns.length < 64 then some (.lst ((sortI (ded ns)).map .int)) else none
 | .lzip,[.tup xs,.tup ys]=>if 0 < xs.length/\xs.length=ys.length then some (.lst (BE xs ys)) else none
 | .maxd,[.lst xs,.int d]=>(intsOf xs).map fun ns=>.int ((nU ns).getD d)
 | .lrng3,[.int a,.int b,.int c]=>if 0 < c&&c<=100000&&-100000<=a&&a<=100000&&-100000<=b&&b<=100000 then some (.lst ((stepI a c (gx a b c)).map .int)) else none
 | _,_=>none
@[simp] noncomputable def jC:Nat->List D->List D
 | _,[]=>[]
 | k,x :: r=>.tup [.int k,x] :: jC (k+1) r
noncomputable def nV:D->Option (List D)
 | .tup xs=>some xs
 | .lst xs=>some xs
 | _=>none
noncomputable def upto (lo:Int) (n:Nat):List D:=(PF n).map fun (k:Nat)=>D.int (lo+(k:Int))
noncomputable def dQ:Sr->List D->Option (List D)
 | .seq,[x]=>nV x
 | .rng1,[.int n]=>if -100000<=n&&n<=100000 then some (upto 0 n.toNat) else none
 | .rng2,[.int a,.int b]=>if -100000<=a&&a<=100000&&-100000<=b&&b<=100000 then some (upto a (b - a).toNat) else none
 | .rev,[.lst xs]=>some xs.reverse
 | .enu,[.lst xs]=>some (jC 0 xs)
 | .zip2,[.lst xs,.lst ys]=>some (BE xs ys)
 | _,_=>none
@[simp] noncomputable def fQ (x:D):List D->Nat->Option Nat
 | [],_=>none
 | y :: r,k=>if eqv y x then some k else fQ x r (k+1)
@[simp] noncomputable def Jw (c:Nat):List Nat->Nat->Option Nat
 | [],_=>none
 | y :: r,k=>if y=c then some k else Jw c r (k+1)
@[simp] noncomputable def aK:List W->Option (List D)
 | []=>some []
 | .p d :: r=>(aK r).map (d :: ·)
 | .r _ :: _=>none
 | .k _ :: _=>none
 | .o _ :: _=>none
 | .c _ _ :: _=>none
 | .x _ :: _=>none
noncomputable def meD:Me->D->List D->Option D
 | .tindex,.tup xs,[x]=>if xs.all fun y=>aU y x then (fQ x xs 0).map fun (q:Nat)=>D.int (q:Int) else none
 | .sindex,.str x,[.str y]=>match RX x y 0 x.length 1 with
  | i :: _=>some (.int (i:Int))
  | []=>none
 | .count,.lst xs,[x]=>if xs.all fun y=>aU y x then some (.int ((xs.countP fun y=>eqv y x:Nat):Int)) else none
 | .lindex,.lst xs,[x]=>if xs.all fun y=>aU y x then (fQ x xs 0).map fun (q:Nat)=>D.int (q:Int) else none
 | _,_,_=>none
theorem Fq:meD .count (.lst xs) [x]=if xs.all fun y=>aU y x then some (.int ((xs.countP fun y=>eqv y x:Nat):Int)) else none:=rfl
theorem Ft:meD .lindex (.lst xs) [x]=if xs.all fun y=>aU y x then (fQ x xs 0).map fun (q:Nat)=>D.int (q:Int) else none:=rfl
theorem xZ:meD .tindex (.tup xs) [x]=if xs.all fun y=>aU y x then (fQ x xs 0).map fun (q:Nat)=>D.int (q:Int) else none:=rfl
theorem Fv:meD .sindex (.str x) [.str y]=match RX x y 0 x.length 1 with
 | i :: _=>some (.int (i:Int))
 | []=>none:=rfl
noncomputable def meW (m:Me) (o:W) (as:List W) (h:HH):Option (W×HH):=match m,o,as with
 | .append,.r n,[.p d]=>match lat h n with
  | some xs=>if xs.length < lim then some (.p .non,h.set n (.l (xs++[d]))) else none
  | none=>none
 | .pop,.r n,[]=>match lat h n with
  | some xs=>match xs.getLast? with
   | some d=>some (.p d,h.set n (.l xs.dropLast))
   | none=>none
  | none=>none
 | .extend,.r n,[w]=>match lat h n,(rd w h).bind nV with
  | some xs,some ys=>if xs.length+ys.length<=lim then some (.p .non,h.set n (.l (xs++ys))) else none
  | _,_=>none
 | .dget,.k (.t kvs),[.p (.str x)]=>some (.p ((cM x kvs).getD .non),h)
 | .dget,.k (.t _),[.p .non]=>some (.p .non,h)
 | .dget,.k (.t kvs),[.p (.str x),.p d]=>some (.p ((cM x kvs).getD d),h)
 | m,.p d,as=>match aK as with
  | some ds=>(meD m d ds).map fun x=>(.p x,h)
  | none=>none
 | _,_,_=>none
section
variable (n:Nat) (d:D) (h:HH) (kvs:List (Str×D)) (x:Str) (as:List W)
@[simp] theorem rQ:meW .append (.r n) [.p d] h=match lat h n with
 | some xs=>if xs.length < lim then some (.p .non,h.set n (.l (xs++[d]))) else none
 | none=>none:=rfl
@[simp] theorem BH:meW .pop (.r n) [] h=match lat h n with
 | some xs=>match xs.getLast? with
  | some d=>some (.p d,h.set n (.l xs.dropLast))
  | none=>none
 | none=>none:=rfl
@[simp] theorem rR (w:W):meW .extend (.r n) [w] h=match lat h n,(rd w h).bind nV with
 | some xs,some ys=>if xs.length+ys.length<=lim then some (.p .non,h.set n (.l (xs++ys))) else none
 | _,_=>none:=rfl
@[simp] theorem Jx:meW .dget (.k (.t kvs)) [.p (.str x)] h=some (.p ((cM x kvs).getD .non),h):=rfl
@[simp] theorem Fw:meW .dget (.k (.t kvs)) [.p .non] h=some (.p .non,h):=rfl
@[simp] theorem Ij:meW .dget (.k (.t kvs)) [.p (.str x),.p d] h=some (.p ((cM x kvs).getD d),h):=rfl
@[simp] theorem kX:meW .tindex (.p d) as h=match aK as with
 | some ds=>(meD .tindex d ds).map fun x=>(.p x,h)
 | none=>none:=rfl
@[simp] theorem vG:meW .count (.p d) as h=match aK as with
 | some ds=>(meD .count d ds).map fun x=>(.p x,h)
 | none=>none:=rfl
@[simp] theorem rS:meW .lindex (.p d) as h=match aK as with
 | some ds=>(meD .lindex d ds).map fun x=>(.p x,h)
 | none=>none:=rfl
@[simp] theorem kY:meW .sindex (.p d) as h=match aK as with
 | some ds=>(meD .sindex d ds).map fun x=>(.p x,h)
 | none=>none:=rfl
end
noncomputable def new (mu:Bool) (xs:List D) (h:HH):W×HH:=if mu then (.r h.length,h++[.l xs]) else (.p (.lst xs),h)
@[simp] theorem Oq (xs:List D) (h:HH):new false xs h=(.p (.lst xs),h):=rfl
@[simp] theorem Os (xs:List D) (h:HH):new true xs h=(.r h.length,h++[.l xs]):=rfl
@[simp] noncomputable def rds (ws:List W) (h:HH):Option (List D):=match ws with
 | []=>some []
 | w :: r=>(rd w h).bind fun d=>(rds r h).map (d :: ·)
noncomputable def ON:D->Option (List D)
 | .lst xs=>some xs
 | _=>none
noncomputable def unpack (n:Nat):D->Option (List D)
 | .tup xs=>if xs.length=n then some xs else none
 | _=>none
noncomputable def target (n:Nat) (d:D):Option (List D):=if n=1 then some [d] else unpack n d
section
variable (i j k a b:Int) (c:Bool) (x y:Str) (xs ys:List D) (kvs:List (Str×D)) (d e:D) (lo hi:Option Int)
@[simp] theorem fq:jB .add (.int i) (.int j)=some (.int (i+j)):=rfl
@[simp] theorem cN:jB .add (.str x) (.str y)=if x.length+y.length<=lim then some (.str (x++y)) else none:=rfl
@[simp] theorem cO:jB .add (.tup xs) (.tup ys)=if xs.length+ys.length<=lim then some (.tup (xs++ys)) else none:=rfl
@[simp] theorem cQ:jB .add (.lst xs) (.lst ys)=if xs.length+ys.length<=lim then some (.lst (xs++ys)) else none:=rfl
@[simp] theorem fu:jB .sub (.int i) (.int j)=some (.int (i - j)):=rfl
@[simp] theorem fy:jB .mul (.int i) (.int j)=if big i||big j then some (.int (i*j)) else none:=rfl
@[simp] theorem cR:jB .mul (.tup xs) (.int k)=if 2<=k&&k<=1000&&!xs.isEmpty&&xs.length*k.toNat<=lim then some (.tup (rep k.toNat xs)) else none:=rfl
@[simp] theorem cS:jB .mul (.lst xs) (.int k)=if -1000<=k&&k<=1000&&xs.length*k.toNat<=lim then some (.lst (rep k.toNat xs)) else none:=rfl
@[simp] theorem fB:jB .mod (.int i) (.int j)=if 0 < j then some (.int (i % j)) else none:=rfl
@[simp] theorem dO:jB .fdiv (.int i) (.int j)=if 0 < j&&j < 1073741824 then some (.int (i / j)) else none:=rfl
@[simp] theorem fC:jB .pow (.int i) (.int j)=if 0<=j&&j<=100&&big i then some (.int (i ^ j.toNat)) else none:=rfl
@[simp] theorem rT:aX (.tup xs) (.int i)=atP xs i:=rfl
@[simp] theorem bT:aX (.lst xs) (.int i)=atP xs i:=rfl
@[simp] theorem gy:aX (.str x) (.int i)=if x.length<=lim then (atP x.cps.toList i).map fun c=>.str ⟨#[c]⟩ else none:=rfl
@[simp] theorem ya:rP (.tup xs) lo hi=some (.tup (cut xs lo hi)):=rfl
@[simp] theorem Na:rP (.lst xs) lo hi=some (.lst (cut xs lo hi)):=rfl
@[simp] theorem nW:d8 .eq d e=if aU d e then some (eqv d e) else none:=rfl
@[simp] theorem nX:d8 .ne d e=if aU d e then some (!eqv d e) else none:=rfl
@[simp] theorem ef:d8 .lt (.int i) (.int j)=some (decide (i < j)):=rfl
@[simp] theorem eg:d8 .le (.int i) (.int j)=some (decide (i<=j)):=rfl
@[simp] theorem eB:d8 .gt (.int i) (.int j)=some (decide (j < i)):=rfl
@[simp] theorem eH:d8 .ge (.int i) (.int j)=some (decide (j<=i)):=rfl
@[simp] theorem c6:d8 .isN d .non=some (gw d):=rfl
@[simp] theorem cC:d8 .notN d .non=some (!gw d):=rfl
@[simp] theorem vH {b:Bool}:d8 .notN d (.bl b)=some (!nT b d):=rfl
@[simp] theorem bx:d8 .mem d (.tup ys)=if ys.all fun y=>aU y d then some (ys.any fun y=>eqv y d) else none:=rfl
@[simp] theorem bJ:d8 .mem d (.lst ys)=if ys.all fun y=>aU y d then some (ys.any fun y=>eqv y d) else none:=rfl
@[simp] theorem bq:d8 .nmem d (.tup ys)=if ys.all fun y=>aU y d then some (!ys.any fun y=>eqv y d) else none:=rfl
@[simp] theorem br:d8 .nmem d (.lst ys)=if ys.all fun y=>aU y d then some (!ys.any fun y=>eqv y d) else none:=rfl
@[simp] theorem jD:biD .len [.tup xs]=some (.int xs.length):=rfl
@[simp] theorem mX:biD .len [.lst xs]=some (.int xs.length):=rfl
@[simp] theorem vI:biD .len [.str x]=if x.length<=lim then some (.int x.length) else none:=rfl
@[simp] theorem L3:biD .abs [.int i]=some (.int (if i < 0 then -i else i)):=rfl
@[simp] theorem L4:biD .int [.int i]=some (.int i):=rfl
@[simp] theorem Ik:biD .int [.bl c]=some (.int (if c then 1 else 0)):=rfl
@[simp] theorem L5:biD .str [.int i]=if big i then some (.str (toString i)) else none:=rfl
@[simp] theorem Eb:biD .tuple [.lst xs]=some (.tup xs):=rfl
@[simp] theorem Ec:biD .tuple [.tup xs]=some (.tup xs):=rfl
theorem pZ {d:Int}:biD .maxd [.lst xs,.int d]=(intsOf xs).map fun ns=>.int ((nU ns).getD d):=rfl
theorem mY {a b c:Int}:biD .lrng3 [.int a,.int b,.int c]=if 0 < c&&c<=100000&&-100000<=a&&a<=100000&&-100000<=b&&b<=100000 then some (.lst ((stepI a c (gx a b c)).map .int)) else none:=rfl
theorem foldl_max (l:List Int):∀ n:Int,(l.foldl max n=n\/l.foldl max n∈l)/\n<=l.foldl max n/\∀ a∈l,a<=l.foldl max n:=by
 induction l with
 | nil=>intro n;exact ⟨.inl rfl,Int.le_refl _,fun a h=>nomatch h⟩
 | cons x l ih =>
  intro n
  obtain ⟨h1,h2,h3⟩:=ih (max n x)
  rw[List.foldl_cons]
  refine ⟨?_,by lia,fun a ha=>?_⟩
  ·rcases h1 with h | h
   ·rw[h]
    rcases Int.le_total n x with q | q
    ·exact .inr (by rw[show max n x=x by lia];exact Pq)
    ·exact .inl (by lia)
   ·exact .inr (Pc _ h)
  ·rcases List.mem_cons.mp ha with rfl | ha
   ·lia
   ·exact h3 a ha
theorem mZ (h:nU ns=some M):M∈ns/\∀ a∈ns,a<=M:=by
 cases ns with
 | nil=>cases h
 | cons n l =>
  cases h
  obtain ⟨h1,h2,h3⟩:=foldl_max l n
  refine ⟨?_,fun a ha=>?_⟩
  ·rcases h1 with q | q
   ·rw[q];exact Pq
   ·exact Pc _ q
  ·rcases List.mem_cons.mp ha with rfl | ha
   ·exact h2
   ·exact h3 a ha
@[simp] theorem Fx:biD .list [.lst xs]=some (.lst xs):=rfl
@[simp] theorem Fy:biD .list [.tup xs]=some (.lst xs):=rfl
@[simp] theorem L6:biD .all [.lst xs]=(allB xs).map .bl:=rfl
@[simp] theorem L7:biD .any [.lst xs]=(anyB xs).map .bl:=rfl
@[simp] theorem Il:biD .isInt [d]=some (.bl (isI d)):=rfl
@[simp] theorem Fz:biD .isBool [d]=some (.bl (isB d)):=rfl
@[simp] theorem Im:biD .isStr [d]=some (.bl (isS d)):=rfl
@[simp] theorem Ed:biD .isTuple [d]=some (.bl (isT d)):=rfl
@[simp] theorem FA:biD .isList [d]=some (.bl (isL d)):=rfl
@[simp] theorem L8:biD .min2 [.int i,.int j]=some (.int (if j < i then j else i)):=rfl
@[simp] theorem Ma:biD .max2 [.int i,.int j]=some (.int (if j > i then j else i)):=rfl
@[simp] theorem Nb:nV (.tup xs)=some xs:=rfl
@[simp] theorem Nc:nV (.lst xs)=some xs:=rfl
@[simp] theorem yb:dQ .seq [d]=nV d:=rfl
@[simp] theorem cD:dQ .rng1 [.int a]=if -100000<=a&&a<=100000 then some (upto 0 a.toNat) else none:=rfl
@[simp] theorem m6:dQ .rng2 [.int a,.int b]=if -100000<=a&&a<=100000&&-100000<=b&&b<=100000 then some (upto a (b - a).toNat) else none:=rfl
@[simp] theorem Jy:dQ .rev [.lst xs]=some xs.reverse:=rfl
@[simp] theorem Jz:dQ .enu [.lst xs]=some (jC 0 xs):=rfl
@[simp] theorem JA:dQ .zip2 [.lst xs,.lst ys]=some (BE xs ys):=rfl
@[simp] theorem FD:meD .tindex (.tup xs) [d]=if xs.all fun y=>aU y d then (fQ d xs 0).map fun (q:Nat)=>D.int (q:Int) else none:=rfl
@[simp] theorem yc (n:Nat):unpack n (.tup xs)=if xs.length=n then some xs else none:=rfl
end
@[simp] theorem gA (d:D):target 1 d=some [d]:=rfl
@[simp] theorem JB (d:D):target 2 d=unpack 2 d:=rfl
noncomputable def tZ (o:Option D) (out:List D) (h:HH):Option (List D×HH):=some (match o with | some x=>x :: out | none=>out,h)
noncomputable def BI (r:HH->Option (List D×HH)) (o:Option D) (h:HH):Option (List D×HH):=bnd (r h) (tZ o)
@[simp] theorem JC (o:Option D) (out:List D) (h:HH):tZ o out h=some (match o with | some x=>x :: out | none=>out,h):=rfl
@[simp] theorem BJ (r:HH->Option (List D×HH)) (o:Option D) (h:HH):BI r o h=bnd (r h) (tZ o):=rfl
noncomputable def aV (f:List D->HH->Option (Option D×HH)) (n:Nat):List D->HH->Option (List D×HH)
 | [],h=>some ([],h)
 | d :: r,h=>match target n d with
  | some ds=>bnd (f ds h) (BI (aV f n r))
  | none=>none
noncomputable def dz (d:D):Option W:=some (.p d)
noncomputable abbrev EH:=HH->Option (W×HH)
noncomputable abbrev OpW:=W->W->HH->Option (W×HH)
@[simp] noncomputable def k2 (eb:EH) (op:OpW) (x:W) (h:HH):Option (W×HH):=bnd (eb h) (op x)
@[simp] noncomputable def mw (o:Bin) (x y:W) (h:HH):Option (W×HH):=match rd x h,rd y h with
 | some d,some e=>(jB o d e).map fun z=>(.p z,h)
 | _,_=>none
noncomputable def inT (o:Cm) (x:W) (kvs:List (Str×D)):Option Bool:=match o,x with
 | .mem,.p (.str s)=>some (cM s kvs).isSome
 | .nmem,.p (.str s)=>some (!(cM s kvs).isSome)
 | _,_=>none
noncomputable def inL (o:Cm) (x:W) (kvs:List (Ky×D)):Option Bool:=match o,x with
 | .mem,.p d=>(j6 d).map fun k=>(c5 kvs k).isSome
 | _,_=>none
noncomputable def inK (o:Cm) (x:W) (q:Kd):Option Bool:=match q with
 | .t kvs=>inT o x kvs
 | .l kvs=>inL o x kvs
noncomputable def memC:Cm->Bool
 | .mem=>true
 | .nmem=>true
 | _=>false
theorem gB {o:Cm}{x:W}{q:Kd}{b:Bool} (h:memC o=false):¬ inK o x q=some b:=by
 intro e
 cases o<;>first | (cases h;done) | (cases q<;>cases x<;>cases e)
@[simp] noncomputable def gn (o:Cm) (x y:W) (h:HH):Option (W×HH):=match y with
 | .k kvs=>(inK o x kvs).map fun z=>(.p (.bl z),h)
 | y=>match rd x h,rd y h with
  | some d,some e=>(d8 o d e).map fun z=>(.p (.bl z),h)
  | _,_=>none
noncomputable def atT (kvs:List (Str×D)) (y:W):Option D:=match y with
 | .p (.str s)=>cM s kvs
 | _=>none
noncomputable def atL (kvs:List (Ky×D)) (y:W):Option D:=match y with
 | .p d=>(j6 d).bind (c5 kvs)
 | _=>none
noncomputable def atK (q:Kd) (y:W):Option D:=match q with
 | .t kvs=>atT kvs y
 | .l kvs=>atL kvs y
@[simp] theorem Ot (kvs:List (Str×D)) (x:Str):atK (.t kvs) (.p (.str x))=cM x kvs:=rfl
@[simp] theorem Ou (kvs:List (Ky×D)) (i:Int):atK (.l kvs) (.p (.int i))=c5 kvs (.inl i):=rfl
@[simp] theorem Ow (kvs:List (Str×D)) (x:Str):inK .mem (.p (.str x)) (.t kvs)=some (cM x kvs).isSome:=rfl
@[simp] theorem Ox (kvs:List (Str×D)) (x:Str):inK .nmem (.p (.str x)) (.t kvs)=some (!(cM x kvs).isSome):=rfl
@[simp] theorem Oz (kvs:List (Ky×D)) (i:Int):inK .mem (.p (.int i)) (.l kvs)=some (c5 kvs (.inl i)).isSome:=rfl
@[simp] noncomputable def BK (x y:W) (h:HH):Option (W×HH):=match x with
 | .k kvs=>(atK kvs y).map fun z=>(.p z,h)
 | x=>match rd x h,rd y h with
  | some d,some e=>(aX d e).map fun z=>(.p z,h)
  | _,_=>none
@[simp] noncomputable def BN (x:W) (h:HH):Option (W×HH):=match x with | .p (.int i)=>some (.p (.int (-i)),h) | _=>none
@[simp] noncomputable def BO (x:W) (h:HH):Option (W×HH):=match x with | .p (.bl b)=>some (.p (.bl (!b)),h) | _=>none
@[simp] noncomputable def BP (eb:EH) (x:W) (h:HH):Option (W×HH):=match x with | .p (.bl c)=>if c then eb h else some (.p (.bl false),h) | _=>none
@[simp] noncomputable def kOr (eb:EH) (x:W) (h:HH):Option (W×HH):=match x with | .p (.bl c)=>if c then some (.p (.bl true),h) else eb h | _=>none
@[simp] noncomputable def BQ (ea eb:EH) (x:W) (h:HH):Option (W×HH):=match x with | .p (.bl c)=>if c then ea h else eb h | _=>none
@[simp] noncomputable def JD (o':Cm) (e:D) (z:W) (h:HH):Option (W×HH):=match rd z h with
 | some f=>(d8 o' e f).map fun r=>(.p (.bl r),h)
 | none=>none
@[simp] noncomputable def oCh (o o':Cm) (ec:EH) (x y:W) (h:HH):Option (W×HH):=match rd x h,y with
 | some d,.p e=>match d8 o d e with
  | some true=>bnd (ec h) (JD o' e)
  | some false=>some (.p (.bl false),h)
  | none=>none
 | _,_=>none
@[simp] noncomputable def FE (ws:List W) (h:HH):Option (W×HH):=match aK ws with | some ds=>if ds.length<=lim then some (.p (.tup ds),h) else none | none=>none
@[simp] noncomputable def FF (mu:Bool) (ws:List W) (h:HH):Option (W×HH):=match aK ws with | some ds=>if ds.length<=lim then some (new mu ds h) else none | none=>none
@[simp] noncomputable def JE (x:W) (l u:List W) (h:HH):Option (W×HH):=match rd x h,(aK l).bind nR,(aK u).bind nR with
 | some d,some l',some u'=>(rP d l' u').map fun z=>(.p z,h)
 | _,_,_=>none
@[simp] noncomputable def JF (eu:HH->Option (List W×HH)) (x:W) (l:List W) (h:HH):Option (W×HH):=bnd (eu h) (JE x l)
@[simp] noncomputable def JG (el eu:HH->Option (List W×HH)) (x:W) (h:HH):Option (W×HH):=bnd (el h) (JF eu x)
@[simp] noncomputable def OO (x:W) (h:HH):Option (W×HH):=match rd x h with
 | some (.tup xs)=>some (.p (.tup xs.reverse),h)
 | some (.lst xs)=>some (.p (.lst xs.reverse),h)
 | _=>none
noncomputable def qa (k:Int) (xs:List D):List D:=(Ti (PM none none (some k) xs.length).1 (PM none none (some k) xs.length).2.1 (PM none none (some k) xs.length).2.2).filterMap fun i=>xs[i]?
@[simp] noncomputable def FG (mu:Bool) (k:Int) (x:W) (h:HH):Option (W×HH):=match rd x h with
 | some (.lst xs)=>some (new mu (qa k xs) h)
 | _=>none
@[simp] noncomputable def kBi (b:Bi) (mu:Bool) (ws:List W) (h:HH):Option (W×HH):=match rds ws h with
 | some ds=>match biD b ds with
  | some d=>if mu then (match d with | .lst xs=>some (new true xs h) | _=>none) else some (.p d,h)
  | none=>none
 | none=>none
noncomputable def mz (x:W) (h:HH):Bool:=match x with
 | .r n=>(lat h n).isSome
 | .k (.l _)=>false
 | _=>true
@[simp] theorem Nd (n:Nat) (h:HH):mz (.r n) h=(lat h n).isSome:=rfl
@[simp] theorem Nf (d:D) (h:HH):mz (.p d) h=true:=rfl
@[simp] theorem Ng (d:List (Str×D)) (h:HH):mz (.k (.t d)) h=true:=rfl
@[simp] noncomputable def kMe (m:Me) (ea:HH->Option (List W×HH)) (x:W) (h:HH):Option (W×HH):=if mz x h then bnd (ea h) (meW m x) else none
@[simp] noncomputable def kLs (mu:Bool) (sr:Sr) (ws:List W) (h:HH):Option (W×HH):=match (rds ws h).bind (dQ sr) with
 | some ds=>if ds.length<=lim then some (new mu ds h) else none
 | none=>none
@[simp] noncomputable def mC (w:W) (h:HH):Option (Option D×HH):=match w with | .p d=>some (some d,h) | _=>none
noncomputable def ua (ee:EH) (cs:List W) (h:HH):Option (Option D×HH):=match cs with
 | []=>bnd (ee h) mC
 | [.p (.bl true)]=>bnd (ee h) mC
 | [.p (.bl false)]=>some (none,h)
 | _=>none
@[simp] theorem Mb (ee:EH) (h:HH):ua ee [] h=bnd (ee h) mC:=rfl
@[simp] theorem Mc (ee:EH) (h:HH):ua ee [.p (.bl true)] h=bnd (ee h) mC:=rfl
@[simp] theorem Mf (ee:EH) (h:HH):ua ee [.p (.bl false)] h=some (none,h):=rfl
@[simp] noncomputable def dF (ec:Sl->HH->Option (List W×HH)) (ee:Sl->EH) (fs:Sl) (xs:List D) (h:HH):Option (Option D×HH) :=
 bnd (ec (xs.map dz++fs) h) (ua (ee (xs.map dz++fs)))
@[simp] noncomputable def fD (mu:Bool) (out:List D) (h:HH):Option (W×HH):=if out.length<=lim then some (new mu out h) else none
noncomputable def aN (f:Str):List (Str×W)->Option W
 | []=>none
 | (x,w) :: r=>if f=x then some w else aN f r
noncomputable def aY (f:Str) (w:W):List (Str×W)->List (Str×W)
 | []=>[(f,w)]
 | (x,u) :: r=>if f=x then (f,w) :: r else (x,u) :: aY f w r
@[simp] theorem JH (f:Str):aN f []=none:=rfl
@[simp] theorem m7 (f x:Str) (w:W) (r:List (Str×W)):aN f ((x,w) :: r)=if f=x then some w else aN f r:=rfl
@[simp] theorem JI (f:Str) (w:W):aY f w []=[(f,w)]:=rfl
@[simp] theorem vJ (f x:Str) (w u:W) (r:List (Str×W)):aY f w ((x,u) :: r)=if f=x then (f,w) :: r else (x,u) :: aY f w r:=rfl
noncomputable def attrOk:W->Bool
 | .p _=>true
 | .r _=>true
 | .k _=>false
 | .o _=>true
 | .c _ _=>false
 | .x _=>false
@[simp] theorem JJ (d:D):attrOk (.p d)=true:=rfl
@[simp] theorem JK (n:Nat):attrOk (.r n)=true:=rfl
@[simp] theorem JL (n:Nat):attrOk (.o n)=true:=rfl
noncomputable def BU (f:Str) (x:W) (h:HH):Option (W×HH):=match x with
 | .o n=>match oat h n with
  | some (_,fs)=>(aN f fs).map fun w=>(w,h)
  | none=>none
 | _=>none
@[simp] theorem FH (f:Str) (n:Nat) (h:HH):BU f (.o n) h=match oat h n with
 | some (_,fs)=>(aN f fs).map fun w=>(w,h)
 | none=>none:=rfl
noncomputable def rV (F:FK->List W->HH->Option (W×HH)) (q:FK) (n:Nat) (ws:List W) (h:HH):Option (W×HH):=F q (.o n :: ws) h
@[simp] theorem Io (F:FK->List W->HH->Option (W×HH)) (q:FK) (n:Nat) (ws:List W) (h:HH):rV F q n ws h=F q (.o n :: ws) h:=rfl
noncomputable def yd (F:FK->List W->HH->Option (W×HH)) (m:Str) (ea:HH->Option (List W×HH)) (x:W) (h:HH):Option (W×HH):=match x with
 | .o n=>match oat h n with
  | some (c,fs)=>if (aN m fs).isNone then bnd (ea h) (rV F (.m c m) n) else none
  | none=>none
 | _=>none
@[simp] theorem BV (F:FK->List W->HH->Option (W×HH)) (m:Str) (ea:HH->Option (List W×HH)) (n:Nat) (h:HH):yd F m ea (.o n) h=match oat h n with
 | some (c,fs)=>if (aN m fs).isNone then bnd (ea h) (rV F (.m c m) n) else none
 | none=>none:=rfl
noncomputable def uc (n:Nat) (x:W) (h:HH):Option (W×HH):=match x with
 | .p .non=>some (.o n,h)
 | _=>none
@[simp] theorem Mg (n:Nat) (h:HH):uc n (.p .non) h=some (.o n,h):=rfl
noncomputable def Ef (F:FK->List W->HH->Option (W×HH)) (c:Str) (ws:List W) (h:HH):Option (W×HH):=bnd (F (.m c "__init__") (.o h.length :: ws) (h++[.o c []])) (uc h.length)
@[simp] theorem ye (F:FK->List W->HH->Option (W×HH)) (c:Str) (ws:List W) (h:HH):Ef F c ws h=bnd (F (.m c "__init__") (.o h.length :: ws) (h++[.o c []])) (uc h.length):=rfl
noncomputable def c7:List W->Bool
 | []=>true
 | .p _ :: r=>c7 r
 | _=>false
open Classical in
noncomputable def chk (q:Nat) (ds:List D) (f:List D->HH->Option (Option D×HH)) (xs:List D) (h:HH):Option (Option D×HH):=match f xs h with
 | some (o,h')=>if lat h' q=some ds then some (o,h') else none
 | none=>none
noncomputable def rW (mu:Bool) (sr:Sr) (n:Nat) (f:List D->HH->Option (Option D×HH)) (ws:List W) (ds:List D) (h:HH):Option (W×HH):=match ws,sr with
 | [.r q],.seq=>bnd (aV (chk q ds f) n ds h) (fD mu)
 | _,_=>none
theorem yf (mu:Bool) (n:Nat) (f:List D->HH->Option (Option D×HH)) (q:Nat) (ds:List D) (h:HH):rW mu .seq n f [.r q] ds h=bnd (aV (chk q ds f) n ds h) (fD mu):=rfl
@[simp] noncomputable def m8 (mu:Bool) (sr:Sr) (n:Nat) (fs:Option Sl) (ec:Sl->HH->Option (List W×HH)) (ee:Sl->EH) (ws:List W) (h:HH):Option (W×HH) :=
 match (rds ws h).bind (dQ sr),fs with
 | some ds,some fs=>if c7 ws then bnd (aV (dF ec ee fs) n ds h) (fD mu) else rW mu sr n (dF ec ee fs) ws ds h
 | _,_=>none
@[simp] noncomputable def iJ (w:W) (ws:List W) (h:HH):Option (List W×HH):=some (w :: ws,h)
@[simp] noncomputable def jR (er:HH->Option (List W×HH)) (w:W) (h:HH):Option (List W×HH):=bnd (er h) (iJ w)
@[simp] noncomputable def frees (s:Sl):List (Nat×Str)->Option Sl
 | []=>some []
 | q :: r=>match s[q.1]? with
  | some w=>(frees s r).map (w :: ·)
  | none=>none
noncomputable def caps (s:Sl):List (Nat×Str)->Option (List Cp)
 | []=>some []
 | q :: r=>match s[q.1]? with
  | some (some w)=>(pW w).bind fun x=>(caps s r).map (x :: ·)
  | _=>none
@[simp] theorem JM (s:Sl):caps s []=some []:=rfl
@[simp] theorem vK (s:Sl) (q:Nat×Str) (r:List (Nat×Str)):caps s (q :: r)=match s[q.1]? with
 | some (some w)=>(pW w).bind fun x=>(caps s r).map (x :: ·)
 | _=>none:=rfl
noncomputable def noC:List W->Bool
 | []=>true
 | .p _ :: r=>noC r
 | .r _ :: r=>noC r
 | .k _ :: _=>false
 | .o _ :: r=>noC r
 | .c _ _ :: _=>false
 | .x _ :: _=>false
@[simp] theorem Mh:noC []=true:=rfl
@[simp] theorem OA (d:D) (r:List W):noC (.p d :: r)=noC r:=rfl
@[simp] theorem OB (d:Nat) (r:List W):noC (.r d :: r)=noC r:=rfl
@[simp] theorem OD (d:Nat) (r:List W):noC (.o d :: r)=noC r:=rfl
noncomputable def nY (F:FK->List W->HH->Option (W×HH)) (o:Option (Option W)) (ws:List W) (h:HH):Option (W×HH):=match o with
 | some (some (.c k cs))=>if noC ws then F k (ws++cs.map Cp.w) h else none
 | _=>none
@[simp] theorem JN (F:FK->List W->HH->Option (W×HH)) (k:FK) (cs:List Cp) (ws:List W) (h:HH):nY F (some (some (.c k cs))) ws h=if noC ws then F k (ws++cs.map Cp.w) h else none:=rfl
noncomputable def yh (w:W) (h:HH):Option (W×HH):=match w with
 | .c _ _=>none
 | .x _=>none
 | .k _=>none
 | w=>some (w,h)
@[simp] theorem Nh (d:D) (h:HH):yh (.p d) h=some (.p d,h):=rfl
@[simp] theorem Ni (n:Nat) (h:HH):yh (.r n) h=some (.r n,h):=rfl
@[simp] theorem Nj (n:Nat) (h:HH):yh (.o n) h=some (.o n,h):=rfl
noncomputable def nZ (F:FK->List W->HH->Option (W×HH)) (q:FK) (n:Nat) (L:Nat) (cs:Option (List Cp)) (ws:List W) (h:HH):Option (W×HH):=match cs with
 | some cs=>bnd (F q (.o n :: (ws++[.c (.l L) cs])) h) yh
 | none=>none
@[simp] theorem vL (F:FK->List W->HH->Option (W×HH)) (q:FK) (n:Nat) (L:Nat) (cs:List Cp) (ws:List W) (h:HH):nZ F q n L (some cs) ws h=bnd (F q (.o n :: (ws++[.c (.l L) cs])) h) yh:=rfl
noncomputable def rX (F:FK->List W->HH->Option (W×HH)) (m:Str) (ea:HH->Option (List W×HH)) (L:Nat) (cs:Option (List Cp)) (x:W) (h:HH):Option (W×HH):=match x with
 | .o n=>match oat h n with
  | some (c,fs)=>if (aN m fs).isNone then bnd (ea h) (nZ F (.m c m) n L cs) else none
  | none=>none
 | _=>none
@[simp] theorem yi (F:FK->List W->HH->Option (W×HH)) (m:Str) (ea:HH->Option (List W×HH)) (L:Nat) (cs:Option (List Cp)) (n:Nat) (h:HH):rX F m ea L cs (.o n) h=match oat h n with
 | some (c,fs)=>if (aN m fs).isNone then bnd (ea h) (nZ F (.m c m) n L cs) else none
 | none=>none:=rfl
noncomputable def Nk (n:Nat) (y z:W) (h:HH):Option (W×HH):=match y,z with
 | .p k,.p d=>(dat h n).bind fun kvs=>(j6 k).map fun q=>(.p ((c5 kvs q).getD d),h)
 | _,_=>none
noncomputable def Nl (ed:EH) (n:Nat) (y:W) (h:HH):Option (W×HH):=bnd (ed h) (Nk n y)
noncomputable def OP (ek ed:EH) (x:W) (h:HH):Option (W×HH):=match x with
 | .r n=>if (dat h n).isSome then bnd (ek h) (Nl ed n) else none
 | _=>none
noncomputable def qb (c cn:Str):Bool:=cn==c||cn=="TapeError"||cn=="ValueError"
noncomputable def JO (cn:Str) (x:W) (h:HH):Option (W×HH):=match x with
 | .x c=>some (.p (.bl (qb c cn)),h)
 | _=>none
@[simp] theorem Nn (cn c:Str) (h:HH):JO cn (.x c) h=some (.p (.bl (qb c cn)),h):=rfl
noncomputable def FI (x:W) (h:HH):Option (W×HH):=match x with
 | .r n=>(dat h n).bind fun kvs=>if kvs.length<=lim then some (.p (.lst (jA kvs)),h) else none
 | _=>none
@[simp] theorem FJ (n:Nat) (h:HH):FI (.r n) h=(dat h n).bind fun kvs=>if kvs.length<=lim then some (.p (.lst (jA kvs)),h) else none:=rfl
noncomputable def BW (x y:W) (h:HH):Option (W×HH):=match rd x h,rd y h with
 | some (.lst xs),some (.lst ys)=>if xs.length+ys.length<=lim then some (new true (xs++ys) h) else none
 | _,_=>none
@[simp] theorem Np (xs ys:List D) (h:HH):BW (.p (.lst xs)) (.p (.lst ys)) h=if xs.length+ys.length<=lim then some (new true (xs++ys) h) else none:=rfl
section
variable (F:FK->List W->HH->Option (W×HH)) (G:Str->Option W)
mutual
@[simp] noncomputable def ev:E->Sl->HH->Option (W×HH)
 | .var i,s,h=>match s[i]? with | some (some w)=>some (w,h) | _=>none
 | .cst d,_,h=>some (.p d,h)
 | .glo x,_,h=>(G x).map fun w=>(w,h)
 | .bin o a b,s,h=>bnd (ev a s h) (k2 (ev b s) (mw o))
 | .neg a,s,h=>bnd (ev a s h) BN
 | .not a,s,h=>bnd (ev a s h) BO
 | .and a b,s,h=>bnd (ev a s h) (BP (ev b s))
 | .or a b,s,h=>bnd (ev a s h) (kOr (ev b s))
 | .cmp o a b,s,h=>bnd (ev a s h) (k2 (ev b s) (gn o))
 | .chain o o' a b c,s,h=>bnd (ev a s h) (k2 (ev b s) (oCh o o' (ev c s)))
 | .ite c a b,s,h=>bnd (ev c s h) (BQ (ev a s) (ev b s))
 | .tup as,s,h=>bnd (evs as s h) FE
 | .lst mu as,s,h=>bnd (evs as s h) (FF mu)
 | .idx a i,s,h=>bnd (ev a s h) (k2 (ev i s) BK)
 | .slc a lo hi,s,h=>bnd (ev a s h) (JG (evs lo s) (evs hi s))
 | .stp mu k a,s,h=>bnd (ev a s h) (FG mu k)
 | .call f as,s,h=>bnd (evs as s h) (F (.f f))
 | .fld a f,s,h=>bnd (ev a s h) (BU f)
 | .meth o m as,s,h=>bnd (ev o s h) (yd F m (evs as s))
 | .make c as,s,h=>bnd (evs as s h) (Ef F c)
 | .bi b mu as,s,h=>bnd (evs as s h) (kBi b mu)
 | .lsr mu sr as,s,h=>bnd (evs as s h) (kLs mu sr)
 | .me m o as,s,h=>bnd (ev o s h) (kMe m (evs as s))
 | .comp mu sr sa tg fv cond elt,s,h=>bnd (evs sa s h) (m8 mu sr tg.length (frees s fv) (evs cond) (ev elt))
 | .callv i as,s,h=>bnd (evs as s h) (nY F s[i]?)
 | .methL o m as L fv,s,h=>bnd (ev o s h) (rX F m (evs as s) L (caps s fv))
 | .dnew,_,h=>some (.r h.length,h++[.d []])
 | .isx c a,s,h=>bnd (ev a s h) (JO c)
 | .dli o,s,h=>bnd (ev o s h) FI
 | .cat a b,s,h=>bnd (ev a s h) (k2 (ev b s) BW)
@[simp] noncomputable def evs:Es->Sl->HH->Option (List W×HH)
 | .nil,_,h=>some ([],h)
 | .cons a as,s,h=>bnd (ev a s h) (jR (evs as s))
end
inductive Fl where
 | nx (s:Sl) (h:HH) | rt (w:W) (h:HH) | bk (s:Sl) (h:HH) | ct (s:Sl) (h:HH)
noncomputable def JP (k:Bool->HH->Option Fl) (w:W) (h:HH):Option Fl:=match w with | .p (.bl b)=>k b h | _=>none
noncomputable def tst (x:Option (W×HH)) (k:Bool->HH->Option Fl):Option Fl:=bnd x (JP k)
@[simp] theorem iK (b:Bool) (h:HH) (k:Bool->HH->Option Fl):tst (some (.p (.bl b),h)) k=k b h:=rfl
noncomputable def jS (x:Option Fl) (k:Sl->HH->Option Fl):Option Fl:=match x with
 | some (.nx s h)=>k s h
 | y=>y
@[simp] theorem yj (s:Sl) (h:HH) (k:Sl->HH->Option Fl):jS (some (.nx s h)) k=k s h:=rfl
@[simp] theorem JQ (w:W) (h:HH) (k:Sl->HH->Option Fl):jS (some (.rt w h)) k=some (.rt w h):=rfl
@[simp] theorem JR (s:Sl) (h:HH) (k:Sl->HH->Option Fl):jS (some (.bk s h)) k=some (.bk s h):=rfl
@[simp] theorem JS (s:Sl) (h:HH) (k:Sl->HH->Option Fl):jS (some (.ct s h)) k=some (.ct s h):=rfl
@[simp] theorem FL (k:Sl->HH->Option Fl):jS none k=none:=rfl
noncomputable def i7 (x:Option Fl) (k:Sl->HH->Option Fl):Option Fl:=match x with
 | some (.nx s h)=>k s h
 | some (.ct s h)=>k s h
 | some (.bk s h)=>some (.nx s h)
 | y=>y
@[simp] theorem gC (s:Sl) (h:HH) (k:Sl->HH->Option Fl):i7 (some (.nx s h)) k=k s h:=rfl
@[simp] theorem JT (s:Sl) (h:HH) (k:Sl->HH->Option Fl):i7 (some (.ct s h)) k=k s h:=rfl
@[simp] theorem JU (s:Sl) (h:HH) (k:Sl->HH->Option Fl):i7 (some (.bk s h)) k=some (.nx s h):=rfl
@[simp] theorem JV (w:W) (h:HH) (k:Sl->HH->Option Fl):i7 (some (.rt w h)) k=some (.rt w h):=rfl
@[simp] theorem FM (k:Sl->HH->Option Fl):i7 none k=none:=rfl
@[simp] noncomputable def sets:List (Nat×Str)->List D->Sl->Sl
 | (i,_) :: r,d :: ds,s=>sets r ds (s.set i (some (.p d)))
 | _,_,s=>s
noncomputable def FN (b:Sl->HH->Option Fl) (again:Sl->HH->Option Fl) (s:Sl) (t:Bool) (h:HH):Option Fl:=if t then i7 (b s h) again else some (.nx s h)
@[simp] theorem kZ (b again:Sl->HH->Option Fl) (s:Sl) (h:HH):FN b again s true h=i7 (b s h) again:=rfl
@[simp] theorem n8 (b again:Sl->HH->Option Fl) (s:Sl) (h:HH):FN b again s false h=some (.nx s h):=rfl
noncomputable def cE (c:Sl->HH->Option (W×HH)) (b:Sl->HH->Option Fl):Nat->Sl->HH->Option Fl
 | 0,_,_=>none
 | n+1,s,h=>tst (c s h) (FN b (cE c b n) s)
@[simp] noncomputable def fE (b:Sl->HH->Option Fl) (tg:List (Nat×Str)):List D->Sl->HH->Option Fl
 | [],s,h=>some (.nx s h)
 | d :: r,s,h=>match target tg.length d with
  | some ds=>i7 (b (sets tg ds s) h) (fE b tg r)
  | none=>none
noncomputable def turns:Nat:=100000
@[simp] noncomputable def rY (s:Sl) (i:Nat) (w:W) (h:HH):Option Fl:=some (.nx (s.set i (some w)) h)
@[simp] noncomputable def OQ (s:Sl) (xs:List (Nat×Str)) (w:W) (h:HH):Option Fl:=match w with
 | .p d=>match unpack xs.length d with | some ds=>some (.nx (sets xs ds s) h) | none=>none
 | _=>none
@[simp] noncomputable def JW (s:Sl) (i:Nat) (o:Bin) (w:W) (h:HH):Option Fl:=match s[i]?,w with
 | some (some (.p d)),.p d'=>(kW o d d').map fun z=>.nx (s.set i (some (.p z))) h
 | _,_=>none
@[simp] noncomputable def Eg (s:Sl) (n:Nat) (d:D) (q:W) (h:HH):Option Fl:=match q,lat h n with
 | .p (.int j),some xs=>match place xs.length j with
  | some m=>some (.nx s (h.set n (.l (xs.set m d))))
  | none=>none
 | _,_=>none
@[simp] noncomputable def FO (ek:EH) (s:Sl) (i:Nat) (w:W) (h:HH):Option Fl:=match w,s[i]? with
 | .p d,some (some (.r n))=>bnd (ek h) (Eg s n d)
 | _,_=>none
noncomputable def rZ (s:Sl) (n:Nat) (d:D) (q:W) (h:HH):Option Fl:=match q with
 | .p k=>(dat h n).bind fun kvs=>(j6 k).bind fun y=>if kvs.length < lim then some (.nx s (h.set n (.d (tW kvs y d)))) else none
 | _=>none
@[simp] theorem yk (s:Sl) (n:Nat) (d k:D) (h:HH):rZ s n d (.p k) h=(dat h n).bind fun kvs=>(j6 k).bind fun y=>if kvs.length < lim then some (.nx s (h.set n (.d (tW kvs y d)))) else none:=rfl
noncomputable def ud (ek:EH) (s:Sl) (i:Nat) (w:W) (h:HH):Option Fl:=match w,s[i]? with
 | .p d,some (some (.r n))=>bnd (ek h) (rZ s n d)
 | _,_=>none
@[simp] theorem BY (ek:EH) (s:Sl) (i:Nat) (d:D) (h:HH):ud ek s i (.p d) h=match s[i]? with
 | some (some (.r n))=>bnd (ek h) (rZ s n d)
 | _=>none:=by
 unfold ud
 cases s[i]? with
 | none=>rfl
 | some o=>cases o with
  | none=>rfl
  | some w=>cases w<;>rfl
noncomputable def n9 (s:Sl) (f:Str) (v:W) (x:W) (h:HH):Option Fl:=match x with
 | .o n=>match oat h n with
  | some (c,fs)=>if attrOk v&&fs.length < 1000 then some (.nx s (h.set n (.o c (aY f v fs)))) else none
  | none=>none
 | _=>none
@[simp] theorem yl (s:Sl) (f:Str) (v:W) (n:Nat) (h:HH):n9 s f v (.o n) h=match oat h n with
 | some (c,fs)=>if attrOk v&&fs.length < 1000 then some (.nx s (h.set n (.o c (aY f v fs)))) else none
 | none=>none:=rfl
noncomputable def ym (eo:EH) (s:Sl) (f:Str) (v:W) (h:HH):Option Fl:=bnd (eo h) (n9 s f v)
@[simp] theorem yo (eo:EH) (s:Sl) (f:Str) (v:W) (h:HH):ym eo s f v h=bnd (eo h) (n9 s f v):=rfl
noncomputable def oh (s:Sl) (f:Str) (op:Bin) (n:Nat) (c:Str) (d:D) (v:W) (h:HH):Option Fl:=match v,oat h n with
 | .p e,some (c',fs)=>match kW op d e with
  | some z=>if c'=c/\fs.length < 1000 then some (.nx s (h.set n (.o c' (aY f (.p z) fs)))) else none
  | none=>none
 | _,_=>none
@[simp] theorem yp (s:Sl) (f:Str) (op:Bin) (n:Nat) (c:Str) (d e:D) (h:HH):oh s f op n c d (.p e) h=match oat h n with
 | some (c',fs)=>match kW op d e with
  | some z=>if c'=c/\fs.length < 1000 then some (.nx s (h.set n (.o c' (aY f (.p z) fs)))) else none
  | none=>none
 | none=>none:=by unfold oh;cases oat h n<;>rfl
noncomputable def ue (ee:EH) (s:Sl) (f:Str) (op:Bin) (x:W) (h:HH):Option Fl:=match x with
 | .o n=>match oat h n with
  | some (c,fs)=>match aN f fs with
   | some (.p d)=>bnd (ee h) (oh s f op n c d)
   | _=>none
  | none=>none
 | _=>none
@[simp] theorem BZ (ee:EH) (s:Sl) (f:Str) (op:Bin) (n:Nat) (h:HH):ue ee s f op (.o n) h=match oat h n with
 | some (c,fs)=>match aN f fs with
  | some (.p d)=>bnd (ee h) (oh s f op n c d)
  | _=>none
 | none=>none:=rfl
@[simp] noncomputable def kEx (s:Sl) (_:W) (h:HH):Option Fl:=some (.nx s h)
@[simp] noncomputable def yq (w:W) (h:HH):Option Fl:=some (.rt w h)
@[simp] noncomputable def kIf (fa fb:HH->Option Fl) (t:Bool) (h:HH):Option Fl:=if t then fa h else fb h
@[simp] noncomputable def kFor (b:Sl->HH->Option Fl) (tg:List (Nat×Str)) (sr:Sr) (s:Sl) (ws:List W) (h:HH):Option Fl:=match (rds ws h).bind (dQ sr) with
 | some ds=>if c7 ws then fE b tg ds s h else none
 | none=>none
@[simp] noncomputable def evS:S->Sl->HH->Option Fl
 | .nil,s,h=>some (.nx s h)
 | .seq a b,s,h=>jS (evS a s h) (evS b)
 | .set i e,s,h=>bnd (ev F G e s h) (rY s i)
 | .aug i o e,s,h=>bnd (ev F G e s h) (JW s i o)
 | .put i k e,s,h=>bnd (ev F G e s h) (FO (ev F G k s) s i)
 | .putd i k e,s,h=>bnd (ev F G e s h) (ud (ev F G k s) s i)
 | .setf o f e,s,h=>bnd (ev F G e s h) (ym (ev F G o s) s f)
 | .augf o f op e,s,h=>bnd (ev F G o s h) (ue (ev F G e s) s f op)
 | .ex e,s,h=>bnd (ev F G e s h) (kEx s)
 | .ret e,s,h=>bnd (ev F G e s h) yq
 | .ife c a b,s,h=>tst (ev F G c s h) (kIf (evS a s) (evS b s))
 | .whl c b,s,h=>cE (ev F G c) (evS b) turns s h
 | .for tg sr sa b,s,h=>bnd (evs F G sa s h) (kFor (evS b) tg sr s)
 | .brk,s,h=>some (.bk s h)
 | .cnt,s,h=>some (.ct s h)
 | .bad,_,_=>none
 | .rai _ _,_,_=>none
open Classical in
noncomputable def fin (h:HH) (w:W) (h':HH):Option (W×HH) :=
 if h'.length=h.length then some (w,h')
 else if h'.take h.length=h then (match w with
  | .p d=>some (.p d,h)
  | .r n=>if n < h.length then some (.r n,h) else (lat h' n).map fun xs=>(.p (.lst xs),h)
  | .o n=>if n < h.length then some (.o n,h) else some (.o n,h')
  | .k _=>none
  | .c _ _=>none
  | .x _=>none)
 else some (w,h')
@[simp] noncomputable def aL (n:Nat) (ws:List W):Sl:=ws.map some++Pi (n - ws.length) none
noncomputable def iy (x:Option Fl) (k:W->HH->Option (W×HH)):Option (W×HH):=match x with
 | some (.rt w h)=>k w h
 | some (.nx _ h)=>k (.p .non) h
 | _=>none
@[simp] theorem Mi (w:W) (h:HH) (k:W->HH->Option (W×HH)):iy (some (.rt w h)) k=k w h:=rfl
@[simp] theorem Mj (s:Sl) (h:HH) (k:W->HH->Option (W×HH)):iy (some (.nx s h)) k=k (.p .non) h:=rfl
@[simp] theorem Ip (k:W->HH->Option (W×HH)):iy none k=none:=rfl
end
section
variable (T:FK->Option Fn) (G:Str->Option W)
noncomputable def runN:Nat->FK->List W->HH->Option (W×HH)
 | 0,_,_,_=>none
 | k+1,f,ws,h=>match T f with
  | some fn=>if ws.length=fn.ps.length then iy (evS (runN k) G fn.body (aL fn.ns.length ws) h) (fin h) else none
  | none=>none
theorem run_eq {T:FK->Option Fn}{G:Str->Option W}{f:FK}{fn:Fn}{ws:List W}{h:HH}{k:Nat} (hT:T f=some fn) (hl:ws.length=fn.ps.length) :
 runN T G (k+1) f ws h=iy (evS (runN T G k) G fn.body (aL fn.ns.length ws) h) (fin h):=by
 rw[runN,hT];exact if_pos hl
end
noncomputable def Nq:Fn:=⟨["state","thing"],["state","thing"],.ret (.call "worth_in" (.cons (.var 0) (.cons (.var 1) .nil)))⟩
noncomputable def Nr:Fn:=⟨["state","thing","worth"],["state","thing","worth"],.ret (.cmp .ne (.call "worth_in" (.cons (.var 0) (.cons (.var 1) .nil))) (.var 2))⟩
noncomputable def Nt:Fn:=⟨["state","thing","worth"],["state","thing","worth"],.ret (.cmp .ne (.call "worth_in" (.cons (.var 0) (.cons (.var 1) .nil))) (.var 2))⟩
noncomputable def Nu:Fn:=⟨["state","term"],["state","term"],.ret (.call "reckoned" (.cons (.var 1) (.cons (.var 0) .nil)))⟩
noncomputable def Nv:Fn:=⟨["state","term"],["state","term"],.ret (.cmp .ne (.call "reckoned" (.cons (.var 1) (.cons (.var 0) .nil))) (.cst (.int 0)))⟩
noncomputable def Nx:Fn:=⟨["state","term"],["state","term"],.ret (.cmp .ne (.call "reckoned" (.cons (.var 1) (.cons (.var 0) .nil))) (.cst (.int 0)))⟩
noncomputable def Ny:Fn:=⟨["state"],["state"],.ret (.idx (.var 0) (.glo "ROW"))⟩
noncomputable def Nz:Fn:=⟨["state","row"],["state","row"],.ret (.cmp .eq (.idx (.var 0) (.glo "ROW")) (.var 1))⟩
noncomputable def NB:Fn:=⟨["state","number"],["state","number"],.ret (.cmp .gt (.bi .len false (.cons (.idx (.var 0) (.glo "SAID")) .nil)) (.var 1))⟩
noncomputable def NC:Fn:=⟨["state","bound"],["state","bound"],.ret (.cmp .le (.call "open_in" (.cons (.var 0) .nil)) (.var 1))⟩
noncomputable def JX:Fn:=⟨["state","bound"],["state","bound"],.ret (.cmp .le (.call "open_in" (.cons (.var 0) .nil)) (.var 1))⟩
noncomputable def JY:Fn:=⟨["state","wanted"],["state","wanted"],.ret (.and (.cmp .eq (.idx (.var 0) (.glo "NAMES")) (.idx (.var 1) (.glo "NAMES"))) (.cmp .eq (.idx (.var 0) (.glo "CELLS")) (.idx (.var 1) (.glo "CELLS"))))⟩
noncomputable def JZ:Fn:=⟨["state","tape","thing"],["state","tape","thing"],.ret (.cmp .eq (.call "written_next" (.cons (.var 1) (.cons (.var 0) .nil))) (.var 2))⟩
noncomputable def J0:Fn:=⟨[],[],.ret (.cst .non)⟩
noncomputable def J1:Fn:=⟨[],[],.ret (.cst .non)⟩
noncomputable def mD (i:Nat):Option Fn:=([Nq,Nr,Nt,Nu,Nv,Nx,Ny,Nz,NB,NC,JX,JY,JZ,J0,J1]:List Fn)[i]?
noncomputable def dG:List Str:=["worths_of","last_change","next_change","moments_so","last_so","next_so","visits","last_visit","when_said","next_within","last_within","first_other","writer_of","judged","remade"]
noncomputable def qc (i:Nat):Str:=dG.getD i ""
noncomputable def bU (x:Str):Str:="<"++x++">"
end BT
end
section
namespace BS
open PySem PySem.Spec PyProof.Rows L2
theorem ay {β:Type}{a:β}{P:Prop} (h:(none:Option β)=some a):P:=nomatch h
noncomputable def attrName (f:Str):Bool:=(["program","asked","gap","most","kept","farthest","front","now","origins","branches","tape","named"]:List Str).contains f
noncomputable def qd:BT.Bi->Option (String×(BT.D->Bool))
 | .isInt=>some ("int",BT.isI)
 | .isBool=>some ("bool",BT.isB)
 | .isStr=>some ("str",BT.isS)
 | .isTuple=>some ("tuple",BT.isT)
 | .isList=>some ("list",BT.isL)
 | _=>none
noncomputable def jT (sc:Qc) (x:Str):Bool:=match sc.names.lookup x with
 | some .local=>true
 | some .cell=>true
 | some .free=>true
 | _=>false
noncomputable def av (sc:Qc) (x:Str):Bool:=sc.names.lookup x==some .globalImplicit
noncomputable def aA (x:Str):Bool:=!(x=="__debug__")&&!(x=="__classdict__")&&!(x=="__name__")
noncomputable def noStar:O3->Bool
 | .Starred _ _=>false
 | _=>true
noncomputable def i8:O3->Bool
 | .Slice _ _ _ _=>false
 | _=>true
noncomputable def aB:O3->Bool
 | .Name _ _=>true
 | .Constant _ _ _=>true
 | .Subscript _ _ _=>true
 | .Attribute _ _ _=>true
 | .Call (.Attribute _ _ _) _ _ _=>true
 | _=>false
noncomputable def J2:BT.Bin->Tt
 | .add=>.Add
 | .sub=>.Sub
 | .mul=>.Mult
 | .mod=>.Mod
 | .fdiv=>.FloorDiv
 | .pow=>.Pow
noncomputable def Eh (o:BT.Bin) (op:Tt):Bool:=decide (op=J2 o)
noncomputable def ND:BT.Cm->CmpOp
 | .eq=>.Eq
 | .ne=>.NotEq
 | .lt=>.Lt
 | .le=>.LtE
 | .gt=>.Gt
 | .ge=>.GtE
 | .isN=>.Is
 | .notN=>.IsNot
 | .mem=>.In
 | .nmem=>.NotIn
noncomputable def B0 (o:BT.Cm) (op:CmpOp):Bool:=decide (op=ND o)
noncomputable def Ei:BT.D->Const->Bool
 | .non,.none=>true
 | .bl a,.bool b=>a==b
 | .int i,.int j=>i==j
 | .str x,.str y=>x==y&&PyData.strOk x
 | _,_=>false
noncomputable def yr:BT.Bi->Bool->Option Str
 | .len,false=>some "len"
 | .abs,false=>some "abs"
 | .int,false=>some "int"
 | .list,_=>some "list"
 | .tuple,false=>some "tuple"
 | _,_=>none
noncomputable def Ej (b:BT.Bi) (mu:Bool) (x:Str):Bool:=yr b mu==some x
noncomputable def yt:BT.Bi->Str->Bool
 | .min2,x=>x=="min"
 | .max2,x=>x=="max"
 | _,_=>false
noncomputable def B3:O3->Option Const
 | .Constant c _ _=>some c
 | _=>none
noncomputable def cInt:Const->Option Int
 | .int j=>some j
 | _=>none
noncomputable def unE:O3->Option O3
 | .UnaryOp o e _=>if o=.USub then some e else none
 | _=>none
noncomputable def oi (k:Int) (e:O3):Bool:=((B3 e).bind cInt==some k&&decide (0 < k))||(((unE e).bind B3).bind cInt==some (-k)&&decide (k < 0))
noncomputable def yu:BT.Me->Str
 | .append=>"append"
 | .pop=>"pop"
 | .extend=>"extend"
 | .tindex=>"index"
 | .sindex=>"index"
 | .dget=>"get"
 | .count=>"count"
 | .lindex=>"index"
noncomputable def r8:BT.E->Bool
 | .glo _=>true
 | _=>false
noncomputable def FP (m:BT.Me) (o:BT.E):Bool:=match m with
 | .append=>true
 | .pop=>true
 | .extend=>true
 | .sindex=>true
 | .tindex=>r8 o
 | .dget=>false
 | .count=>true
 | .lindex=>true
noncomputable def uf (c:Str):Bool:=(["NoMoment","NoThing","NoRun","NoText"]:List Str).contains c
noncomputable def yv (cn:Str):Bool:=uf cn||cn=="ValueError"
noncomputable def bB (N:List Str):Bool:=!N.contains "_law_flags"
noncomputable def tOK:BT.E->Bool
 | .ite _ _ _=>false
 | .not a=>tOK a
 | .and a b=>tOK a&&tOK b
 | .or a b=>tOK a&&tOK b
 | .tup _=>false
 | .lst _ _=>false
 | .comp _ _ _ _ _ _ _=>false
 | _=>true
noncomputable def iL:O3->Bool
 | .Set _ _ _=>false
 | _=>true
noncomputable def qe:BT.Sr->O3->Bool
 | .zip2,.Tuple _ _ _=>true
 | .enu,.Tuple _ _ _=>true
 | .zip2,_=>false
 | .enu,_=>false
 | _,_=>true
noncomputable def aW (scope sc:Qc):Qc :=
 { scope with names:=scope.names.map fun (n,k)=>if (k==.free&&sc.kind==.function&&sc.names.lookup n==some .cell) then (n,.cell) else (n,k) }
noncomputable def nmE:O3->Option Str
 | .Name y _=>some y
 | _=>none
noncomputable def FQ:O3->List O3
 | .Tuple xs _ _=>xs
 | _=>[]
noncomputable def qf (sc:Qc) (tg:List Str) (te:O3):Bool:=((tg.map some==[nmE te])||(tg.length==2&&tg.map some==(FQ te).map nmE))&&tg.all fun x=>sc.names.lookup x==some .local
noncomputable def iM:List Str->Bool
 | []=>true
 | x :: r=>!r.contains x&&iM r
noncomputable def iN (sc:Qc) (N:List Str) (tg:List Str) (fv:List (Nat×Str)) (scope:Qc):Bool :=
 scope.kind==.function&&sc.kind==.function&&scope.names.all (fun y=>!(y.2==.cell))&&scope.names.all (fun y=>!(y.2==.local)||scope.names.lookup y.1==some .local) &&
 scope.names.all (fun y=>!(y.2==.free)||sc.names.lookup y.1==some .cell) &&
 fv.all (fun q=>N[q.1]?==some q.2&&scope.names.contains (q.2,.free)&&sc.names.lookup q.2==some .cell&&(aW scope sc).names.lookup q.2==some .cell)&&iM (tg++fv.map (·.2))
inductive Tq where
 | e (a:BT.E) (x:O3) | es (as:BT.Es) (xs:List O3) | o (as:BT.Es) (x:Option O3) | c (as:BT.Es) (xs:List O3) | i (sr:BT.Sr) (sa:BT.Es) (x:O3)
set_option autoImplicit true in
class inductive CQ:Qc->List Str->Tq->Prop where
 | var (h1:N[i]?=some x) (h2:jT sc x=true) (h3:aA x=true):CQ sc N (.e (.var i) (.Name x p))
 | cst (h:Ei d c=true):CQ sc N (.e (.cst d) (.Constant c k p))
 | glo (h2:av sc x=true) (h3:aA x=true):CQ sc N (.e (.glo x) (.Name x p))
 | bin (h:Eh o op=true) (ha:CQ sc N (.e a l)) (hb:CQ sc N (.e b r)):CQ sc N (.e (.bin o a b) (.BinOp l op r p))
 | neg (ha:CQ sc N (.e a x)):CQ sc N (.e (.neg a) (.UnaryOp .USub x p))
 | not (ha:CQ sc N (.e a x)):CQ sc N (.e (.not a) (.UnaryOp .Not x p))
 | and2 (ha:CQ sc N (.e a x)) (hb:CQ sc N (.e b y)):CQ sc N (.e (.and a b) (.BoolOp .And [x,y] p))
 | and3 (ha:CQ sc N (.e a x)) (hb:CQ sc N (.e b (.BoolOp .And (y :: z :: r) p))):CQ sc N (.e (.and a b) (.BoolOp .And (x :: y :: z :: r) p))
 | or2 (ha:CQ sc N (.e a x)) (hb:CQ sc N (.e b y)):CQ sc N (.e (.or a b) (.BoolOp .Or [x,y] p))
 | or3 (ha:CQ sc N (.e a x)) (hb:CQ sc N (.e b (.BoolOp .Or (y :: z :: r) p))):CQ sc N (.e (.or a b) (.BoolOp .Or (x :: y :: z :: r) p))
 | cmp (h:B0 o op=true) (ha:CQ sc N (.e a l)) (hb:CQ sc N (.e b r)) (hm:SH op r=false):CQ sc N (.e (.cmp o a b) (.Compare l [op] [r] p))
 | chain (h:B0 o op=true) (h':B0 o' op'=true) (ha:CQ sc N (.e a l)) (hb:CQ sc N (.e b r)) (hc:CQ sc N (.e c r')) (hm:lastMarks [op,op'] [r,r']=false):CQ sc N (.e (.chain o o' a b c) (.Compare l [op,op'] [r,r'] p))
 | ite (h:tOK c=true) (hc:CQ sc N (.e c t)) (ha:CQ sc N (.e a x)) (hb:CQ sc N (.e b y)):CQ sc N (.e (.ite c a b) (.IfExp t x y p))
 | tup (h:CQ sc N (.es as es)):CQ sc N (.e (.tup as) (.Tuple es k p))
 | lst (h:CQ sc N (.es as es)):CQ sc N (.e (.lst mu as) (.List es p))
 | idx (ha:CQ sc N (.e a x)) (hi:CQ sc N (.e i sl)) (hs:i8 sl=true):CQ sc N (.e (.idx a i) (.Subscript x sl p))
 | slc {lo:BT.Es} (ha:CQ sc N (.e a x)) (hl:CQ sc N (.o lo l)) (hu:CQ sc N (.o hi u)):CQ sc N (.e (.slc a lo hi) (.Subscript x (.Slice l u none p2) p))
 | call (hg:av sc f=true) (hn:aA f=true) (ha:CQ sc N (.es as es)):CQ sc N (.e (.call f as) (.Call (.Name f np) es [] p))
 | lrev (hu:bB N=true) (hg:av sc "list"=true) (hg2:av sc "reversed"=true) (hs:noStar e=true) (h:CQ sc N (.e a e)) :
  CQ sc N (.e (.lsr mu .rev (.cons a .nil)) (.Call (.Name "list" np) [.Call (.Name "reversed" zp) [e] [] pos] [] p))
 | bi (hu:bB N=true) (hb:Ej b mu x=true) (hg:av sc x=true) (hs:noStar e=true) (ha:CQ sc N (.e a e)):CQ sc N (.e (.bi b mu (.cons a .nil)) (.Call (.Name x np) [e] [] p))
 | inst (hb:qd b=some (c,f)) (hg:av sc "isinstance"=true) (hg2:av sc (Pe c)=true) (hs:noStar e=true) (ha:CQ sc N (.e a e)) :
  CQ sc N (.e (.bi b false (.cons a .nil)) (.Call (.Name "isinstance" np) [e,.Name (Pe c) p2] [] p))
 | isx (hx:yv cn=true) (hn:aA cn=true) (hg:av sc "isinstance"=true) (hg2:av sc cn=true) (hs:noStar e=true) (ha:CQ sc N (.e a e)) :
  CQ sc N (.e (.isx cn a) (.Call (.Name "isinstance" np) [e,.Name cn p2] [] p))
 | me (h1:FP m o=true) (h2:name=yu m) (h3:aB oe=true) (h6:(apos.endLine==cpos.line)=true) (h7:es.length < 20) (ho:CQ sc N (.e o oe)) (ha:CQ sc N (.es as es)) :
  CQ sc N (.e (.me m o as) (.Call (.Attribute oe name apos) es [] cpos))
 | comp {cond:BT.Es}
  (hu:bB N=true) (hk:iN sc N tg fv scope=true) (ht:qf (aW scope sc) tg te=true) (hz:qe sr te=true) (hs:iL iter=true) (hi:CQ sc N (.i sr sa iter))
  (hc:CQ (aW scope sc) (tg++fv.map (·.2)) (.c cond ifs)) (he:CQ (aW scope sc) (tg++fv.map (·.2)) (.e elt elt')):CQ sc N (.e (.comp mu sr sa tg fv cond elt) (.ListComp elt' [⟨te,iter,ifs,0⟩] scope pos))
 | fld (hb:aB x=true) (hf:attrName f=true) (ha:CQ sc N (.e a x)):CQ sc N (.e (.fld a f) (.Attribute x f p))
 | meth (h3:aB oe=true) (h6:(apos.endLine==cpos.line)=true) (h7:es.length < 20) (ho:CQ sc N (.e o oe)) (ha:CQ sc N (.es as es)) :
  CQ sc N (.e (.meth o m as) (.Call (.Attribute oe m apos) es [] cpos))
 | stp (hk:oi k se=true) (ha:CQ sc N (.e a x)):CQ sc N (.e (.stp mu k a) (.Subscript x (.Slice none none (some se) p2) p))
 | bi2 (hu:bB N=true) (hb:yt b x=true) (hg:av sc x=true) (hs1:noStar e1=true) (hs2:noStar e2=true) (h1:CQ sc N (.e a1 e1)) (h2:CQ sc N (.e a2 e2)) :
  CQ sc N (.e (.bi b false (.cons a1 (.cons a2 .nil))) (.Call (.Name x np) [e1,e2] [] p))
 | make (hg:av sc c=true) (hn:aA c=true) (ha:CQ sc N (.es as es)):CQ sc N (.e (.make c as) (.Call (.Name c np) es [] p))
 | callv (h1:N[i]?=some x) (h2:jT sc x=true) (h3:aA x=true) (ha:CQ sc N (.es as (e :: es))):CQ sc N (.e (.callv i as) (.Call (.Name x np) (e :: es) [] p))
 | dnew:CQ sc N (.e .dnew (.Dict [] [] p))
 | dli (hu:bB N=true) (hg:av sc "list"=true) (h3:aB oe=true) (h6:(apos.endLine==pos.line)=true) (ho:CQ sc N (.e o oe)):CQ sc N (.e (.dli o) (.Call (.Name "list" np) [.Call (.Attribute oe "items" apos) [] [] pos] [] p))
 | cat (ha:CQ sc N (.e a x)) (hb:CQ sc N (.e b y)):CQ sc N (.e (.cat a b) (.BinOp x .Add y p))
 | lrng2 (hu:bB N=true) (hg:av sc "list"=true) (hg2:av sc "range"=true) (hs:noStar x=true) (hs2:noStar y=true) (ha:CQ sc N (.e a x)) (hb:CQ sc N (.e b y)) :
  CQ sc N (.e (.lsr mu .rng2 (.cons a (.cons b .nil))) (.Call (.Name "list" np) [.Call (.Name "range" zp) [x,y] [] pos] [] p))
 | maxd (hu:bB N=true) (hg:av sc "max"=true) (hs:noStar e=true) (ha:CQ sc N (.e a e)) (hd:CQ sc N (.e d de)):CQ sc N (.e (.bi .maxd false (.cons a (.cons d .nil))) (.Call (.Name "max" np) [e] [⟨some "default",de,kp⟩] p))
 | lrng3 (hu:bB N=true) (hg:av sc "list"=true) (hg2:av sc "range"=true) (hs:noStar x=true) (hs2:noStar y=true) (hs3:noStar z=true) (ha:CQ sc N (.e a x)) (hb:CQ sc N (.e b y)) (hc:CQ sc N (.e c z)) :
  CQ sc N (.e (.bi .lrng3 false (.cons a (.cons b (.cons c .nil)))) (.Call (.Name "list" np) [.Call (.Name "range" zp) [x,y,z] [] pos] [] p))
 | es_nil:CQ sc N (.es .nil [])
 | es_cons (hs:noStar e=true) (ha:CQ sc N (.e a e)) (hr:CQ sc N (.es as es)):CQ sc N (.es (.cons a as) (e :: es))
 | o_nil:CQ sc N (.o .nil none)
 | o_one (ha:CQ sc N (.e a e)):CQ sc N (.o (.cons a .nil) (some e))
 | c_nil:CQ sc N (.c .nil [])
 | c_one (ht:tOK a=true) (ha:CQ sc N (.e a e)):CQ sc N (.c (.cons a .nil) [e])
 | rng1 (hg:av sc "range"=true) (hs:noStar e=true) (h:CQ sc N (.e a e)):CQ sc N (.i .rng1 (.cons a .nil) (.Call (.Name "range" p) [e] [] pos))
 | rng2 (hg:av sc "range"=true) (hs:noStar x=true) (hs2:noStar y=true) (ha:CQ sc N (.e a x)) (hb:CQ sc N (.e b y)):CQ sc N (.i .rng2 (.cons a (.cons b .nil)) (.Call (.Name "range" p) [x,y] [] pos))
 | rev (hg:av sc "reversed"=true) (hs:noStar e=true) (h:CQ sc N (.e a e)):CQ sc N (.i .rev (.cons a .nil) (.Call (.Name "reversed" p) [e] [] pos))
 | seq (h:CQ sc N (.e a x)):CQ sc N (.i .seq (.cons a .nil) x)
noncomputable abbrev CE' (sc:Qc) (N:List Str) (a:BT.E) (x:O3):Prop:=CQ sc N (.e a x)
noncomputable abbrev CEs (sc:Qc) (N:List Str) (as:BT.Es) (xs:List O3):Prop:=CQ sc N (.es as xs)
noncomputable abbrev CC (sc:Qc) (N:List Str) (as:BT.Es) (xs:List O3):Prop:=CQ sc N (.c as xs)
noncomputable abbrev CI (sc:Qc) (N:List Str) (sr:BT.Sr) (sa:BT.Es) (x:O3):Prop:=CQ sc N (.i sr sa x)
inductive LPa:Uk->List Str->Prop where
 | one {p:Pos}:LPa ⟨[],[⟨"state",none,p⟩],none,[],[],none,[]⟩ ["state"]
 | two {p q:Pos}:LPa ⟨[],[⟨"row",none,p⟩,⟨"state",none,q⟩],none,[],[],none,[]⟩ ["row","state"]
noncomputable def jU (ps fs:List Str) (sc:Qc):Bool :=
 sc.kind==.function&&!sc.isCoroutine&&!sc.isGenerator&&sc.names.all (fun y=>!(y.2==.cell))&&ps.all (fun x=>sc.names.lookup x==some .local) &&
 fs.all (fun x=>sc.names.lookup x==some .free&&sc.names.contains (x,.free))&&sc.names.all (fun y=>!(y.2==.free)||fs.contains y.1)&&iM (ps++fs)
noncomputable def r9 (sc:Qc) (N:List Str) (fv:List (Nat×Str)):Bool:=fv.all fun q=>N[q.1]?==some q.2&&sc.names.lookup q.2==some .cell
inductive CL (sc:Qc) (N:List Str):BT.E->Str->BT.Es->Nat->List (Nat×Str)->O3->Prop where
 | zero {o bt:BT.E}{m:Str}{L:Nat}{fv:List (Nat×Str)}{oe be:O3}{apos cpos lp:Pos}{pa:Uk}{scope:Qc}{ns ps:List Str} (hl:BT.mD L=some ⟨ns,ns,.ret bt⟩) (hp:LPa pa ps) (hn:ns=ps++fv.map (·.2)) (hk:jU ps (fv.map (·.2)) scope=true) (hv:r9 sc N fv=true)
  (ht:N.contains (BT.bU (BT.qc L))=true) (hc:CE' scope ns bt be) (h3:aB oe=true) (h6:(apos.endLine==cpos.line)=true) (ho:CE' sc N o oe):CL sc N o m .nil L fv (.Call (.Attribute oe m apos) [.Lambda pa be scope lp] [] cpos)
 | one {o bt a:BT.E}{m:Str}{L:Nat}{fv:List (Nat×Str)}{oe be e:O3}{apos cpos lp:Pos}{pa:Uk}{scope:Qc}{ns ps:List Str} (hl:BT.mD L=some ⟨ns,ns,.ret bt⟩) (hp:LPa pa ps) (hn:ns=ps++fv.map (·.2)) (hk:jU ps (fv.map (·.2)) scope=true) (hv:r9 sc N fv=true)
  (ht:N.contains (BT.bU (BT.qc L))=true) (hc:CE' scope ns bt be) (h3:aB oe=true) (h6:(apos.endLine==cpos.line)=true) (ho:CE' sc N o oe) (hs:noStar e=true) (ha:CE' sc N a e):CL sc N o m (.cons a .nil) L fv (.Call (.Attribute oe m apos) [e,.Lambda pa be scope lp] [] cpos)
noncomputable def KT (K:OX) (a:O9) (xs:List V):Prop :=
 ∃ (o:Obj) (its:Array Value) (n:Nat),(K.lookup a=some o/\o.cls=.type "tuple"/\o.data=.seq its n/\its.size<=sizeLine/\ao xs its.toList)/\o.dict=none
noncomputable def KL (K:OX) (a:O9) (xs:List V):Prop:=∃ (its:List Value) (n:Nat),K.lookup a=some { cls:=.type "list",data:=.seq its.toArray n }/\its.length<=sizeLine/\ao xs its
noncomputable def LL (K:OX) (H:Hp) (a:O9) (xs:List V):Prop:=Rd H a (.lst xs)\/KL K a xs
theorem LL.sq {K:OX} (h:LL K H a xs):SqL K H a xs:=by
 rcases h with h | ⟨its,n,h1,h2,h3⟩
 ·exact .inl h
 ·exact .inr ⟨_,its.toArray,n,h1,rfl,rfl,rfl,by simpa using h2,by simpa using h3⟩
noncomputable def KD (P:Pv) (w:P0) (K:OX) (a:O9) (es:List (Str×V)):Prop :=
 (a==Q0)=false/\∃ vs:List (Key×Value),KV (es.map fun q=>(Sum.inr q.1,q.2)) vs/\∀ h:Heap,K.In h->h.DictOf (aF P w) a vs
mutual
inductive RD (K:OX) (m:List O9) (H:Hp):V->BT.D->Prop where
 | non:RD K m H .non .non
 | bl (b:Bool):RD K m H (.bl b) (.bl b)
 | int (i:Int):RD K m H (.int i) (.int i)
 | str (x:Str) (h:PyData.strOk x=true):RD K m H (.str x) (.str x)
 | tup {a:O9}{vs:List V}{ds:List BT.D} (h:(Rd H a (.tup vs)/\a∉m)\/KT K a vs) (r:RDs K m H vs ds):RD K m H (.ref a) (.tup ds)
 | lst {a:O9}{vs:List V}{ds:List BT.D} (h:(Rd H a (.lst vs)/\a∉m)\/KL K a vs) (r:RDs K m H vs ds):RD K m H (.ref a) (.lst ds)
inductive RDs (K:OX) (m:List O9) (H:Hp):List V->List BT.D->Prop where
 | nil:RDs K m H [] []
 | cons {v:V}{d:BT.D}{vs:List V}{ds:List BT.D} (r:RD K m H v d) (t:RDs K m H vs ds):RDs K m H (v :: vs) (d :: ds)
end
inductive RDk (K:OX):List (Str×V)->List (Str×BT.D)->Prop where
 | nil:RDk K [] []
 | cons {x:Str}{v:V}{d:BT.D}{es:List (Str×V)}{kvs:List (Str×BT.D)} (r:∀ m H,RD K m H v d) (t:RDk K es kvs):RDk K ((x,v) :: es) ((x,d) :: kvs)
inductive RA (K:OX) (m:List O9) (H:Hp):V->BT.W->Prop where
 | p {v:V}{d:BT.D} (r:RD K m H v d):RA K m H v (.p d)
 | r {a:O9}{n:Nat} (h:m[n]?=some a):RA K m H (.ref a) (.r n)
 | o {a:O9}{n:Nat} (h:m[n]?=some a):RA K m H (.ref a) (.o n)
noncomputable def Tr (m:List O9) (H:Hp) (a:O9) (o:Obj):Prop:=H a=some (.frz o (.own 0))/\a∉m
noncomputable def vM (x:Str):Str:=x++".<locals>."++"<lambda>"
inductive gq (m:List O9) (H:Hp) (cl:List (Str×O9)):List Str->List V->Prop where
 | nil:gq m H cl [] []
 | cons {x:Str}{c:O9}{o:Obj}{u:Value}{v:V}{xs:List Str}{vs:List V} (h1:cl.lookup x=some c) (h2:Tr m H c o) (h3:o.data=.cell (some u)) (r:RelV v u) (t:gq m H cl xs vs):gq m H cl (x :: xs) (v :: vs)
inductive gk (m:List O9) (H:Hp) (f:O9) (L:Nat) (vs:List V):Prop where
 | mk (bt:_) (ps:_) (fs:_) (pa:_) (be:_) (sc:_) (cl:_) (pm:_) (ctv:_) (c':_) (oc:_) (os:_) (t:_) (q:_) (h1:BT.mD L=some ⟨ps++fs,ps++fs,.ret bt⟩) (h2:LPa pa ps) (h3:jU ps fs sc=true) (h4:CE' sc (ps++fs) bt be) (h5:(∀ x y c,cl.lookup x=some c->cl.lookup y=some c->x=y)) (h6:(∀ x c,cl.lookup x=some c->x∈fs)) (h7:Tr m H f (Sx "<lambda>" q pa be sc cl pm c' ctv)) (h8:Tr m H c' oc) (h9:oc.data=.fields os) (h10:os[1]?=some (.str q t)) (h11:gq m H cl fs vs):gk m H f L vs
inductive RCs (K:OX) (m:List O9) (H:Hp):List V->List BT.Cp->Prop where
 | nil:RCs K m H [] []
 | cons {v:V}{x:BT.Cp}{vs:List V}{xs:List BT.Cp} (r:RA K m H v x.w) (t:RCs K m H vs xs):RCs K m H (v :: vs) (x :: xs)
noncomputable def TB (K:OX) (H:Hp):Prop:=∀ x∈BT.dG,∀ c P,Qj K x=some (c,P)->∃ ps,H P=some (.tbl ps)/\TriplesOk ps.toList ∧
 ∀ pos v,Sg pos ps.toList=some v->∃ c' oc os t,v=.ref c'/\H c'=some (.frz oc (.own 0))/\oc.data=.fields os/\os[1]?=some (.str (vM x) t)
theorem TB.mono {K:OX} (h:TB K H) (h1:∀ P ps,H P=some (.tbl ps)->H' P=some (.tbl ps)) (h2:∀ a o vs,o.data=.fields vs->H a=some (.frz o (.own 0))->H' a=some (.frz o (.own 0))):TB K H':=fun x hx c P e=>by
 obtain ⟨ps,e1,e2,e3⟩:=h x hx c P e
 refine ⟨ps,h1 _ _ e1,e2,fun pos v q=>?_⟩
 obtain ⟨c',oc,os,t,q1,q2,q3⟩:=e3 pos v q
 exact ⟨c',oc,os,t,q1,h2 _ _ _ q3.1 q2,q3⟩
noncomputable def CN (K:OX) (c:Str) (C:O9):Prop:=P1 K Pd c=some (some (.ref C))
structure XT (K:OX) (c:Str) (C:O9):Prop where
 ga:PB K (.ref C) "__getattribute__"=some (some (.builtin "BaseException.__getattribute__"))
 nga:PB K (.ref C) "__getattr__"=some none
 mrb:SQ K C (.type "BaseException")=some true
 dct:QZ K C=true
 fnd:PB K (.ref C) "__class__"=some (some (.builtin "object.__class__"))
 spc:U5 K (.builtin "object.__class__") "__get__"=some (some (.builtin "getset_descriptor.__get__"))
 tak:Vx K (.builtin "object.__class__")=some true
 mro:SQ K C (.type "object")=some true
 own:∀ cn,uf cn=true->∃ D,CN K cn D/\Qn K (.ref C) (.ref D)=some (BT.qb c cn)
 val:Qn K (.ref C) (.type "ValueError")=some true
noncomputable def excAt (K:OX) (c:Str) (a:O9):Heap->Prop:=fun h=>∃ o C,CN K c C/\XT K c C/\h.get? a=some o/\o.cls=.ref C
inductive RKs (K:OX) (m:List O9) (H:Hp):List (Key×V)->List (BT.Ky×BT.D)->Prop where
 | nil:RKs K m H [] []
 | cons {k:Key}{v:V}{d:BT.D}{vs:List (Key×V)}{kvs:List (BT.Ky×BT.D)} (hk:RD K m H (kV k) (BT.rO k)) (r:RD K m H v d) (t:RKs K m H vs kvs):RKs K m H ((k,v) :: vs) ((k,d) :: kvs)
inductive RW (P:Pv) (w:P0) (K:OX) (m:List O9) (H:Hp):V->BT.W->Prop where
 | p {v:V}{d:BT.D} (r:RD K m H v d):RW P w K m H v (.p d)
 | r {a:O9}{n:Nat} (h:m[n]?=some a):RW P w K m H (.ref a) (.r n)
 | k {a:O9}{es:List (Str×V)}{kvs:List (Str×BT.D)} (h:KD P w K a es) (r:RDk K es kvs):RW P w K m H (.ref a) (.k (.t kvs))
 | kl {a:O9}{o:Obj}{vs:List (Key×V)}{kvs:List (BT.Ky×BT.D)} (h:H a=some (.frz o (.dK vs))/\a∉m) (r:RKs K m H vs kvs):RW P w K m H (.ref a) (.k (.l kvs))
 | o {a:O9}{n:Nat} (h:m[n]?=some a):RW P w K m H (.ref a) (.o n)
 | c {f:O9}{L:Nat}{vs:List V}{cs:List BT.Cp} (h:gk m H f L vs) (r:RCs K m H vs cs):RW P w K m H (.ref f) (.c (.l L) cs)
 | x {a:O9}{c:Str} (h:H a=some (.ext (excAt K c a))) (n:a∉m) (xt:∃ C,XT K c C):RW P w K m H (.ref a) (.x c)
 | g {f:O9}{x:Str} (h:P1 K Pd x=some (some (.ref f))) (r:PK K (.ref f)=true):RW P w K m H (.ref f) (.c (.f x) [])
inductive RFs (K:OX) (m:List O9) (H:Hp):List (Str×V)->List (Str×BT.W)->Prop where
 | nil:RFs K m H [] []
 | cons {f:Str}{v:V}{x:BT.W}{vs:List (Str×V)}{fs:List (Str×BT.W)} (r:RA K m H v x) (t:RFs K m H vs fs):RFs K m H ((f,v) :: vs) ((f,x) :: fs)
theorem CN.inj {K:OX} (h:CN K c C) (h':CN K c C'):C=C':=by
 have e:=h.symm.trans h'
 simpa using e
structure iB (K:OX) (c:Str) (C:O9):Prop where
 cn:CN K c C
 cls:Cls K C
 no:∀ f,attrName f=true->gu K C f
noncomputable def gD (K:OX) (m:List O9) (H:Hp) (a:O9):BT.Cl->Prop
 | .l xs=>∃ vs,H a=some (.lst vs)/\RDs K m H vs xs
 | .o c fs=>∃ C dx vs,H a=some (.ins C dx vs)/\iB K c C/\RFs K m H vs fs
 | .d kvs=>∃ vs,H a=some (.dK vs)/\RKs K m H vs kvs
inductive RWs (P:Pv) (w:P0) (K:OX) (m:List O9) (H:Hp):List V->List BT.W->Prop where
 | nil:RWs P w K m H [] []
 | cons {v:V}{x:BT.W}{vs:List V}{xs:List BT.W} (r:RW P w K m H v x) (t:RWs P w K m H vs xs):RWs P w K m H (v :: vs) (x :: xs)
structure RH (K:OX) (m:List O9) (H:Hp) (h:BT.HH):Prop where
 nd:m.Nodup
 len:m.length=h.length
 cl:∀ (i:Nat) (a:O9) (c:BT.Cl),m[i]?=some a->h[i]?=some c->gD K m H a c
 tb:TB K H
theorem yw (e:BT.lat h n=some xs):h[n]?=some (.l xs):=by
 unfold BT.lat at e
 cases g:h[n]? with
 | none=>rw[g] at e;cases e
 | some c=>rw[g] at e;cases c<;>simp[BT.nQ] at e;rw[e]
theorem yx (e:BT.oat h n=some (c,fs)):h[n]?=some (.o c fs):=by
 unfold BT.oat at e
 cases g:h[n]? with
 | none=>rw[g] at e;cases e
 | some c=>rw[g] at e;cases c<;>simp[BT.pX] at e;rw[e.1,e.2]
theorem yz (e:BT.dat h n=some kvs):h[n]?=some (.d kvs):=by
 unfold BT.dat at e
 cases g:h[n]? with
 | none=>rw[g] at e;cases e
 | some c=>rw[g] at e;cases c<;>simp[BT.xY] at e;rw[e]
theorem RH.Ek {K:OX} (R:RH K m H h) (i:Nat) (a:O9) (kvs:List (BT.Ky×BT.D)) (e:m[i]?=some a) (g:BT.dat h i=some kvs):∃ vs,H a=some (.dK vs)/\RKs K m H vs kvs:=R.cl i a _ e (yz g)
theorem RH.cell {K:OX} (R:RH K m H h) (i:Nat) (a:O9) (xs:List BT.D) (e:m[i]?=some a) (g:BT.lat h i=some xs):∃ vs,H a=some (.lst vs)/\RDs K m H vs xs:=R.cl i a _ e (yw g)
inductive OC (K:OX) (m:List O9) (H:Hp) (a:O9) (c:Str) (fs:List (Str×BT.W)):Prop where
 | mk (C:O9) (dx:_) (vs:_) (h1:H a=some (.ins C dx vs)) (h2:iB K c C) (h3:RFs K m H vs fs):OC K m H a c fs
theorem RH.k8 {K:OX} (R:RH K m H h) (i:Nat) (a:O9) (c:Str) (fs:List (Str×BT.W)) (e:m[i]?=some a) (g:BT.oat h i=some (c,fs)):OC K m H a c fs:=by
 obtain ⟨C,dx,vs,h1,h2,h3⟩:=R.cl i a _ e (yx g)
 exact ⟨C,dx,vs,h1,h2,h3⟩
structure RS (P:Pv) (w:P0) (K:OX) (m:List O9) (H:Hp) (σ:L2.St) (s:BT.Sl):Prop where
 len:σ.length=s.length
 get:∀ (i:Nat) (x:BT.W),s[i]?=some (some x)->∃ v,σ[i]?=some (some v)/\RW P w K m H v x
noncomputable def yC:HO->Bool
 | .tbl _=>true
 | _=>false
structure Ext (m:List O9) (H:Hp) (m':List O9) (H':Hp):Prop where
 pre:∃ e,m'=m++e/\∀ a∈e,H a=none
 keep:∀ a o,H a=some o->a∉m->yC o=false->H' a=some o
 live:∀ a,H' a=none->H a=none
theorem Ext.refl (m:List O9) (H:Hp):Ext m H m H:=⟨⟨[],by simp,by simp⟩,fun _ _ h _ _=>h,fun _ h=>h⟩
theorem Ext.c9 (x:Ext m H m' H') (h:H a=some o) (n:a∉m):a∉m':=by
 obtain ⟨e,rfl,he⟩:=x.pre
 intro q
 rcases List.mem_append.mp q with q | q
 ·exact n q
 ·rw[he a q] at h;cases h
theorem Ext.trans (x:Ext m H m1 H1) (y:Ext m1 H1 m2 H2):Ext m H m2 H2:=by
 obtain ⟨e,rfl,he⟩:=x.pre
 obtain ⟨e',rfl,he'⟩:=y.pre
 refine ⟨⟨e++e',by rw[QK],fun a ha=>?_⟩,fun a o h n t=>y.keep a o (x.keep a o h n t) (x.c9 h n) t,fun a h=>x.live a (y.live a h)⟩
 rcases List.mem_append.mp ha with q | q
 ·exact he a q
 ·exact x.live a (he' a q)
theorem Rd.ext (x:Ext m H m' H') (h:Rd H a u) (n:a∉m) (t:yC u=false:=by rfl):Rd H' a u/\a∉m':=by
 rcases h with h | ⟨o,h⟩
 ·exact ⟨.inl (x.keep _ _ h n t),x.c9 h n⟩
 ·exact ⟨.inr ⟨o,x.keep _ _ h n rfl⟩,x.c9 h n⟩
theorem Tr.ext (x:Ext m H m' H') (h:Tr m H a o):Tr m' H' a o:=⟨x.keep _ _ h.1 h.2 rfl,x.c9 h.1 h.2⟩
theorem gq.ext (x:Ext m H m' H') (r:gq m H cl xs vs):gq m' H' cl xs vs:=by
 induction r with
 | nil=>exact .nil
 | cons h1 h2 h3 r t ih=>exact .cons h1 (h2.ext x) h3 r ih
theorem gk.ext (x:Ext m H m' H') (h:gk m H f L vs):gk m' H' f L vs:=by
 obtain ⟨bt,ps,fs,pa,be,sc,cl,pm,ctv,c',oc,os,t,q,h0,h1,h2,h3,h4,h5,h6,h7,h8,h9,h10⟩:=h
 exact ⟨bt,ps,fs,pa,be,sc,cl,pm,ctv,c',oc,os,t,q,h0,h1,h2,h3,h4,h5,h6.ext x,h7.ext x,h8,h9,h10.ext x⟩
section
variable {K:OX}
mutual
theorem RD.ext (x:Ext m H m' H'):∀ {v:V}{d:BT.D},RD K m H v d->RD K m' H' v d
 | _,_,.non=>.non
 | _,_,.bl b=>.bl b
 | _,_,.int i=>.int i
 | _,_,.str y h=>.str y h
 | _,_,.tup h r=>.tup (h.elim (fun q=>.inl (Rd.ext x q.1 q.2)) .inr) (RDs.ext x r)
 | _,_,.lst h r=>.lst (h.elim (fun q=>.inl (Rd.ext x q.1 q.2)) .inr) (RDs.ext x r)
theorem RDs.ext (x:Ext m H m' H'):∀ {vs:List V}{ds:List BT.D},RDs K m H vs ds->RDs K m' H' vs ds
 | _,_,.nil=>.nil
 | _,_,.cons r t=>.cons (RD.ext x r) (RDs.ext x t)
end
theorem RA.rw (r:RA K m H v d):RW P w K m H v d:=by
 cases r with
 | p r=>exact .p r
 | r h=>exact .r h
 | o h=>exact .o h
theorem RW.ra (r:RW P w K m H v d) (h0:BT.attrOk d=true):RA K m H v d:=by
 cases r with
 | p r=>exact .p r
 | r h=>exact .r h
 | o h=>exact .o h
 | k _ _=>cases h0
 | kl _ _=>cases h0
 | c _ _=>cases h0
 | x _=>cases h0
 | g _ _=>cases h0
theorem Ext.ix (x:Ext m H m' H') {n:Nat} (h:m[n]?=some a):m'[n]?=some a:=by
 obtain ⟨e,rfl,_⟩:=x.pre
 rw[O6 (by rcases Pz _ m.length with q | q;exact q;rw[Pa q] at h;cases h)]
 exact h
theorem RA.ext (x:Ext m H m' H') (r:RA K m H v d):RA K m' H' v d:=by
 cases r with
 | p r=>exact .p (r.ext x)
 | r h=>exact .r (x.ix h)
 | o h=>exact .o (x.ix h)
theorem RCs.ext (x:Ext m H m' H') (r:RCs K m H vs cs):RCs K m' H' vs cs:=by
 induction r with
 | nil=>exact .nil
 | cons r t ih=>exact .cons (r.ext x) ih
theorem RKs.ext (x:Ext m H m' H') (r:RKs K m H vs kvs):RKs K m' H' vs kvs:=by
 induction r with
 | nil=>exact .nil
 | cons hk r t ih=>exact .cons (hk.ext x) (r.ext x) ih
theorem RW.ext (x:Ext m H m' H') (r:RW P w K m H v d):RW P w K m' H' v d:=by
 cases r with
 | p r=>exact .p (r.ext x)
 | r h =>
  obtain ⟨e,rfl,_⟩:=x.pre
  refine .r ?_
  rw[O6 (by rcases Pz _ m.length with q | q;exact q;rw[Pa q] at h;cases h)]
  exact h
 | k h r=>exact .k h r
 | kl h r=>exact .kl ⟨x.keep _ _ h.1 h.2 rfl,x.c9 h.1 h.2⟩ (r.ext x)
 | c h r=>exact .c (h.ext x) (r.ext x)
 | g h r=>exact .g h r
 | x h n xt=>exact .x (x.keep _ _ h n rfl) (x.c9 h n) xt
 | o h =>
  obtain ⟨e,rfl,_⟩:=x.pre
  refine .o ?_
  rw[O6 (by rcases Pz _ m.length with q | q;exact q;rw[Pa q] at h;cases h)]
  exact h
theorem RFs.ext (x:Ext m H m' H') (r:RFs K m H vs fs):RFs K m' H' vs fs:=by
 induction r with
 | nil=>exact .nil
 | cons r t ih=>exact .cons (r.ext x) ih
theorem gD.ext (x:Ext m H m' H') (e:H' a=H a) (r:gD K m H a c):gD K m' H' a c:=by
 cases c with
 | l xs=>obtain ⟨vs,h1,h2⟩:=r;exact ⟨vs,e.trans h1,h2.ext x⟩
 | o c fs=>obtain ⟨C,dx,vs,h1,h2,h3⟩:=r;exact ⟨C,dx,vs,e.trans h1,h2,h3.ext x⟩
 | d kvs=>obtain ⟨vs,h1,h2⟩:=r;exact ⟨vs,e.trans h1,h2.ext x⟩
theorem gD.some (r:gD K m H a c):∃ o,H a=some o:=by
 cases c with
 | l xs=>obtain ⟨vs,h1,h2⟩:=r;exact ⟨_,h1⟩
 | o c fs=>obtain ⟨C,dx,vs,h1,h2,h3⟩:=r;exact ⟨_,h1⟩
 | d kvs=>obtain ⟨vs,h1,h2⟩:=r;exact ⟨_,h1⟩
theorem RWs.ext (x:Ext m H m' H') (r:RWs P w K m H vs ds):RWs P w K m' H' vs ds:=by
 induction r with
 | nil=>exact .nil
 | cons r t ih=>exact .cons (r.ext x) ih
theorem RS.ext (x:Ext m H m' H') (r:RS P w K m H σ s):RS P w K m' H' σ s :=
 ⟨r.len,fun i y e=>by obtain ⟨v,h,q⟩:=r.get i y e;exact ⟨v,h,q.ext x⟩⟩
theorem RDs.length:∀ {vs:List V}{ds:List BT.D},RDs K m H vs ds->vs.length=ds.length
 | _,_,.nil=>rfl
 | _,_,.cons _ t=>by rw[Po,Po,RDs.length t]
theorem RWs.length:∀ {vs:List V}{ds:List BT.W},RWs P w K m H vs ds->vs.length=ds.length
 | _,_,.nil=>rfl
 | _,_,.cons _ t=>by rw[Po,Po,RWs.length t]
theorem RDs.get:∀ {vs:List V}{ds:List BT.D}{i:Nat}{d:BT.D},RDs K m H vs ds->ds[i]?=some d->∃ v,vs[i]?=some v/\RD K m H v d
 | _,_,_,_,.nil,e=>by simp at e
 | _,_,0,_,.cons r _,e=>by simp at e;subst e;exact ⟨_,rfl,r⟩
 | _,_,i+1,d,.cons _ t,e=>by
  obtain ⟨u,h1,h2⟩:=RDs.get (i:=i) (d:=d) t (by simpa using e)
  exact ⟨u,by simpa using h1,h2⟩
theorem RDs.append:∀ {vs ws:List V}{ds es:List BT.D},RDs K m H vs ds->RDs K m H ws es->RDs K m H (vs++ws) (ds++es)
 | _,_,_,_,.nil,s=>s
 | _,_,_,_,.cons r t,s=>.cons r (RDs.append t s)
theorem RDs.take:∀ {vs:List V}{ds:List BT.D} (n:Nat),RDs K m H vs ds->RDs K m H (vs.take n) (ds.take n)
 | _,_,0,_=>.nil
 | _,_,_+1,.nil=>.nil
 | _,_,n+1,.cons r t=>.cons r (RDs.take n t)
theorem RDs.drop:∀ {vs:List V}{ds:List BT.D} (n:Nat),RDs K m H vs ds->RDs K m H (vs.drop n) (ds.drop n)
 | _,_,0,r=>r
 | _,_,_+1,.nil=>.nil
 | _,_,n+1,.cons _ t=>RDs.drop n t
theorem RDs.set (r:RD K m H v d):∀ {vs:List V}{ds:List BT.D} (i:Nat),RDs K m H vs ds->RDs K m H (vs.set i v) (ds.set i d)
 | _,_,_,.nil=>.nil
 | _,_,0,.cons _ t=>.cons r t
 | _,_,i+1,.cons q t=>.cons q (RDs.set r i t)
theorem RDs.reverse (r:RDs K m H vs ds):RDs K m H vs.reverse ds.reverse:=by
 match r with
 | .nil=>exact .nil
 | .cons r t=>rw[Sj,Sj];exact RDs.append (RDs.reverse t) (.cons r .nil)
theorem RDs.pick (r:RDs K m H vs ds):∀ l:List Nat,RDs K m H (l.filterMap fun i=>vs[i]?) (l.filterMap fun i=>ds[i]?)
 | []=>.nil
 | i :: l=>by
  rw[Ql,Ql]
  cases g:ds[i]? with
  | none =>
   have:vs[i]?=none:=by
    have h:=r.length
    rw[Uy] at g ⊢
    lia
   rw[this]
   exact RDs.pick r l
  | some d =>
   obtain ⟨v,e,q⟩:=r.get g
   rw[e]
   exact .cons q (RDs.pick r l)
theorem RDs.dropLast:∀ {vs:List V}{ds:List BT.D},RDs K m H vs ds->RDs K m H vs.dropLast ds.dropLast
 | _,_,.nil=>.nil
 | _,_,.cons _ .nil=>.nil
 | _,_,.cons r (.cons q t)=>.cons r (RDs.dropLast (.cons q t))
theorem RDs.rep (r:RDs K m H vs ds):∀ k:Nat,RDs K m H (Pi k vs).flatten (Pi k ds).flatten
 | 0=>.nil
 | k+1=>by
  rw[Qv,Qv,Q5,Q5]
  exact RDs.append r (RDs.rep r k)
theorem ng {N:List O9} (hN:N.Nodup) {i j:Nat}{x:O9} (a:N[i]?=some x) (b:N[j]?=some x):i=j:=by
 have hi:i < N.length:=by
  rcases Pz i N.length with z | z
  ·exact z
  ·rw[Pa z] at a;cases a
 have hj:j < N.length:=by
  rcases Pz j N.length with z | z
  ·exact z
  ·rw[Pa z] at b;cases b
 rw[Ph hi] at a
 rw[Ph hj] at b
 exact (List.getElem_inj hN).mp ((O5 a).trans (O5 b).symm)
inductive RR (K:OX) (m:List O9) (H:Hp):V->BT.D->Prop where
 | d {v:V}{d:BT.D} (r:RD K m H v d):RR K m H v d
 | l {a:O9}{vs:List V}{ds:List BT.D} (h:H a=some (.lst vs)) (r:RDs K m H vs ds):RR K m H (.ref a) (.lst ds)
theorem aH (RHh:RH K m H h) (r:RW P w K m H v x) (e:BT.rd x h=some d):RR K m H v d:=by
 cases r with
 | p r=>cases e;exact .d r
 | @r a n q =>
  simp only[BT.rd] at e
  cases g:BT.lat h n with
  | none=>rw[g] at e;cases e
  | some xs =>
   rw[g] at e
   cases e
   obtain ⟨vs,h1,h2⟩:=RHh.cell n a xs q g
   exact .l h1 h2
 | k _ _=>cases e
 | kl _ _=>cases e
 | o _=>cases e
 | c _ _=>cases e
 | x _=>cases e
 | g _ _=>cases e
inductive RLs (K:OX) (m:List O9) (H:Hp) (v:V) (ds:List BT.D):Prop where
 | mk (a:O9) (vs:List V) (e:v=.ref a) (l:LL K H a vs) (r:RDs K m H vs ds):RLs K m H v ds
inductive RTs (K:OX) (m:List O9) (H:Hp) (v:V) (ds:List BT.D):Prop where
 | mk (a:O9) (vs:List V) (e:v=.ref a) (l:SqT K H a vs) (r:RDs K m H vs ds):RTs K m H v ds
theorem RR.lst {v:V}{ds:List BT.D} (r:RR K m H v (.lst ds)):RLs K m H v ds:=by
 cases r with
 | d r=>cases r with | lst h r=>exact ⟨_,_,rfl,h.elim (fun q=>.inl q.1) .inr,r⟩
 | l h r=>exact ⟨_,_,rfl,.inl (.inl h),r⟩
theorem RR.tup {v:V}{ds:List BT.D} (r:RR K m H v (.tup ds)):RTs K m H v ds:=by
 cases r with
 | d r=>cases r with | tup h r=>exact ⟨_,_,rfl,h.elim (fun q=>.inl q.1) (fun ⟨o,its,n,q,_⟩=>.inr ⟨o,its,n,q⟩),r⟩
theorem RR.int {v:V}{i:Int} (r:RR K m H v (.int i)):v=.int i:=by
 cases r with | d r=>cases r;rfl
theorem RR.str {v:V}{x:Str} (r:RR K m H v (.str x)):v=.str x/\PyData.strOk x=true:=by
 cases r with | d r=>cases r with | str _ h=>exact ⟨rfl,h⟩
theorem RR.bl {v:V}{b:Bool} (r:RR K m H v (.bl b)):v=.bl b:=by
 cases r with | d r=>cases r;rfl
theorem RR.non (r:RR K m H v .non):v=.non:=by
 cases r with | d r=>cases r;rfl
theorem TB.new (hp:H p=none) {K:OX} (h:TB K H):TB K (upd H p o) :=
 h.mono (fun P ps e=>by rw[au (aD e hp)];exact e) fun a o _ _ e=>by rw[au (aD e hp)];exact e
theorem fR (hp:H p=none):Ext m H m (upd H p o) :=
 ⟨⟨[],by simp,by simp⟩,fun a q h _ _=>by rw[au (aD h hp)];exact h,fun a h=>by
  by_cases e:a=p
  ·rw[e];exact hp
  ·rw[au e] at h;exact h⟩
theorem RH.c9 (R:RH K m H h) (hp:H p=none):p∉m:=by
 intro q
 obtain ⟨i,hi⟩:=QJ q
 have hl:i < h.length:=by
  rw[← R.len]
  rcases Pz i m.length with z | z
  ·exact z
  ·rw[Pa z] at hi;cases hi
 obtain ⟨o,e⟩:=(R.cl i p h[i] hi (Ph hl)).some
 rw[e] at hp;cases hp
noncomputable def Le (H H':Hp):Prop:=∀ a u,H a=some u->H' a=some u
theorem Le.tb (q:Le H H') {K:OX} (t:TB K H):TB K H':=t.mono (fun _ _ e=>q _ _ e) fun _ _ _ _ e=>q _ _ e
theorem yD (hp:H p=none):Le H (upd H p o):=fun a u e=>by rw[au (aD e hp)];exact e
theorem RH.ext (R:RH K m H h) (x:Ext m H m H') (k:Le H H'):RH K m H' h :=
 ⟨R.nd,R.len,fun i a c e1 e2=>by
  obtain ⟨o,e⟩:=(R.cl i a c e1 e2).some
  exact (R.cl i a c e1 e2).ext x (by rw[e];exact k _ _ e),k.tb R.tb⟩
noncomputable def FU:HO->Bool
 | .lst _=>true
 | .ins _ _ _=>true
 | .dK _=>true
 | _=>false
theorem RH.mu (R:RH K m H h) (ha:a∈m):∃ o,H a=some o/\FU o=true:=by
 obtain ⟨i,hi⟩:=QJ ha
 have hl:i < h.length:=by
  rw[← R.len]
  rcases Pz i m.length with z | z
  ·exact z
  ·rw[Pa z] at hi;cases hi
 have z:=R.cl i a h[i] hi (Ph hl)
 cases g:h[i] with
 | l xs=>rw[g] at z;obtain ⟨vs,h1,h2⟩:=z;exact ⟨_,h1,rfl⟩
 | o c fs=>rw[g] at z;obtain ⟨C,dx,vs,h1,h2,h3⟩:=z;exact ⟨_,h1,rfl⟩
 | d kvs=>rw[g] at z;obtain ⟨vs,h1,h2⟩:=z;exact ⟨_,h1,rfl⟩
theorem RH.nin (R:RH K m H h) (e:H a=some o) (n:FU o=false):a∉m:=fun z=>by
 obtain ⟨u,h1,h2⟩:=R.mu z
 rw[e] at h1;cases h1
 rw[n] at h2;cases h2
theorem RH.new (R:RH K m H h) (hp:H p=none):RH K m (upd H p o) h :=
 R.ext (fR hp) (yD hp)
theorem gE (hp:H p=none):Ext m H (m++[p]) (upd H p o) :=
 ⟨⟨[p],rfl,by simpa using hp⟩,fun a q h _ _=>by rw[au (aD h hp)];exact h,fun a h=>by
  by_cases e:a=p
  ·rw[e];exact hp
  ·rw[au e] at h;exact h⟩
theorem RH.FW (R:RH K m H h) (hp:H p=none) (r:gD K (m++[p]) (upd H p o) p c):RH K (m++[p]) (upd H p o) (h++[c]):=by
 have np:=R.c9 hp
 have x:Ext m H (m++[p]) (upd H p o):=gE hp
 refine ⟨List.nodup_append.mpr ⟨R.nd,by simp,fun a ha b hb=>by simp at hb;subst hb;exact fun e=>np (e ▸ ha)⟩,by simp[R.len],fun i a ys e1 e2=>?_,R.tb.new hp⟩
 by_cases c:i < m.length
 ·rw[O6 c] at e1
  rw[O6 (by rw[← R.len];exact c)] at e2
  have ne:a≠p:=by
   intro e
   subst e
   exact np (Pb e1)
  exact (R.cl i a ys e1 e2).ext x (au ne)
 ·have e:i=m.length:=by
   rcases Pz i (m++[p]).length with z | z
   ·simp at z;lia
   ·rw[Pa z] at e1;cases e1
  subst e
  simp at e1
  rw[R.len] at e2
  simp at e2
  subst e1 e2
  exact r
theorem RH.NF (R:RH K m H h) (hp:H p=none) (r:RDs K m H vs xs):RH K (m++[p]) (upd H p (.lst vs)) (h++[.l xs]) :=
 R.FW hp ⟨vs,aJ,r.ext (gE hp)⟩
theorem TB.set (hm:∃ u,H a=some u/\FU u=true) {K:OX} (h:TB K H):TB K (upd H a o):=by
 obtain ⟨w,hw,hu⟩:=hm
 refine h.mono (fun P ps e=>?_) fun b ob _ _ e=>?_
 ·rw[au (fun z=>by subst z;rw[hw] at e;cases e;cases hu)];exact e
 ·rw[au (fun z=>by subst z;rw[hw] at e;cases e;cases hu)];exact e
theorem i9 (ha:a∈m):Ext m H m (upd H a o) :=
 ⟨⟨[],by simp,by simp⟩,fun b u q n _=>by
  have ne:b≠a:=by
   intro e
   subst e
   exact n ha
  rw[au ne];exact q,fun b q=>by
  by_cases e:b=a
  ·subst e;rw[aJ] at q;cases q
  ·rw[au e] at q;exact q⟩
theorem fF (ha:a∈m) (h:H a=some (.lst us)):Ext m H m (upd H a (.lst vs)):=i9 ha
theorem RH.setC {h:BT.HH} (R:RH K m H h) {n:Nat}{a:O9}{o:HO}{c:BT.Cl} (hn:m[n]?=some a) (r:gD K m (upd H a o) a c):RH K m (upd H a o) (h.set n c):=by
 have x:Ext m H m (upd H a o):=i9 (Pb hn)
 refine ⟨R.nd,by simp[R.len],fun i b ys e1 e2=>?_,R.tb.set (R.mu (Pb hn))⟩
 by_cases c:i=n
 ·subst c
  rw[hn] at e1;cases e1
  have hl:i < h.length:=by
   rw[← R.len]
   rcases Pz i m.length with z | z
   ·exact z
   ·rw[Pa z] at hn;cases hn
  rw[P7 hl] at e2
  cases e2
  exact r
 ·rw[PX (Qp c)] at e2
  have ne:b≠a:=by
   intro e
   subst e
   exact c (ng R.nd e1 hn)
  exact (R.cl i b ys e1 e2).ext x (au ne)
theorem RH.set (R:RH K m H h) (hn:m[n]?=some a) (hH:H a=some (.lst us)) (r:RDs K m H vs xs):RH K m (upd H a (.lst vs)) (h.set n (.l xs)) :=
 R.setC hn ⟨vs,aJ,r.ext (fF (Pb hn) hH)⟩
end
end BS
end
section
namespace BS
open PySem PySem.Spec PyProof.Rows L2 PySem.SeqAt
theorem j7 {E:Value->O4->Prop} (f:Nat->β->Sem (ForInStep β)) (n:Nat) (I:Nat->β->O4->Prop) (Q:β->O4->Prop)
 (turn:∀ i b s,i < n->I i b s->wpAny M A (f i b) (fun r s'=>match r with | .yield b'=>I (i+1) b' s' | .done b'=>Q b' s') E s)
 (fin:∀ b s,I n b s->Q b s) (b:β) (h:I 0 b s):wpAny M A (forIn [:n] b f) Q E s:=by
 rw[Std.Legacy.Range.forIn_eq_forIn_range']
 have e:QF [:n].start [:n].size [:n].step=QF 0 (n - 0):=by simp[Std.Legacy.Range.size]
 rw[e]
 refine wpAny_forIn_list f (fun rest b s=>∃ i,i<=n/\rest=QF i (n - i)/\I i b s) Q (fun x rest b s ⟨i,hi,hr,q⟩=>?_) (fun b s ⟨i,hi,hr,q⟩=>?_) _ b ⟨0,QU _,rfl,h⟩
 ·have hlt:i < n:=by
   rcases Pz i n with z | z
   ·exact z
   ·rw[show n - i=0 by lia] at hr;simp at hr
  rw[show n - i=(n - (i+1))+1 by lia,T9] at hr
  injection hr with e1 e2
  subst e1
  refine wpAny_mono (turn x b s hlt q) (fun r s' z=>?_) fun _ _ z=>z
  cases r with
  | yield b'=>exact ⟨x+1,hlt,e2,z⟩
  | done b'=>exact z
 ·have:i=n:=by
   rcases Pz i n with z | z
   ·rw[show n - i=(n - (i+1))+1 by lia,T9] at hr;simp at hr
   ·lia
  subst this
  exact fin b s q
theorem mE (l:O9) (items:Array Value) (n:Nat) (dd:Option O9) (sl:Array (Option Value)) (x:Value) (e:Value->Bool) (j:Nat) (hj:j < items.size)
 (hit:e items[j]=true) (hno:∀ m (hm:m < items.size),m < j->e items[m]=false) :
 Meets (Builtin.«tuple.index» ⟨[.ref l,x],[]⟩)
  (fun A R s=>s.heap.get? l=some { cls:=.type "tuple",dict:=dd,data:=.seq items n,slots:=sl }/\(∀ y,y∈items->EqAt A.in1 s y x (e y))/\R (.ok (.ret (.int j s.toks))) { s with toks:=s.toks+1 }) :=
 .of_wp fun prog w A R s h=>by
 obtain ⟨hp,g,d,tk,os⟩:=s;obtain ⟨hl,he,h⟩:=h
 wp_walk using Rq hl,j7 _ _ (fun i b s'=>i<=j/\b.1=none/\s'=⟨hp,g,d,tk,os⟩) _
 case turn =>
  rintro i b s' hi ⟨hij,hb,rfl⟩
  have hi':i < items.size:=by lia
  rw[Array.getElem?_eq_getElem hi']
  refine O0 (he _ (Array.getElem_mem hi') prog w _ _ ?_)
  by_cases c:i=j
  ·subst c
   rw[hit]
   wp_walk
   exact ⟨_,rfl,h⟩
  ·rw[hno i hi' (by lia)]
   wp_walk
   exact ⟨by lia,rfl,rfl⟩
 case fin =>
  rintro b s' ⟨hij,_,_⟩
  lia
 case h=>exact ⟨QU _,rfl,rfl⟩
theorem sf (l:O9) (items:Array Value) (n:Nat) (dd:Option O9) (sl:Array (Option Value)) (k:Int) (t:Tok) (h1:-1000<=k) (h2:k<=1000) (c1:¬ items.isEmpty=true) (c2:k≠1) (c3:0 < k) (hz:items.size*k.toNat<=sizeLine) :
 Meets (Builtin.«tuple.__mul__» ⟨[.ref l,.int k t],[]⟩)
  (fun A R s=>s.heap.get? l=some { cls:=.type "tuple",dict:=dd,data:=.seq items n,slots:=sl }/\R (.ok (.ret (.ref s.heap.objs.size))) { s with heap:=s.heap.push { cls:=.type "tuple",data:=.seq ((Pi k.toNat items).foldl (fun x1 x2=>x1++x2) #[]) } }) :=
 .of_wp fun prog w A R s h=>by
 obtain ⟨hp,g,d,tk,os⟩:=s;obtain ⟨hl,h⟩:=h
 have f1:=U9
 have a1:¬ (decide (k < -2 ^ 63)||decide (k ≥ 2 ^ 63))=true:=by simp;lia
 have a2:¬ (items.isEmpty||k==1)=true:=by simp at c1 ⊢;exact ⟨c1,c2⟩
 have a3:¬ (decide (k<=0)||items.isEmpty)=true:=by simp at c1 ⊢;exact ⟨by lia,c1⟩
 have kk:(k.toNat:Int)=k:=by lia
 have a4:¬ ((items.size:Int)*k > (2 ^ 63 - 1) / 8):=by
  have z:((items.size*k.toNat:Nat):Int)<=(sizeLine:Nat):=Int.ofNat_le.mpr hz
  rw[Int.natCast_mul,kk] at z
  have z2:((sizeLine:Nat):Int)<=(2 ^ 63 - 1) / 8:=by decide
  lia
 have a5:¬ SW ((items.size:Int)*k)=true:=by
  have z:((items.size*k.toNat:Nat):Int)<=(sizeLine:Nat):=Int.ofNat_le.mpr hz
  rw[Int.natCast_mul,kk] at z
  simp only[SW,decide_eq_true_eq]
  lia
 have hsz:sizeOk (.seq ((Pi k.toNat items).foldl (fun x1 x2=>x1++x2) #[])):=by
  show ((Pi k.toNat items).foldl (fun x1 x2=>x1++x2) #[]).size<=sizeLine
  rw[AutoListH.size_joined,Array.size_empty,Q3];lia
 wp_walk using Rq hl
 rw[if_neg a1]
 wp_walk using Rq hl
 refine wpAny_ite_split (fun c=>absurd c ?_) (fun _=>?_)
 ·intro c;have a6:=a4;simp at a6 c;lia
 wp_walk using Rq hl
 refine wpAny_ite_false (decide_eq_false (Nat.not_lt.mpr hsz)) ?_
 wp_walk
 exact ⟨_,rfl,h⟩
theorem jE:fillsNumberSlot (.type "tuple") "mul"=pure false :=
 PySem.fillsNumberSlot_seq (id:="tuple.__mul__") (r:=some (.builtin "tuple.__rmul__")) F.slot_tuple_mul.lookup (by decide +kernel) F.slot_tuple_rmul.lookup (by decide +kernel)
theorem oj:seqRepeat? (.type "tuple")=pure (some (.builtin "tuple.__mul__")):=by
 unfold seqRepeat?
 rw[PySem.seqSlot_of (T:="tuple") (name:="__mul__") (id:="tuple.__mul__") F.slot_tuple_mul.lookup (by decide +kernel),PySem.seqSlot_of (T:="tuple") (name:="__rmul__") (id:="tuple.__rmul__") F.slot_tuple_rmul.lookup (by decide +kernel)]
 rfl
theorem k9 (a:Int) (t:Tok) (l:O9) (items:Array Value) (n:Nat) (dd:Option O9) (sl:Array (Option Value)) :
 Meets (Builtin.«int.__rmul__» ⟨[.int a t,.ref l],[]⟩) (fun _ R s=>s.heap.get? l=some { cls:=.type "tuple",dict:=dd,data:=.seq items n,slots:=sl }/\R (.ok (.ret Value.notImplemented)) s) :=
 .of_wp fun prog w A R s h=>by obtain ⟨hp,g,d,tk,os⟩:=s;obtain ⟨hl,h⟩:=h;wp_walk;exact ⟨_,rfl,h⟩
theorem j8 (l:O9) (items:Array Value) (n:Nat) (b:O9) (items2:Array Value) (n2:Nat) (dd:Option O9) (sl:Array (Option Value)) (hs0:¬(!items.isEmpty&&Qk (items.size+items2.size))=true) (hs1:items.size<=sizeLine) (hs2:items.size+items2.size<=sizeLine+1) :
 Meets (Builtin.«list.extend» ⟨[.ref l,.ref b],[]⟩) (fun _ R s=>s.heap.get? l=some { cls:=.type "list",dict:=none,data:=.seq items n,slots:=#[] }/\s.heap.get? b=some { cls:=.type "tuple",dict:=dd,data:=.seq items2 n2,slots:=sl }/\R (.ok (.ret Uv)) { s with heap:=s.heap.update l (Ri fun x=>x++items2),toks:=s.toks }) :=
 .of_wp fun prog w A R s h=>by
  obtain ⟨hp,g,d,tk,os⟩:=s;obtain ⟨hl,hb,h⟩:=h;have f1:=U9;have f2:=AutoSeq1.sub_tuple_tuple;have f3:=AutoSeq1.sub_list_list;have f4:=AutoSeq1.sub_tuple_list;have f5:=AutoSeq1.sub_list_tuple
  have hz':(items++items2).size<=sizeLine+1:=by rw[Array.size_append];exact hs2
  wp_walk using (R8 hl rfl (hz:=hs1) (_hz':=hz')),Rq hl,Rq hb;exact ⟨_,rfl,h⟩
end BS
end
section
namespace BS
open PySem PySem.Spec PyProof.Rows L2
inductive Bnd {α β:Type} (x:Option (α×BT.HH)) (k:α->BT.HH->Option β) (r:β):Prop where
 | mk (a:α) (g:BT.HH) (h1:x=some (a,g)) (h2:k a g=some r):Bnd x k r
inductive J3 {α β:Type} (x:Option α) (f:α->β) (r:β):Prop where
 | mk (a:α) (h1:x=some a) (h2:f a=r):J3 x f r
inductive Bind (o:BT.Bin) (x y:BT.W) (h:BT.HH) (z:BT.W) (h':BT.HH):Prop where
 | mk (d d' q:BT.D) (h1:BT.rd x h=some d) (h2:BT.rd y h=some d') (h3:BT.jB o d d'=some q) (h4:z=.p q) (h5:h'=h):Bind o x y h z h'
theorem ai {α β:Type}{x:Option (α×BT.HH)}{k:α->BT.HH->Option β}{r:β} (h:BT.bnd x k=some r):Bnd x k r:=by
 cases x with
 | none=>cases h
 | some q=>exact ⟨q.1,q.2,rfl,h⟩
theorem az {α β:Type}{x:Option α}{f:α->β}{r:β} (h:x.map f=some r):J3 x f r:=by
 cases x with
 | none=>cases h
 | some a=>exact ⟨a,rfl,O5 h⟩
noncomputable def Post (P:Pv) (w:P0) (K:OX) (m:List O9) (H:Hp) (z:BT.W) (h':BT.HH) (Q:VK):Prop :=
 ∀ v H' m',Ext m H m' H'->RH K m' H' h'->RW P w K m' H' v z->Q v H'
inductive rOp (P:Pv) (w:P0) (K:OX) (f:BT.W->BT.W->BT.HH->Option (BT.W×BT.HH)) (v u:V) (H:Hp) (Q:VK):Prop where
 | mk (m:List O9) (h:BT.HH) (x y z:BT.W) (h':BT.HH) (R:RH K m H h) (rx:RW P w K m H v x) (ry:RW P w K m H u y) (e:f x y h=some (z,h')) (p:Post P w K m H z h' Q):rOp P w K f v u H Q
theorem gU {o:BT.Bin}{x y:BT.W}{h:BT.HH}{z:BT.W}{h':BT.HH} (e:BT.mw o x y h=some (z,h')):Bind o x y h z h':=by
 unfold BT.mw at e
 cases e1:BT.rd x h with
 | none=>rw[e1] at e;cases e
 | some d =>
  cases e2:BT.rd y h with
  | none=>rw[e1,e2] at e;cases e
  | some d' =>
   rw[e1,e2] at e
   obtain ⟨q,eq,er⟩:=az e
   cases er
   exact ⟨d,d',q,e1,e2,eq,rfl,rfl⟩
section
variable {X:Cx}
theorem cu:BT.lim<=sizeLine:=by decide
inductive J4 (s:O4) (a:O9) (xs:List V):Prop where
 | mk (z:xs.length<=sizeLine) (its:List Value) (n:Nat) (r:ao xs its) (l:xs.length=its.length) (e:s.heap.get? a=some { cls:=.type "list",data:=.seq its.toArray n }):J4 s a xs
theorem rdL (I:Inv X pins σ H s) (r:LL X.K H a xs):J4 s a xs:=by
 rcases r with r | ⟨its,n,h1,h2,h3⟩
 ·obtain ⟨z,its,n,r,e⟩:=r.ok I.hok
  exact ⟨z,its,n,r,r.length,e⟩
 ·exact ⟨by rw[h3.length];exact h2,its,n,h3,h3.length,I.kIn a _ h1⟩
theorem qh (I:Inv X pins σ H s) (ha:LL X.K H a xs) (hb:LL X.K H b ys) (hz:xs.length+ys.length<=sizeLine)
 (q:∀ p,H p=none->Q (.ref p) (upd H p (.lst (xs++ys)))):wpAny (Pp X.prog X.w) X.A (Qq .Add (.ref a) (.ref b)) (EP X pins σ Q) X.xe s:=by
 obtain ⟨z,its,n,r,hl,e⟩:=rdL I ha
 obtain ⟨z2,its2,n2,r2,hl2,e2⟩:=rdL I hb
 refine PySem.P.add_list e e2 ?_ (by rw[O2,O2];lia)
 have ea:its.toArray++its2.toArray=(its++its2).toArray:=by simp
 rw[ea]
 exact ⟨.ref _,_,I.Jf (t':=s.toks) (r.append r2) (by rw[PJ];lia),rfl,q _ I.fresh⟩
theorem vN (I:Inv X pins σ H s) (ha:SqT X.K H a xs) (hb:SqT X.K H b ys) (hz:xs.length+ys.length<=sizeLine)
 (q0:xs=[]->Q (.ref b) H) (q1:ys=[]->Q (.ref a) H) (q:∀ p,H p=none->Q (.ref p) (upd H p (.tup (xs++ys)))):wpAny (Pp X.prog X.w) X.A (Qq .Add (.ref a) (.ref b)) (EP X pins σ Q) X.xe s:=by
 by_cases c:xs=[]
 ·obtain ⟨its,r1,p1,_⟩:=I.tuple ha
  obtain ⟨its2,r2,p2,_⟩:=I.tuple hb
  obtain ⟨⟨cls,dd,data,sl⟩,ho,hc,n,hd⟩:=id p1
  obtain ⟨⟨cls2,dd2,data2,sl2⟩,ho2,hc2,n2,hd2⟩:=id p2
  simp only at hc hd hc2 hd2
  subst hc hd hc2 hd2
  have z:its=[]:=r1.iY.mpr c
  exact concat_meets ⟨_,ho,rfl⟩ ⟨_,ho2,rfl⟩ UB Vo Sk Si (RZ _ _)
   (tuple_addW0 a b its.toArray its2.toArray n n2 dd dd2 sl sl2 (by simp[z])) ⟨ho,ho2,⟨.ref b,H,I,rfl,q0 c⟩⟩
 ·exact Bu pins s σ H (.ref a) (.ref b) _ _ Q I rfl rfl ⟨a,b,xs,ys,rfl,rfl,ha,hb,c,hz,q1,fun _=>q⟩
theorem ja (R:RH X.K m H h) (hp:H p=none) (r:RDs X.K m H vs ds) (post:Post X.prog X.w X.K m H (.p (.tup ds)) h Q):Q (.ref p) (upd H p (.tup vs)) :=
 post _ _ m (fR hp) (R.new hp) (.p (.tup (.inl ⟨.inl aJ,R.c9 hp⟩) (r.ext (fR hp))))
theorem gV (R:RH X.K m H h) (hp:H p=none) (r:RDs X.K m H vs ds) (post:Post X.prog X.w X.K m H (.p (.lst ds)) h Q):Q (.ref p) (upd H p (.lst vs)) :=
 post _ _ m (fR hp) (R.new hp) (.p (.lst (.inl ⟨.inl aJ,R.c9 hp⟩) (r.ext (fR hp))))
theorem ug (R:RH X.K m H h) (hp:H p=none) (r:RDs X.K m H vs ds) (post:Post X.prog X.w X.K m H (.r h.length) (h++[.l ds]) Q):Q (.ref p) (upd H p (.lst vs)) :=
 post _ _ (m++[p]) (gE hp) (R.NF hp r) (.r (by rw[← R.len];simp))
theorem fS (R:RH X.K m H h) (hp:H p=none) (r:RDs X.K m H vs ds) (post:Post X.prog X.w X.K m H (BT.new mu ds h).1 (BT.new mu ds h).2 Q):Q (.ref p) (upd H p (.lst vs)):=by
 cases mu with
 | false=>exact gV R hp r post
 | true=>exact ug R hp r post
theorem Post.here (R:RH X.K m H h) (post:Post X.prog X.w X.K m H (.p d) h Q) (r:RD X.K m H v d):Q v H:=post v H m (.refl _ _) R (.p r)
theorem om (hx:PyData.strOk x=true) (hy:PyData.strOk y=true):PyData.strOk (x++y)=true:=by
 show (x.cps++y.cps).all _=true
 rw[Array.all_append]
 simp only[PyData.strOk] at hx hy
 rw[hx,hy];rfl
theorem FY:OpR X (Qq .Add) (rOp X.prog X.w X.K BT.BW):=by
 intro pins s σ H v u v' u' Q I rv ru h
 obtain ⟨m,h,x,y,z,h',R,rx,ry,e,post⟩:=h
 unfold BT.BW at e
 cases e1:BT.rd x h with
 | none=>rw[e1] at e;cases e
 | some d =>
  cases e2:BT.rd y h with
  | none=>rw[e1,e2] at e;cases d<;>cases e
  | some d' =>
   rw[e1,e2] at e
   have r1:=aH R rx e1
   have r2:=aH R ry e2
   cases d<;>cases d'<;>first | (cases e;done) | skip
   simp only at e
   split at e
   ·rename_i c
    obtain ⟨a,vs,rfl,ha,ra⟩:=r1.lst
    obtain ⟨b,us,rfl,hb,rb⟩:=r2.lst
    cases rv;cases ru
    have l1:=ra.length
    have l2:=rb.length
    have:=cu
    have ez:=O5 e
    exact qh I ha hb (by lia) fun p hp=>fS (mu:=true) R hp (ra.append rb) (by rw[ez];exact post)
   ·cases e
theorem FZ:OpR X (Qq .Add) (rOp X.prog X.w X.K (BT.mw .add)):=by
 intro pins s σ H v u v' u' Q I rv ru h
 obtain ⟨m,h,x,y,z,h',R,rx,ry,e,post⟩:=h
 obtain ⟨d,d',q,e1,e2,e3,rfl,rfl⟩:=gU e
 have r1:=aH R rx e1
 have r2:=aH R ry e2
 cases d<;>cases d'<;>first | (cases e3;done) | simp only[BT.fq,BT.cN,BT.cO,BT.cQ,BT.fu,BT.fy,BT.cR,BT.cS,BT.fB,BT.dO,BT.fC] at e3
 ·cases e3
  cases r1.int;cases r2.int
  exact EY pins s σ H _ _ _ _ Q I rv ru ⟨_,_,rfl,rfl,post.here R (.int _)⟩
 ·split at e3
  ·rename_i c
   cases e3
   obtain ⟨ev,ov⟩:=r1.str
   obtain ⟨eu,ou⟩:=r2.str
   subst ev;subst eu
   have:=cu
   exact rE pins s σ H _ _ _ _ Q I rv ru ⟨_,_,rfl,rfl,by lia,post.here R (.str _ (om ov ou))⟩
  ·cases e3
 ·split at e3
  ·rename_i c
   cases e3
   obtain ⟨a,vs,rfl,ha,ra⟩:=r1.tup
   obtain ⟨b,us,rfl,hb,rb⟩:=r2.tup
   cases rv;cases ru
   have l1:=ra.length
   have l2:=rb.length
   have:=cu
   refine vN I ha hb (by lia) (fun z=>?_) (fun z=>?_) fun p hp=>ja R hp (ra.append rb) post
   ·subst z;cases ra
    cases r2 with | d r=>exact post.here R r
   ·subst z;cases rb
    rw[PY] at post
    cases r1 with | d r=>exact post.here R r
  ·cases e3
 ·split at e3
  ·rename_i c
   cases e3
   obtain ⟨a,vs,rfl,ha,ra⟩:=r1.lst
   obtain ⟨b,us,rfl,hb,rb⟩:=r2.lst
   cases rv;cases ru
   have l1:=ra.length
   have l2:=rb.length
   have:=cu
   exact qh I ha hb (by lia) fun p hp=>gV R hp (ra.append rb) post
  ·cases e3
theorem F0:OpR X (Qq .Sub) (rOp X.prog X.w X.K (BT.mw .sub)):=by
 intro pins s σ H v u v' u' Q I rv ru h
 obtain ⟨m,h,x,y,z,h',R,rx,ry,e,post⟩:=h
 obtain ⟨d,d',q,e1,e2,e3,rfl,rfl⟩:=gU e
 have r1:=aH R rx e1
 have r2:=aH R ry e2
 cases d<;>cases d'<;>first | (cases e3;done) | simp only[BT.fq,BT.cN,BT.cO,BT.cQ,BT.fu,BT.fy,BT.cR,BT.cS,BT.fB,BT.dO,BT.fC] at e3
 cases e3
 cases r1.int;cases r2.int
 exact EZ pins s σ H _ _ _ _ Q I rv ru ⟨_,_,rfl,rfl,post.here R (.int _)⟩
theorem F2:OpR X (Qq .Mod) (rOp X.prog X.w X.K (BT.mw .mod)):=by
 intro pins s σ H v u v' u' Q I rv ru h
 obtain ⟨m,h,x,y,z,h',R,rx,ry,e,post⟩:=h
 obtain ⟨d,d',q,e1,e2,e3,rfl,rfl⟩:=gU e
 have r1:=aH R rx e1
 have r2:=aH R ry e2
 cases d<;>cases d'<;>first | (cases e3;done) | simp only[BT.fq,BT.cN,BT.cO,BT.cQ,BT.fu,BT.fy,BT.cR,BT.cS,BT.fB,BT.dO,BT.fC] at e3
 split at e3
 ·rename_i c
  cases e3
  cases r1.int;cases r2.int
  exact E3 pins s σ H _ _ _ _ Q I rv ru ⟨_,_,rfl,rfl,c,post.here R (.int _)⟩
 ·cases e3
theorem B4:OpR X (Qq .FloorDiv) (rOp X.prog X.w X.K (BT.mw .fdiv)):=by
 intro pins s σ H v u v' u' Q I rv ru h
 obtain ⟨m,h,x,y,z,h',R,rx,ry,e,post⟩:=h
 obtain ⟨d,d',q,e1,e2,e3,rfl,rfl⟩:=gU e
 have r1:=aH R rx e1
 have r2:=aH R ry e2
 cases d<;>cases d'<;>first | (cases e3;done) | simp only[BT.fq,BT.cN,BT.cO,BT.cQ,BT.fu,BT.fy,BT.cR,BT.cS,BT.fB,BT.dO,BT.fC] at e3
 split at e3
 ·rename_i c
  simp only[OY,decide_eq_true_eq] at c
  cases e3
  cases r1.int;cases r2.int
  exact Bh pins s σ H _ _ _ _ Q I rv ru ⟨_,_,rfl,rfl,⟨c.1,c.2⟩,post.here R (.int _)⟩
 ·cases e3
theorem oq (h:BT.big i=true):-(2 ^ 64) < i/\i < 2 ^ 64:=by
 unfold BT.big at h
 have:=of_decide_eq_true h
 lia
theorem F3:OpR X (Qq .Pow) (rOp X.prog X.w X.K (BT.mw .pow)):=by
 intro pins s σ H v u v' u' Q I rv ru h
 obtain ⟨m,h,x,y,z,h',R,rx,ry,e,post⟩:=h
 obtain ⟨d,d',q,e1,e2,e3,rfl,rfl⟩:=gU e
 have r1:=aH R rx e1
 have r2:=aH R ry e2
 cases d<;>cases d'<;>first | (cases e3;done) | simp only[BT.fq,BT.cN,BT.cO,BT.cQ,BT.fu,BT.fy,BT.cR,BT.cS,BT.fB,BT.dO,BT.fC] at e3
 split at e3
 ·rename_i c
  simp only[OY,decide_eq_true_eq] at c
  cases e3
  cases r1.int;cases r2.int
  refine E4 pins s σ H _ _ _ _ Q I rv ru ⟨_,_,rfl,rfl,⟨c.1.1,by lia,?_⟩,post.here R (.int _)⟩
  exact of_decide_eq_true c.2
 ·cases e3
theorem vO (I:Inv X pins σ H s) (ha:SqT X.K H a xs) (h1:2<=k) (h2:k<=1000) (hne:xs≠[]) (hz:xs.length*k.toNat<=sizeLine)
 (q:∀ p,H p=none->Q (.ref p) (upd H p (.tup (Pi k.toNat xs).flatten))):wpAny (Pp X.prog X.w) X.A (Qq .Mult (.ref a) (.int k t)) (EP X pins σ Q) X.xe s:=by
 obtain ⟨its,r,p,_⟩:=I.tuple ha
 obtain ⟨⟨cls,dd,data,sl⟩,e,hc,n,hd⟩:=id p
 simp only at hc hd
 subst hc hd
 have hl:=r.length
 have hlen:its.toArray.size*k.toNat<=sizeLine:=by rw[O2,← hl];exact hz
 have f0:UD (fun x1 x2=>x1++x2) #[] (Pi k.toNat its.toArray)=(Pi k.toNat its).flatten.toArray:=by
  have:=foldl_rep its k.toNat []
  rw[Rk] at this
  exact this
 have hi:¬ its.toArray.isEmpty=true:=by
  intro z
  have z2:its=[]:=by simpa using z
  exact hne (r.iY.mp z2)
 refine U1 (T:="tuple") (U:="int") (by decide) ⟨_,e,rfl⟩ (fun s'=>typeIs_int s' k t) jE F.fills_int_mul F.slot_int_rmul oj F.slot_int_index.lookup
  (Q9 F.slot_int_rmul (typeIs_int s k t) F.entry_int_rmul (F.args_int_rmul_2 _ _) (k9 k t a its.toArray n dd sl)
   ⟨e,rfl,⟨_,e,rfl⟩,Q9 F.slot_tuple_mul ⟨_,e,rfl⟩ F.entry_tuple_mul (F.args_tuple_mul_2 _ _) (sf a its.toArray n dd sl k t (by lia) h2 hi (by lia) (by lia) hlen) ⟨e,?_⟩⟩)
 rw[f0]
 have hf:H s.heap.objs.size=none:=I.hok.fresh (O8 _)
 refine ⟨.ref s.heap.objs.size,_,I.laid (t':=s.toks) (o:=.tup (Pi k.toNat xs).flatten) (fun b ob q=>OZ _ q) (O8 _) ?_,rfl,q _ hf⟩
 exact ⟨by rw[len_rep,Q3];exact hz,_,r.rep k.toNat,IsTup.new _ _⟩
theorem yE (I:Inv X pins σ H s) (hH:LL X.K H l xs) (h1:-(2 ^ 63)<=k) (h2:k<=1000) (hz:xs.length*k.toNat<=sizeLine)
 (q:∀ p,H p=none->Q (.ref p) (upd H p (.lst (Pi k.toNat xs).flatten))):wpAny (Pp X.prog X.w) X.A (Qq .Mult (.ref l) (.int k t)) (EP X pins σ Q) X.xe s:=by
 have h2':k < 2 ^ 63:=by lia
 obtain ⟨z,its,n,r,hl,e⟩:=rdL I hH
 have hlen:its.toArray.size*k.toNat<=sizeLine:=by rw[O2,← hl];exact hz
 have hcap:¬ its.toArray.size*k.toNat > (2 ^ 63 - 1) / 8:=by
  have:(sizeLine:Nat)<=(2 ^ 63 - 1) / 8:=by decide
  lia
 have hfit:¬ (!Builtin.List.listFitsIndex k)=true:=by
  rw[fitsIndex_both h1 h2']
  exact QD
 have hlong:¬ Qk (its.toArray.size*k.toNat)=true:=by
  rw[kT hlen]
  exact QD
 have hnew:UD (fun x1 x2=>x1++x2) #[] (Pi (if its.toArray.isEmpty=true then 0 else k.toNat) its.toArray)=(Pi k.toNat its).flatten.toArray:=by
  have f0:∀ m:Nat,UD (fun x1 x2=>x1++x2) #[] (Pi m its.toArray)=(Pi m its).flatten.toArray:=fun m=>by
   have:=foldl_rep its m []
   rw[Rk] at this
   exact this
  rw[f0]
  cases its with
  | nil=>simp
  | cons a r'=>rw[if_neg (by simp)]
 refine U1 (T:="list") (U:="int") (by decide) ⟨_,e,rfl⟩ (fun s'=>typeIs_int s' k t) noFill_list_mul F.fills_int_mul F.slot_int_rmul repeat_list F.slot_int_index.lookup
  (Q9 F.slot_int_rmul (typeIs_int s k t) F.entry_int_rmul (F.args_int_rmul_2 _ _) (int___rmul___int_list k t l its.toArray n)
   ⟨e,rfl,⟨_,e,rfl⟩,Q9 F.slot_list_mul ⟨_,e,rfl⟩ F.entry_list_mul (F.args_list_mul_2 _ _) (AutoListH.list___mul___list_int_3 l its.toArray n k t hfit hcap hlong) ⟨e,?_⟩⟩)
 rw[hnew]
 exact ⟨.ref _,_,I.Jf (t':=s.toks) (r.rep k.toNat) (by rw[len_rep,Q3];exact hz),rfl,q _ I.fresh⟩
theorem F4:OpR X (Qq .Mult) (rOp X.prog X.w X.K (BT.mw .mul)):=by
 intro pins s σ H v u v' u' Q I rv ru h
 obtain ⟨m,h,x,y,z,h',R,rx,ry,e,post⟩:=h
 obtain ⟨d,d',q,e1,e2,e3,rfl,rfl⟩:=gU e
 have r1:=aH R rx e1
 have r2:=aH R ry e2
 cases d<;>cases d'<;>first | (cases e3;done) | simp only[BT.fq,BT.cN,BT.cO,BT.cQ,BT.fu,BT.fy,BT.cR,BT.cS,BT.fB,BT.dO,BT.fC] at e3
 ·split at e3
  ·rename_i c
   cases e3
   cases r1.int;cases r2.int
   refine E2 pins s σ H _ _ _ _ Q I rv ru ⟨_,_,rfl,rfl,?_,post.here R (.int _)⟩
   rcases QL _ _ ▸ c with c | c
   ·exact .inl (oq c)
   ·exact .inr (oq c)
  ·cases e3
 ·split at e3
  ·rename_i c
   simp only[OY,decide_eq_true_eq] at c
   cases e3
   obtain ⟨a,vs,rfl,ha,ra⟩:=r1.tup
   cases r2.int
   obtain ⟨t,rfl⟩:=ru
   cases rv
   have l1:=ra.length
   have:=cu
   simp only[Q6,List.isEmpty_eq_false_iff] at c
   refine vO I ha (by lia) (by lia) (fun z=>?_) (by rw[l1];lia) fun p hp=>ja R hp (ra.rep _) post
   subst z
   cases ra
   exact c.1.2 rfl
  ·cases e3
 ·split at e3
  ·rename_i c
   simp only[OY,decide_eq_true_eq] at c
   cases e3
   obtain ⟨a,vs,rfl,ha,ra⟩:=r1.lst
   cases r2.int
   obtain ⟨t,rfl⟩:=ru
   cases rv
   have l1:=ra.length
   have:=cu
   refine yE I ha (by lia) (by lia) (by rw[l1];lia) fun p hp=>gV R hp (ra.rep _) post
  ·cases e3
end
mutual
noncomputable def pd:BT.D->PyData
 | .non=>.none
 | .bl b=>.bool b
 | .int i=>.int i
 | .str x=>.str x
 | .tup xs=>.tuple (pds xs)
 | .lst xs=>.list (pds xs)
noncomputable def pds:List BT.D->List PyData
 | []=>[]
 | x :: r=>pd x :: pds r
end
mutual
theorem lq:∀ x y:BT.D,PyData.eqv (pd x) (pd y)=BT.eqv x y
 | .non,.non=>rfl
 | .non,.bl _=>rfl
 | .non,.int _=>rfl
 | .non,.str _=>rfl
 | .non,.tup _=>by simp[pd,PyData.eqv,BT.eqv]
 | .non,.lst _=>by simp[pd,PyData.eqv,BT.eqv]
 | .bl _,.non=>rfl
 | .bl _,.bl _=>rfl
 | .bl _,.int _=>rfl
 | .bl _,.str _=>rfl
 | .bl _,.tup _=>by simp[pd,PyData.eqv,BT.eqv]
 | .bl _,.lst _=>by simp[pd,PyData.eqv,BT.eqv]
 | .int _,.non=>rfl
 | .int _,.bl _=>rfl
 | .int _,.int _=>rfl
 | .int _,.str _=>rfl
 | .int _,.tup _=>by simp[pd,PyData.eqv,BT.eqv]
 | .int _,.lst _=>by simp[pd,PyData.eqv,BT.eqv]
 | .str _,.non=>rfl
 | .str _,.bl _=>rfl
 | .str _,.int _=>rfl
 | .str _,.str _=>rfl
 | .str _,.tup _=>by simp[pd,PyData.eqv,BT.eqv]
 | .str _,.lst _=>by simp[pd,PyData.eqv,BT.eqv]
 | .tup _,.non=>by simp[pd,PyData.eqv,BT.eqv]
 | .tup _,.bl _=>by simp[pd,PyData.eqv,BT.eqv]
 | .tup _,.int _=>by simp[pd,PyData.eqv,BT.eqv]
 | .tup _,.str _=>by simp[pd,PyData.eqv,BT.eqv]
 | .tup xs,.tup ys=>by simp only[pd,PyData.eqv,BT.eqv];exact oz xs ys
 | .tup _,.lst _=>by simp[pd,PyData.eqv,BT.eqv]
 | .lst _,.non=>by simp[pd,PyData.eqv,BT.eqv]
 | .lst _,.bl _=>by simp[pd,PyData.eqv,BT.eqv]
 | .lst _,.int _=>by simp[pd,PyData.eqv,BT.eqv]
 | .lst _,.str _=>by simp[pd,PyData.eqv,BT.eqv]
 | .lst _,.tup _=>by simp[pd,PyData.eqv,BT.eqv]
 | .lst xs,.lst ys=>by simp only[pd,PyData.eqv,BT.eqv];exact oz xs ys
theorem oz:∀ xs ys:List BT.D,PyData.eqvAll (pds xs) (pds ys)=BT.mq xs ys
 | [],[]=>by simp[pds,PyData.eqvAll,BT.mq]
 | [],_ :: _=>by simp[pds,PyData.eqvAll,BT.mq]
 | _ :: _,[]=>by simp[pds,PyData.eqvAll,BT.mq]
 | x :: xs,y :: ys=>by simp only[pds,PyData.eqvAll,BT.mq];rw[lq x y,oz xs ys]
end
theorem gF:∀ {xs:List BT.D},(∀ x∈xs,(pd x).depth<=n)->PyData.depthAll (pds xs)<=n
 | [],_=>by simp[pds,PyData.depthAll]
 | x :: xs,h=>by
  simp only[pds,PyData.depthAll]
  exact Nat.max_le.mpr ⟨h x Pq,gF fun y hy=>h y (Pc _ hy)⟩
theorem gW:∀ (n:Nat) (d:BT.D),BT.dok n d=true->(pd d).depth<=n
 | n,.non,_=>by simp[pd,PyData.depth]
 | n,.bl _,_=>by simp[pd,PyData.depth]
 | n,.int _,_=>by simp[pd,PyData.depth]
 | n,.str _,_=>by simp[pd,PyData.depth]
 | 0,.tup _,h=>by simp[BT.dok] at h
 | 0,.lst _,h=>by simp[BT.dok] at h
 | n+1,.tup xs,h=>by
  simp only[pd,PyData.depth]
  rw[BT.tX,Qz] at h
  exact Nat.succ_le_succ (gF fun x hx=>gW n x (h x hx))
 | n+1,.lst xs,h=>by
  simp only[pd,PyData.depth]
  rw[BT.tY,Qz] at h
  exact Nat.succ_le_succ (gF fun x hx=>gW n x (h x hx))
section
variable {K:OX}
mutual
theorem dP:∀ {v:V}{d:BT.D},RD K m H v d->(pd d).canLay0=true
 | _,_,.non=>rfl
 | _,_,.bl _=>rfl
 | _,_,.int _=>rfl
 | _,_,.str _ h=>by simpa [pd,PyData.canLay0] using h
 | _,_,.tup _ r=>by simp only[pd,PyData.canLay0];exact fT r
 | _,_,.lst _ r=>by simp only[pd,PyData.canLay0];exact fT r
theorem fT:∀ {vs:List V}{ds:List BT.D},RDs K m H vs ds->PyData.canLayAll0 (pds ds)=true
 | _,_,.nil=>by simp[pds,PyData.canLayAll0]
 | _,_,.cons r t=>by simp only[pds,PyData.canLayAll0];rw[dP r,fT t];rfl
end
mutual
theorem gG (I:Inv X pins σ H s):∀ {v:V}{d:BT.D}{u:Value},RD X.K m H v d->RelV v u->∃ as,Reads s.heap u (pd d) as
 | _,_,_,.non,r=>by cases r;exact ⟨_,.none⟩
 | _,_,_,.bl b,r=>by cases r;exact ⟨_,.bool b⟩
 | _,_,_,.int i,r=>by obtain ⟨t,rfl⟩:=r;exact ⟨_,.int i t⟩
 | _,_,_,.str x _,r=>by obtain ⟨t,rfl⟩:=r;exact ⟨_,.str x t⟩
 | _,_,_,.tup h r,q=>by
  cases q
  obtain ⟨its,r1,⟨o,e1,e2,n,e3⟩,_⟩:=I.tuple (h.elim (fun q=>.inl q.1) (fun ⟨o,its,n,q,_⟩=>.inr ⟨o,its,n,q⟩))
  obtain ⟨as,ra⟩:=gX I r r1
  exact ⟨_,.tuple e1 e2 e3 (by simpa using ra)⟩
 | _,_,_,.lst h r,q=>by
  cases q
  obtain ⟨z,its,n,r1,_,e⟩:=rdL I (h.elim (fun q=>.inl q.1) .inr)
  obtain ⟨as,ra⟩:=gX I r r1
  exact ⟨_,.list e rfl rfl (by simpa using ra)⟩
theorem gX (I:Inv X pins σ H s):∀ {vs:List V}{ds:List BT.D}{us:List Value},RDs X.K m H vs ds->ao vs us->∃ as,ReadsAll s.heap us (pds ds) as
 | _,_,_,.nil,q=>by cases q;exact ⟨_,.nil⟩
 | _,_,_,.cons r t,q=>by
  cases q with
  | cons q1 q2 =>
   obtain ⟨as,ra⟩:=gG I r q1
   obtain ⟨bs,rb⟩:=gX I t q2
   exact ⟨_,.cons ra rb⟩
end
theorem gH (I:Inv X pins σ H s) (r:RR X.K m H v d) (q:RelV v u):∃ as,Reads s.heap u (pd d) as:=by
 cases r with
 | d r=>exact gG I r q
 | l h r =>
  cases q
  obtain ⟨z,its,n,r1,_,e⟩:=rdL I (.inl (.inl h))
  obtain ⟨as,ra⟩:=gX I r r1
  exact ⟨_,.list e rfl rfl (by simpa using ra)⟩
theorem fG (r:RR K m H v d):(pd d).canLay0=true:=by
 cases r with
 | d r=>exact dP r
 | l h r=>simp only[pd,PyData.canLay0];exact fT r
theorem oA (h:BT.aU x y=true):min (pd x).depth (pd y).depth<=100:=by
 unfold BT.aU at h
 rcases QL _ _ ▸ h with h | h
 ·have:=gW 100 x h;lia
 ·have:=gW 100 y h;lia
theorem cV (e:BT.gn o x y h=some (z,h')) :
 (∃ kvs b,y=.k kvs/\BT.inK o x kvs=some b/\z=.p (.bl b)/\h'=h)\/∃ d d' b,BT.rd x h=some d/\BT.rd y h=some d'/\BT.d8 o d d'=some b/\z=.p (.bl b)/\h'=h:=by
 unfold BT.gn at e
 split at e
 ·rename_i kvs
  obtain ⟨b,e1,e2⟩:=az e
  cases e2
  exact .inl ⟨kvs,b,rfl,e1,rfl,rfl⟩
 ·refine .inr ?_
  cases e1:BT.rd x h with
  | none=>rw[e1] at e;cases e
  | some d =>
   cases e2:BT.rd y h with
   | none=>rw[e1,e2] at e;cases e
   | some d' =>
    rw[e1,e2] at e
    obtain ⟨q,eq,er⟩:=az e
    cases er
    exact ⟨d,d',q,rfl,rfl,eq,rfl,rfl⟩
theorem Ka (hu:X.A.units+150 < cLine):OpR X (P4 .Eq) (rOp X.prog X.w X.K (BT.gn .eq)):=by
 intro pins s σ H v u v' u' Q I rv ru h
 obtain ⟨m,h,x,y,z,h',R,rx,ry,e,post⟩:=h
 rcases cV e with ⟨kvs,b,rfl,e1,_,_⟩ | ⟨d,d',b,e1,e2,e3,rfl,rfl⟩
 ·exact absurd e1 (BT.gB rfl)
 ·have r1:=aH R rx e1
  have r2:=aH R ry e2
  rw[BT.nW] at e3
  split at e3
  ·rename_i c
   cases e3
   obtain ⟨as,ra⟩:=gH I r1 rv
   obtain ⟨bs,rb⟩:=gH I r2 ru
   have:=oA c
   refine SeqAt.compareEq_reads ra rb (fG r1) (fG r2) (by lia) ?_
   rw[lq]
   exact ⟨.bl _,H,I,rfl,post.here R (.bl _)⟩
  ·cases e3
theorem Kc (hu:X.A.units+150 < cLine):OpR X (P4 .NotEq) (rOp X.prog X.w X.K (BT.gn .ne)):=by
 intro pins s σ H v u v' u' Q I rv ru h
 obtain ⟨m,h,x,y,z,h',R,rx,ry,e,post⟩:=h
 rcases cV e with ⟨kvs,b,rfl,e1,_,_⟩ | ⟨d,d',b,e1,e2,e3,rfl,rfl⟩
 ·exact absurd e1 (BT.gB rfl)
 ·have r1:=aH R rx e1
  have r2:=aH R ry e2
  rw[BT.nX] at e3
  split at e3
  ·rename_i c
   cases e3
   obtain ⟨as,ra⟩:=gH I r1 rv
   obtain ⟨bs,rb⟩:=gH I r2 ru
   have:=oA c
   refine SeqAt.compareNe_reads ra rb (fG r1) (fG r2) (by lia) ?_
   rw[lq]
   exact ⟨.bl _,H,I,rfl,post.here R (.bl _)⟩
  ·cases e3
theorem Ke:OpR X (P4 .Lt) (rOp X.prog X.w X.K (BT.gn .lt)):=by
 intro pins s σ H v u v' u' Q I rv ru h
 obtain ⟨m,h,x,y,z,h',R,rx,ry,e,post⟩:=h
 rcases cV e with ⟨kvs,b,rfl,e1,_,_⟩ | ⟨d,d',b,e1,e2,e3,rfl,rfl⟩
 ·exact absurd e1 (BT.gB rfl)
 ·have r1:=aH R rx e1
  have r2:=aH R ry e2
  cases d<;>cases d'<;>first | (cases e3;done) | simp only[BT.ef,BT.eg,BT.eB,BT.eH,BT.c6,BT.cC,BT.bx,BT.bJ,BT.bq,BT.br] at e3
  cases e3
  cases r1.int;cases r2.int
  exact IV pins s σ H _ _ _ _ Q I rv ru ⟨_,_,rfl,rfl,post.here R (.bl _)⟩
theorem Kf:OpR X (P4 .LtE) (rOp X.prog X.w X.K (BT.gn .le)):=by
 intro pins s σ H v u v' u' Q I rv ru h
 obtain ⟨m,h,x,y,z,h',R,rx,ry,e,post⟩:=h
 rcases cV e with ⟨kvs,b,rfl,e1,_,_⟩ | ⟨d,d',b,e1,e2,e3,rfl,rfl⟩
 ·exact absurd e1 (BT.gB rfl)
 ·have r1:=aH R rx e1
  have r2:=aH R ry e2
  cases d<;>cases d'<;>first | (cases e3;done) | simp only[BT.ef,BT.eg,BT.eB,BT.eH,BT.c6,BT.cC,BT.bx,BT.bJ,BT.bq,BT.br] at e3
  cases e3
  cases r1.int;cases r2.int
  exact IW pins s σ H _ _ _ _ Q I rv ru ⟨_,_,rfl,rfl,post.here R (.bl _)⟩
theorem Kg:OpR X (P4 .Gt) (rOp X.prog X.w X.K (BT.gn .gt)):=by
 intro pins s σ H v u v' u' Q I rv ru h
 obtain ⟨m,h,x,y,z,h',R,rx,ry,e,post⟩:=h
 rcases cV e with ⟨kvs,b,rfl,e1,_,_⟩ | ⟨d,d',b,e1,e2,e3,rfl,rfl⟩
 ·exact absurd e1 (BT.gB rfl)
 ·have r1:=aH R rx e1
  have r2:=aH R ry e2
  cases d<;>cases d'<;>first | (cases e3;done) | simp only[BT.ef,BT.eg,BT.eB,BT.eH,BT.c6,BT.cC,BT.bx,BT.bJ,BT.bq,BT.br] at e3
  cases e3
  cases r1.int;cases r2.int
  exact IX pins s σ H _ _ _ _ Q I rv ru ⟨_,_,rfl,rfl,post.here R (.bl _)⟩
theorem Kl:OpR X (P4 .GtE) (rOp X.prog X.w X.K (BT.gn .ge)):=by
 intro pins s σ H v u v' u' Q I rv ru h
 obtain ⟨m,h,x,y,z,h',R,rx,ry,e,post⟩:=h
 rcases cV e with ⟨kvs,b,rfl,e1,_,_⟩ | ⟨d,d',b,e1,e2,e3,rfl,rfl⟩
 ·exact absurd e1 (BT.gB rfl)
 ·have r1:=aH R rx e1
  have r2:=aH R ry e2
  cases d<;>cases d'<;>first | (cases e3;done) | simp only[BT.ef,BT.eg,BT.eB,BT.eH,BT.c6,BT.cC,BT.bx,BT.bJ,BT.bq,BT.br] at e3
  cases e3
  cases r1.int;cases r2.int
  exact IY pins s σ H _ _ _ _ Q I rv ru ⟨_,_,rfl,rfl,post.here R (.bl _)⟩
theorem uh (r:RR K m H v d):decide (v=.non)=BT.gw d:=by
 cases r with
 | d r=>cases r<;>rfl
 | l h r=>rfl
theorem B5 {v:V}{d:BT.D}{u:Value}{b:Bool} (r:RR K m H v d) (rv:RelV v u):isSame u (.bool b)=pure (BT.nT b d):=by
 cases r with
 | d r=>cases r<;>first | (cases rv;cases b<;>first | rfl | (rename_i c;cases c<;>rfl)) | (obtain ⟨t,rfl⟩:=rv;cases b<;>rfl)
 | l h r=>cases rv;rfl
theorem F5:OpR X (P4 .Is) (rOp X.prog X.w X.K (BT.gn .isN)):=by
 intro pins s σ H v u v' u' Q I rv ru h
 obtain ⟨m,h,x,y,z,h',R,rx,ry,e,post⟩:=h
 rcases cV e with ⟨kvs,b,rfl,e1,_,_⟩ | ⟨d,d',b,e1,e2,e3,rfl,rfl⟩
 ·exact absurd e1 (BT.gB rfl)
 ·have r1:=aH R rx e1
  have r2:=aH R ry e2
  cases d'<;>first | (cases e3;done) | simp only[BT.ef,BT.eg,BT.eB,BT.eH,BT.c6,BT.cC,BT.bx,BT.bJ,BT.bq,BT.br] at e3
  cases e3
  cases r2.non
  refine E5 pins s σ H _ _ _ _ Q I rv ru ⟨rfl,?_⟩
  rw[uh r1]
  exact post.here R (.bl _)
theorem B6:OpR X (P4 .IsNot) (rOp X.prog X.w X.K (BT.gn .notN)):=by
 intro pins s σ H v u v' u' Q I rv ru h
 obtain ⟨m,h,x,y,z,h',R,rx,ry,e,post⟩:=h
 rcases cV e with ⟨kvs,b,rfl,e1,_,_⟩ | ⟨d,d',b,e1,e2,e3,rfl,rfl⟩
 ·exact absurd e1 (BT.gB rfl)
 ·have r1:=aH R rx e1
  have r2:=aH R ry e2
  cases d'<;>first | (cases e3;done) | simp only[BT.ef,BT.eg,BT.eB,BT.eH,BT.c6,BT.cC,BT.vH,BT.bx,BT.bJ,BT.bq,BT.br] at e3
  ·cases e3
   cases r2.non
   refine Bj pins s σ H _ _ _ _ Q I rv ru ⟨rfl,?_⟩
   rw[uh r1]
   exact post.here R (.bl _)
  ·cases e3
   cases r2.bl
   cases ru
   exact O0 (wpAny_of_eq (B5 r1 rv) (wpAny_pure ⟨.bl _,H,I,rfl,post.here R (.bl _)⟩))
open Classical in
noncomputable def bQ (h:Heap) (dx:PyData) (y:Value):Bool:=if q:∃ db as,Reads h y db as/\db.canLay0=true then PyData.eqv (Classical.choose q) dx else false
theorem sj (r:Reads h y db as) (c:db.canLay0=true):bQ h dx y=PyData.eqv db dx:=by
 have q:∃ db as,Reads h y db as/\db.canLay0=true:=⟨db,as,r,c⟩
 unfold bQ
 rw[dif_pos q]
 obtain ⟨as',r',c'⟩:=Classical.choose_spec q
 rw[SeqAt.Reads.unique _ _ _ _ _ c r r']
theorem jb (I:Inv X pins σ H s):∀ {vs:List V}{ds:List BT.D}{us:List Value},RDs X.K m H vs ds->ao vs us->us.any (bQ s.heap (pd d))=ds.any fun y=>BT.eqv y d
 | _,_,_,.nil,q=>by cases q;rfl
 | _,_,_,.cons r t,q=>by
  cases q with
  | cons q1 q2 =>
   obtain ⟨as,ra⟩:=gG I r q1
   rw[RL,RL,jb I t q2,sj ra (dP r),lq]
theorem eN (hu:X.A.units+150 < cLine) (I:Inv X pins σ H s) (rx:RR X.K m H v d) (rv:RelV v u):∀ {vs:List V}{ds:List BT.D}{us:List Value},RDs X.K m H vs ds->ao vs us->(ds.all fun y=>BT.aU y d)=true →
 ∀ y∈us,SeqAt.EqAt X.A.in1 s y u (bQ s.heap (pd d) y)
 | _,_,_,.nil,q,_=>by cases q;intro y hy;simp at hy
 | _,_,_,.cons r t,q,c=>by
  cases q with
  | cons q1 q2 =>
   rw[UI,OY] at c
   intro y hy
   rcases List.mem_cons.mp hy with rfl | hy
   ·obtain ⟨as,ra⟩:=gG I r q1
    obtain ⟨bs,rb⟩:=gH I rx rv
    rw[sj ra (dP r)]
    have:=oA c.1
    refine SeqAt.eqAt_reads _ _ _ _ _ _ _ _ ra rb (dP r) (fG rx) ?_
    show X.A.units+1+_ < _
    lia
   ·exact eN hu I rx rv t q2 c.2 y hy
theorem F6 (hu:X.A.units+150 < cLine) (hk:∀ {kvs:BT.Kd}{x:BT.W}{b:Bool}{m:List O9}{H:Hp}{v u:V}{v' u':Value}{pins σ s Q},Inv X pins σ H s->RelV v v'->RelV u u'->RW X.prog X.w X.K m H v x->RW X.prog X.w X.K m H u (.k kvs)->BT.inK .mem x kvs=some b->Q (V.bl b) H →
 wpAny (Pp X.prog X.w) X.A (P4 .In v' u') (EP X pins σ Q) X.xe s):OpR X (P4 .In) (rOp X.prog X.w X.K (BT.gn .mem)):=by
 intro pins s σ H v u v' u' Q I rv ru h
 obtain ⟨m,h,x,y,z,h',R,rx,ry,e,post⟩:=h
 rcases cV e with ⟨kvs,b,rfl,e1,rfl,rfl⟩ | ⟨d,d',b,e1,e2,e3,rfl,rfl⟩
 ·exact hk I rv ru rx ry e1 (post.here R (.bl _))
 ·have r1:=aH R rx e1
  have r2:=aH R ry e2
  cases d'<;>first | (cases e3;done) | simp only[BT.ef,BT.eg,BT.eB,BT.eH,BT.c6,BT.cC,BT.bx,BT.bJ,BT.bq,BT.br] at e3
  ·split at e3
   ·rename_i c
    cases e3
    obtain ⟨a,vs,rfl,ha,ra⟩:=r2.tup
    cases ru
    obtain ⟨its,q1,q2,_⟩:=I.tuple ha
    refine SeqAt.in_tupleAt (bQ s.heap (pd d)) q2 (fun y hy=>eN hu I r1 rv ra q1 c y (by simpa using hy)) ⟨.bl _,H,I,rfl,?_⟩
    rw[show its.toArray.any (bQ s.heap (pd d))=its.any (bQ s.heap (pd d)) by simp,jb I ra q1]
    exact post.here R (.bl _)
   ·cases e3
  ·split at e3
   ·rename_i c
    cases e3
    obtain ⟨a,vs,rfl,ha,ra⟩:=r2.lst
    cases ru
    obtain ⟨z,its,n,q1,_,q2⟩:=rdL I ha
    refine SeqAt.in_listAt (bQ s.heap (pd d)) ⟨_,q2,rfl,_,rfl⟩ (fun y hy=>eN hu I r1 rv ra q1 c y (by simpa using hy)) ⟨.bl _,H,I,rfl,?_⟩
    rw[show its.toArray.any (bQ s.heap (pd d))=its.any (bQ s.heap (pd d)) by simp,jb I ra q1]
    exact post.here R (.bl _)
   ·cases e3
theorem B7 (hu:X.A.units+150 < cLine) (hk:∀ {kvs:BT.Kd}{x:BT.W}{b:Bool}{m:List O9}{H:Hp}{v u:V}{v' u':Value}{pins σ s Q},Inv X pins σ H s->RelV v v'->RelV u u'->RW X.prog X.w X.K m H v x->RW X.prog X.w X.K m H u (.k kvs)->BT.inK .nmem x kvs=some b->Q (V.bl b) H →
 wpAny (Pp X.prog X.w) X.A (P4 .NotIn v' u') (EP X pins σ Q) X.xe s):OpR X (P4 .NotIn) (rOp X.prog X.w X.K (BT.gn .nmem)):=by
 intro pins s σ H v u v' u' Q I rv ru h
 obtain ⟨m,h,x,y,z,h',R,rx,ry,e,post⟩:=h
 rcases cV e with ⟨kvs,b,rfl,e1,rfl,rfl⟩ | ⟨d,d',b,e1,e2,e3,rfl,rfl⟩
 ·exact hk I rv ru rx ry e1 (post.here R (.bl _))
 ·have r1:=aH R rx e1
  have r2:=aH R ry e2
  cases d'<;>first | (cases e3;done) | simp only[BT.ef,BT.eg,BT.eB,BT.eH,BT.c6,BT.cC,BT.bx,BT.bJ,BT.bq,BT.br] at e3
  ·split at e3
   ·rename_i c
    cases e3
    obtain ⟨a,vs,rfl,ha,ra⟩:=r2.tup
    cases ru
    obtain ⟨its,q1,q2,_⟩:=I.tuple ha
    refine SeqAt.notIn_tupleAt (bQ s.heap (pd d)) q2 (fun y hy=>eN hu I r1 rv ra q1 c y (by simpa using hy)) ⟨.bl _,H,I,rfl,?_⟩
    rw[show its.toArray.any (bQ s.heap (pd d))=its.any (bQ s.heap (pd d)) by simp,jb I ra q1]
    exact post.here R (.bl _)
   ·cases e3
  ·split at e3
   ·rename_i c
    cases e3
    obtain ⟨a,vs,rfl,ha,ra⟩:=r2.lst
    cases ru
    obtain ⟨z,its,n,q1,_,q2⟩:=rdL I ha
    refine SeqAt.notIn_listAt (bQ s.heap (pd d)) ⟨_,q2,rfl,_,rfl⟩ (fun y hy=>eN hu I r1 rv ra q1 c y (by simpa using hy)) ⟨.bl _,H,I,rfl,?_⟩
    rw[show its.toArray.any (bQ s.heap (pd d))=its.any (bQ s.heap (pd d)) by simp,jb I ra q1]
    exact post.here R (.bl _)
   ·cases e3
end
section
variable {P:Pv}{w:P0}{K:OX}{m m':List O9}{H H':Hp}
theorem RKs.length (r:RKs K m H vs kvs):vs.length=kvs.length:=by
 induction r with
 | nil=>rfl
 | cons _ _ _ ih=>simp[ih]
theorem vP (e:p.1=k):BT.c5 (p :: r) k=some p.2:=by simp[BT.c5,Rl,e]
theorem vQ (e:¬ p.1=k):BT.c5 (p :: r) k=BT.c5 r k:=by simp[BT.c5,Rl,e]
theorem RKs.get (r:RKs K m H vs kvs) (k:Key):(BT.c5 kvs k=none/\pS vs k=none)\/∃ v d,BT.c5 kvs k=some d/\pS vs k=some v/\RD K m H v d:=by
 induction r with
 | nil=>exact .inl ⟨rfl,rfl⟩
 | @cons j v d vs kvs hk r t ih =>
  by_cases c:j=k
  ·exact .inr ⟨v,d,vP c,pT c,r⟩
  ·rw[vQ (p:=(j,d)) c,pU (p:=(j,v)) c];exact ih
theorem su (r:RD K m H v d) (e:BT.j6 d=some k):v=kV k:=by
 cases r<;>cases e<;>rfl
theorem F7 (r:RD K m H v d) (e:BT.j6 d=some k):RD K m H (kV k) (BT.rO k):=by
 cases r with
 | int i=>cases e;exact .int i
 | str x h=>cases e;exact .str x h
 | _=>cases e
inductive yF (X:Cx) (m:List O9) (H:Hp) (s:O4) (a:O9) (kvs:List (BT.Ky×BT.D)) (k:Key):Prop where
 | no (vs:List (Key×Value)) (d:s.heap.DictOf (aF X.prog X.w) a vs) (n:(a==Q0)=false) (e1:BT.c5 kvs k=none) (e2:valueAt vs k=none):yF X m H s a kvs k
 | is (vs:List (Key×Value)) (d:s.heap.DictOf (aF X.prog X.w) a vs) (n:(a==Q0)=false) (x:BT.D) (v:V) (u:Value) (e1:BT.c5 kvs k=some x) (e2:valueAt vs k=some u) (r:RelV v u) (q:RD X.K m H v x):yF X m H s a kvs k
theorem yG (I:Inv X pins σ H s) (h:Rd H a (.dK ws)) (rk:RKs X.K m H ws kvs) (k:Key):yF X m H s a kvs k:=by
 obtain ⟨z,hd,vs,rel,dd⟩:=Ea I.hok h
 have rv:=rel.val k
 rcases rk.get k with ⟨g1,g2⟩ | ⟨v,d,g1,g2,g3⟩
 ·rw[g2] at rv
  cases e:valueAt vs k with
  | none=>exact .no vs dd hd g1 e
  | some u=>rw[e] at rv;exact rv.elim
 ·rw[g2] at rv
  cases e:valueAt vs k with
  | none=>rw[e] at rv;exact rv.elim
  | some u=>rw[e] at rv;exact .is vs dd hd d v u g1 e rv g3
end
section
theorem RDs.atI {K:OX} (r:RDs K m H vs ds) (e:BT.atP ds i=some d):∃ v,L2.atI vs i=some v/\RD K m H v d:=by
 unfold BT.atP at e
 unfold L2.atI
 obtain ⟨j,h1,h2⟩:=Option.bind_eq_some_iff.mp e
 obtain ⟨v,q1,q2⟩:=r.get h2
 refine ⟨v,?_,q2⟩
 rw[r.length]
 show ((BT.place ds.length i).bind fun j=>vs[j]?)=some v
 rw[h1]
 exact q1
theorem B8 {x y:BT.W}{h:BT.HH}{z:BT.W}{h':BT.HH} (e:BT.BK x y h=some (z,h')) :
 (∃ kvs k d,x=.k (.t kvs)/\y=.p (.str k)/\BT.cM k kvs=some d/\z=.p d/\h'=h)\/(∃ kvs e k d,x=.k (.l kvs)/\y=.p e/\BT.j6 e=some k/\BT.c5 kvs k=some d/\z=.p d/\h'=h)\/∃ d d' b,BT.rd x h=some d/\BT.rd y h=some d'/\BT.aX d d'=some b/\z=.p b/\h'=h:=by
 unfold BT.BK at e
 split at e
 ·rename_i kvs
  obtain ⟨b,e1,e2⟩:=az e
  cases e2
  cases kvs with
  | t kvs =>
   cases y with
   | p d =>
    cases d with
    | str x=>exact .inl ⟨kvs,_,b,rfl,rfl,e1,rfl,rfl⟩
    | _=>cases e1
   | _=>cases e1
  | l kvs =>
   cases y with
   | p d =>
    obtain ⟨k,g1,g2⟩:=Option.bind_eq_some_iff.mp (show (BT.j6 d).bind (BT.c5 kvs)=some b from e1)
    exact .inr (.inl ⟨kvs,d,k,b,rfl,rfl,g1,g2,rfl,rfl⟩)
   | _=>cases e1
 ·refine .inr (.inr ?_)
  cases e1:BT.rd x h with
  | none=>rw[e1] at e;cases e
  | some d =>
   cases e2:BT.rd y h with
   | none=>rw[e1,e2] at e;cases e
   | some d' =>
    rw[e1,e2] at e
    obtain ⟨q,eq,er⟩:=az e
    cases er
    exact ⟨d,d',q,rfl,rfl,eq,rfl,rfl⟩
theorem yH {K:OX}:∀ {es:List (Str×V)}{kvs:List (Str×BT.D)}{vs:List (Key×Value)},RDk K es kvs->KV (es.map fun q=>((Sum.inr q.1:Key),q.2)) vs->BT.cM k kvs=some d →
 ∃ u v,valueAt vs (Sum.inr k)=some u/\RelV v u/\∀ m H,RD K m H v d
 | _,_,_,.nil,_,e=>by simp[BT.cM] at e
 | _,_,_,@RDk.cons _ x v dd es kvs r t,q,e=>by
  cases q with
  | @cons p z l1 l2 q1 q2 =>
   obtain ⟨z1,z2⟩:=z
   obtain ⟨q11,q12⟩:=q1
   simp only at q11 q12
   subst q11
   rw[BT.cM] at e
   by_cases c:k=x
   ·rw[if_pos c] at e
    cases e
    subst c
    exact ⟨z2,v,by simp[valueAt],q12,r⟩
   ·rw[if_neg c] at e
    obtain ⟨u,v',h1,h2,h3⟩:=yH t q2 e
    refine ⟨u,v',?_,h2,h3⟩
    have ne:¬ ((Sum.inr x:Key)=Sum.inr k):=fun z=>c (Sum.inr.inj z).symm
    simp only[valueAt] at h1 ⊢
    rw[UR (by simpa using ne)]
    exact h1
theorem vR (h:PyData.strOk x=true) (hc:c∈x.cps.toList):PyData.strOk ⟨#[c]⟩=true:=by
 simp only[PyData.strOk,Array.all_eq_true_iff_forall_mem] at h ⊢
 intro y hy
 simp at hy
 subst hy
 exact h y (by simpa using hc)
theorem F8:IxR X (rOp X.prog X.w X.K BT.BK):=by
 intro value slice pins s σ H v u v' u' Q I rv ru h hs
 obtain ⟨m,h,x,y,z,h',R,rx,ry,e,post⟩:=h
 rcases B8 e with ⟨kvs,k,d,rfl,rfl,e1,rfl,rfl⟩ | ⟨kvs,e',k,d,rfl,rfl,e0,e1,rfl,rfl⟩ | ⟨d,d',b,e1,e2,e3,rfl,rfl⟩
 ·cases rx with
  | @k a es _ kd rk =>
   cases rv
   cases ry with
   | p ry =>
    cases ry with
    | str _ ok =>
     obtain ⟨t,rfl⟩:=ru
     obtain ⟨hm,vs,kv,dd⟩:=kd
     obtain ⟨w',z,h1,h2,h3⟩:=yH rk kv e1
     have D:=dd s.heap I.kIn
     refine Vm (ops:=[.ref a,.str k t]) D.typeIs slot_dict_getitem.lookup ?_ hs
     exact wpAny_getItem_of (knd:=aF X.prog X.w) (d9 _ _ k t) D.mapOf h1 ⟨z,H,I.tok _,h2,post.here R (h3 _ _)⟩
 ·cases rx with
  | @kl a ob ws _ hh rk =>
   cases rv
   cases ry with
   | p ry =>
    have ek:=su ry e0
    subst ek
    cases yG I (.inr ⟨_,hh.1⟩) rk k with
    | no _ _ _ g1 _=>rw[g1] at e1;cases e1
    | is vs dd n x v1 u1 g1 g2 g3 g4 =>
     rw[g1] at e1
     cases e1
     refine Vm (ops:=[.ref a,u']) dd.typeIs slot_dict_getitem.lookup ?_ hs
     exact wpAny_getItem_of (knd:=aF X.prog X.w) (tV ru) dd.mapOf g2 ⟨v1,H,I.tok _,g3,post.here R g4⟩
 ·have r1:=aH R rx e1
  have r2:=aH R ry e2
  cases d<;>cases d'<;>first | (cases e3;done) | simp only[BT.rT,BT.bT,BT.gy] at e3
  ·split at e3
   ·rename_i c
    obtain ⟨cc,e4,e5⟩:=az e3
    subst e5
    obtain ⟨rfl,ok⟩:=r1.str
    cases r2.int
    have:=cu
    refine Ff value slice pins s σ H _ _ _ _ Q I rv ru ⟨_,_,cc,rfl,rfl,by lia,e4,post.here R (.str _ (vR ok ?_))⟩ hs
    obtain ⟨j,h1,h2⟩:=Option.bind_eq_some_iff.mp e4
    exact Pb h2
   ·cases e3
  ·obtain ⟨a,vs,rfl,ha,ra⟩:=r1.tup
   cases r2.int
   obtain ⟨z,q1,q2⟩:=ra.atI e3
   exact Fe value slice pins s σ H _ _ _ _ Q I rv ru ⟨a,vs,_,z,rfl,rfl,ha,q1,post.here R q2⟩ hs
  ·obtain ⟨a,vs,rfl,ha,ra⟩:=r1.lst
   cases r2.int
   obtain ⟨z,q1,q2⟩:=ra.atI e3
   exact Bv value slice pins s σ H _ _ _ _ Q I rv ru ⟨a,vs,_,z,rfl,rfl,ha.sq,q1,post.here R q2⟩ hs
theorem jc (n d:Nat) (o:Option Int):BT.clip n d o=HT.sIx n d o:=by
 cases o with
 | none=>rfl
 | some v =>
  simp only[BT.clip,HT.sIx]
  split
  ·rfl
  ·split
   ·lia
   ·lia
theorem mF {E:Value->O4->Prop}{lo:Option Int} (ht:IsTup s.heap t items) (hs:s.heap.IsSliceOf sl vl vu .none) (pl:UA vl lo) (pu:UA vu hi)
 (hw:HT.sIx items.size 0 lo=0/\HT.sIx items.size items.size hi=items.size) (h:Q (.ref t) s):wpAny (Pp prog w) A (Ul (.ref t) (.ref sl)) Q E s:=by
 obtain ⟨os,hos,hcs,hds⟩:=id hs
 have hTs:s.TypeIs (.ref sl) "slice":=⟨os,hos,hcs⟩
 unfold Ul
 try with_reducible refine QI ?_
 first | refine O0 (wpAny_pure ?_) | skip
 refine O0 (wpAny_sequenceKey ht.typeIs (by decide) ?_)
 refine O0 (Vk (name:=Pe "__getitem__") ht.typeIs Qw
  (wpAny_call_entry Qw ht.typeIs entry_tuple_getitem ?_ (args_tuple_getitem _ _)))
 show wpAny _ _ (SX (.ref t) >>= _) _ _ s
 refine O0 (tupleItemsOf_ ht ?_)
 refine O0 (Uu hTs ?_)
 rw[if_pos (by decide)]
 refine O0 (HT.fk hs pl pu ?_)
 have hno:(((HT.sIx items.size 0 lo:Nat):Int)==0&&(1:Int)==1&&(HT.sIx items.size items.size hi - HT.sIx items.size 0 lo)==items.size)=true:=by
  rw[hw.1,hw.2];simp
 show wpAny _ _ (if (((HT.sIx items.size 0 lo:Nat):Int)==0&&(1:Int)==1&&(HT.sIx items.size items.size hi - HT.sIx items.size 0 lo)==items.size)=true then _ else _) _ _ s
 rw[if_pos hno]
 unfold Builtin.Tuple.tupleIsExact
 refine O0 (O0 (Uu ht.typeIs (wpAny_pure ?_)))
 rw[if_pos (by decide)]
 refine O0 (wpAny_rule ?_)
 first
  | exact wpAny_pure ⟨_,rfl,wpAny_pure h⟩
  | exact wpAny_pure ⟨_,rfl,h⟩
  | exact O0 (wpAny_pure (wpAny_pure ⟨_,rfl,wpAny_pure h⟩))
inductive rSl (P:Pv) (w:P0) (K:OX) (v:V) (lo hi:Option Int) (H:Hp) (Q:VK):Prop where
 | mk (m:List O9) (h:BT.HH) (x:BT.W) (d b:BT.D) (R:RH K m H h) (rx:RW P w K m H v x) (e:BT.rd x h=some d) (e2:BT.rP d lo hi=some b) (p:Post P w K m H (.p b) h Q):rSl P w K v lo hi H Q
theorem RDs.cut {K:OX} (r:RDs K m H vs ds) (lo hi:Option Int):RDs K m H (pQ vs lo hi) (BT.cut ds lo hi):=by
 unfold pQ BT.cut
 rw[jc,jc,r.length]
 exact (r.drop _).take _
theorem vS {lo:Option Int} (h1:HT.sIx ds.length 0 lo=0) (h2:HT.sIx ds.length ds.length hi=ds.length):BT.cut ds lo hi=ds:=by
 unfold BT.cut
 rw[jc,jc,h1,h2]
 simp
theorem osl:SlR X (rSl X.prog X.w X.K):=by
 intro pins s σ H v v' vl vu lo hi sl Q I rv hs pl pu h
 obtain ⟨m,h,x,d,b,R,rx,e1,e2,post⟩:=h
 have r1:=aH R rx e1
 cases d<;>simp only[BT.rP] at e2<;>try contradiction
 ·cases e2
  obtain ⟨a,vs,rfl,ha,ra⟩:=r1.tup
  cases rv
  by_cases c:HT.sIx vs.length 0 lo=0/\HT.sIx vs.length vs.length hi=vs.length
  ·obtain ⟨its,q1,q2,_⟩:=I.tuple ha
   have hl:its.toArray.size=vs.length:=by rw[O2];exact q1.length.symm
   refine ⟨"tuple",_,PyProof.Rows.slot_tuple_getitem.lookup,q2.typeIs,mF q2 hs pl pu (by rw[hl];exact c) ⟨.ref a,H,I,rfl,?_⟩⟩
   cases r1 with
   | d r =>
    refine post.here R ?_
    rw[vS (by rw[← ra.length];exact c.1) (by rw[← ra.length];exact c.2)]
    exact r
  ·exact Fd pins s σ H (.ref a) (.ref a) vl vu lo hi sl Q I rfl hs pl pu ⟨a,vs,rfl,ha,c,fun p hp=>ja R hp (ra.cut lo hi) post⟩
 ·cases e2
  obtain ⟨a,vs,rfl,ha,ra⟩:=r1.lst
  exact Bw pins s σ H _ _ vl vu lo hi sl Q I rv hs pl pu ⟨a,vs,rfl,ha.sq,fun p hp=>gV R hp (ra.cut lo hi) post⟩
end
theorem qi (m:BT.Me) (d:BT.D) (as:List BT.W) (h:BT.HH):BT.meW m (.p d) as h=(match BT.aK as with | some ds=>(BT.meD m d ds).map fun x=>(.p x,h) | none=>none):=by cases m<;>rfl
section
inductive rMe (P:Pv) (w:P0) (K:OX) (me:BT.Me) (v:V) (vs:List V) (H:Hp) (Q:VK):Prop where
 | mk (m:List O9) (h:BT.HH) (x:BT.W) (ws:List BT.W) (z:BT.W) (h':BT.HH) (R:RH K m H h) (rx:RW P w K m H v x) (rs:RWs P w K m H vs ws) (e:BT.meW me x ws h=some (z,h')) (p:Post P w K m H z h' Q):rMe P w K me v vs H Q
theorem getD_some {α:Type}{xs:List α}{n:Nat}{a:α} (h:xs[n]?=some a):n < xs.length:=by
 rcases Pz n xs.length with z | z
 ·exact z
 ·rw[Pa z] at h;cases h
theorem vU:MtR X "list.append" (rMe X.prog X.w X.K .append):=by
 intro pins s σ H v vs v' us Q I rv rus h
 obtain ⟨m,h,x,ws,z,h',R,rx,rws,e,post⟩:=h
 cases x with
 | p d=>cases ws with
  | nil=>exact ay e
  | cons _ _=>rw[qi] at e;split at e<;>(try cases e)
 | k kvs=>(first | (cases e;done) | simp[BT.meW] at e)
 | c _ _=>(first | (cases e;done) | simp[BT.meW] at e)
 | x _=>(first | (cases e;done) | simp[BT.meW] at e)
 | o kvs=>(first | (cases e;done) | simp[BT.meW] at e)
 | r n =>
  cases rws with
  | nil=>(first | (cases e;done) | simp[BT.meW] at e)
  | @cons y wy _ _ ry t =>
   cases t with
   | cons _ _=>cases ry<;>(first | (cases e;done) | simp[BT.meW] at e)
   | nil =>
    cases ry with
    | r _=>(first | (cases e;done) | simp[BT.meW] at e)
    | k _ _=>(first | (cases e;done) | simp[BT.meW] at e)
    | kl _ _=>(first | (cases e;done) | simp[BT.meW] at e)
    | c _ _=>(first | (cases e;done) | simp[BT.meW] at e)
    | x _=>(first | (cases e;done) | simp[BT.meW] at e)
    | g _ _=>(first | (cases e;done) | simp[BT.meW] at e)
    | o _=>(first | (cases e;done) | simp[BT.meW] at e)
    | p ry =>
     rw[BT.rQ] at e
     cases g:BT.lat h n with
     | none=>rw[g] at e;cases e
     | some xs =>
      rw[g] at e
      simp only at e
      split at e
      ·rename_i c
       cases e
       cases rx with
       | @r a _ hn =>
        obtain ⟨us',hH,r⟩:=R.cell n a xs hn g
        have:=cu
        have hl:=r.length
        exact vC pins s σ H _ _ _ _ Q I rv rus ⟨a,us',y,rfl,rfl,hH,by lia,post _ _ m (fF (Pb hn) hH) (R.set hn hH (r.append (.cons ry .nil))) (.p .non)⟩
      ·cases e
theorem yI {α:Type}{xs:List α}{d:α} (h:xs.getLast?=some d):xs[xs.length - 1]?=some d:=by rw[← List.getLast?_eq_getElem?];exact h
theorem F9:MtR X "list.pop" (rMe X.prog X.w X.K .pop):=by
 intro pins s σ H v vs v' us Q I rv rus h
 obtain ⟨m,h,x,ws,z,h',R,rx,rws,e,post⟩:=h
 cases x with
 | p d=>cases ws with
  | nil=>exact ay e
  | cons _ _=>rw[qi] at e;split at e<;>(try cases e)
 | k kvs=>(first | (cases e;done) | simp[BT.meW] at e)
 | c _ _=>(first | (cases e;done) | simp[BT.meW] at e)
 | x _=>(first | (cases e;done) | simp[BT.meW] at e)
 | o kvs=>(first | (cases e;done) | simp[BT.meW] at e)
 | r n =>
  cases rws with
  | cons _ _=>(first | (cases e;done) | simp[BT.meW] at e)
  | nil =>
   rw[BT.BH] at e
   cases g:BT.lat h n with
   | none=>rw[g] at e;cases e
   | some xs =>
    rw[g] at e
    simp only at e
    cases gl:xs.getLast? with
    | none=>rw[gl] at e;cases e
    | some d =>
     rw[gl] at e
     cases e
     cases rx with
     | @r a _ hn =>
      obtain ⟨us',hH,r⟩:=R.cell n a xs hn g
      have hl:=r.length
      obtain ⟨y,hy,ry⟩:=r.get (yI gl)
      have x1:Ext m H m (upd H a (.lst us'.dropLast)):=fF (Pb hn) hH
      exact Fj pins s σ H _ _ _ _ Q I rv rus ⟨a,us',y,rfl,rfl,hH,by rw[hl];exact hy,post _ _ m x1 (R.set hn hH r.dropLast) (.p (ry.ext x1))⟩
theorem yJ (I:Inv X pins σ H s) (hH:H l=some (.lst xs)) (hB:LL X.K H b zs) (hz:xs.length+zs.length<=sizeLine) (q:Q .non (upd H l (.lst (xs++zs)))) :
 wpAny (Pp X.prog X.w) X.A (call (.builtin "list.extend") [.ref l,.ref b]) (EP X pins σ Q) X.xe s:=by
 obtain ⟨z,its,n,r,hl,e⟩:=I.By hH
 obtain ⟨z2,its2,n2,r2,hl2,e2⟩:=rdL I hB
 have hsz:its.toArray.size+its2.toArray.size<=sizeLine:=by rw[O2,O2];lia
 have hlong:¬ (!its.toArray.isEmpty&&Qk (its.toArray.size+its2.toArray.size))=true:=by
  rw[kT hsz,Bool.and_false]
  exact QD
 refine Q9 F.slot_list_extend ⟨_,e,rfl⟩ F.entry_list_extend (F.args_list_extend_2 _ _)
  (AutoSeq1.list_extend_list_list_0 l its.toArray n b its2.toArray n2 hlong (by rw[O2];lia) (by lia)) ⟨e,e2,?_⟩
 refine ⟨.non,_,I.Bx (its':=its++its2) hH e (by simp) (r.append r2) ?_,rfl,q⟩
 rw[PJ]
 lia
theorem B9 (I:Inv X pins σ H s) (hH:H l=some (.lst xs)) (hB:SqT X.K H b zs) (hz:xs.length+zs.length<=sizeLine) (q:Q .non (upd H l (.lst (xs++zs)))) :
 wpAny (Pp X.prog X.w) X.A (call (.builtin "list.extend") [.ref l,.ref b]) (EP X pins σ Q) X.xe s:=by
 obtain ⟨z,its,n,r,hl,e⟩:=I.By hH
 obtain ⟨its2,r2,p2,_⟩:=I.tuple hB
 obtain ⟨⟨cls,dd,data,sl⟩,e2,hc,n2,hd⟩:=id p2
 simp only at hc hd
 subst hc hd
 have hl2:=r2.length
 have hsz:its.toArray.size+its2.toArray.size<=sizeLine:=by rw[O2,O2];lia
 have hlong:¬ (!its.toArray.isEmpty&&Qk (its.toArray.size+its2.toArray.size))=true:=by
  rw[kT hsz,Bool.and_false]
  exact QD
 refine Q9 F.slot_list_extend ⟨_,e,rfl⟩ F.entry_list_extend (F.args_list_extend_2 _ _)
  (j8 l its.toArray n b its2.toArray n2 dd sl hlong (by rw[O2];lia) (by lia)) ⟨e,e2,?_⟩
 refine ⟨.non,_,I.Bx (its':=its++its2) hH e (by simp) (r.append r2) ?_,rfl,q⟩
 rw[PJ]
 lia
theorem vV:MtR X "list.extend" (rMe X.prog X.w X.K .extend):=by
 intro pins s σ H v vs v' us Q I rv rus h
 obtain ⟨m,h,x,ws,z,h',R,rx,rws,e,post⟩:=h
 cases x with
 | p d=>cases ws with
  | nil=>exact ay e
  | cons _ _=>rw[qi] at e;split at e<;>(try cases e)
 | k kvs=>(first | (cases e;done) | simp[BT.meW] at e)
 | c _ _=>(first | (cases e;done) | simp[BT.meW] at e)
 | x _=>(first | (cases e;done) | simp[BT.meW] at e)
 | o kvs=>(first | (cases e;done) | simp[BT.meW] at e)
 | r n =>
  cases rws with
  | nil=>(first | (cases e;done) | simp[BT.meW] at e)
  | @cons y wy _ _ ry t =>
   cases t with
   | cons _ _=>(first | (cases e;done) | simp[BT.meW] at e)
   | nil =>
    rw[BT.rR] at e
    cases g:BT.lat h n with
    | none=>rw[g] at e;cases e
    | some xs =>
     cases g2:(BT.rd wy h).bind BT.nV with
     | none=>rw[g,g2] at e;cases e
     | some ys =>
      rw[g,g2] at e
      simp only at e
      split at e
      ·rename_i c
       cases e
       obtain ⟨d,e1,e2⟩:=Option.bind_eq_some_iff.mp g2
       have r2:=aH R ry e1
       cases rx with
       | @r a _ hn =>
        obtain ⟨us',hH,r⟩:=R.cell n a xs hn g
        cases rv
        obtain ⟨u,rfl,ru⟩:=rus.one
        have:=cu
        have hl:=r.length
        cases d<;>simp only[BT.nV] at e2<;>try contradiction
        ·cases e2
         obtain ⟨b,vb,rfl,hb,rb⟩:=r2.tup
         cases ru
         have hl2:=rb.length
         exact B9 I hH hb (by lia) (post _ _ m (fF (Pb hn) hH) (R.set hn hH (r.append rb)) (.p .non))
        ·cases e2
         obtain ⟨b,vb,rfl,hb,rb⟩:=r2.lst
         cases ru
         have hl2:=rb.length
         exact yJ I hH hb (by lia) (post _ _ m (fF (Pb hn) hH) (R.set hn hH (r.append rb)) (.p .non))
      ·cases e
theorem RWs.pure {K:OX}:∀ {vs:List V}{ws:List BT.W}{ds:List BT.D},RWs P w K m H vs ws->BT.aK ws=some ds->RDs K m H vs ds:=by
 intro vs ws
 induction ws generalizing vs with
 | nil =>
  intro ds r e
  cases r
  cases e
  exact .nil
 | cons x ws ih =>
  intro ds r e
  cases r with
  | cons r t =>
   cases r with
   | p r =>
    simp only[BT.aK] at e
    obtain ⟨q,e1,e2⟩:=az e
    subst e2
    exact .cons r (ih t e1)
   | _=>cases e
theorem iO:∀ {ds:List BT.D}{k j:Nat},BT.fQ x ds k=some j->∃ i,j=k+i/\∃ (hi:i < ds.length),BT.eqv ds[i] x=true/\∀ m (hm:m < ds.length),m < i->BT.eqv ds[m] x=false
 | [],_,_,e=>by cases e
 | y :: r,k,j,e=>by
  simp only[BT.fQ] at e
  split at e
  ·rename_i c
   cases e
   exact ⟨0,rfl,by simp,c,fun m _ h=>by lia⟩
  ·rename_i c
   obtain ⟨i,rfl,hi,h1,h2⟩:=iO e
   refine ⟨i+1,by lia,by simp;lia,by simpa using h1,fun m hm hlt=>?_⟩
   cases m with
   | zero=>simpa using c
   | succ m=>simpa using h2 m (by simpa using hm) (by lia)
theorem gY (I:Inv X pins σ H s):∀ {vs:List V}{ds:List BT.D}{us:List Value},RDs X.K m H vs ds->ao vs us->∀ (i:Nat) (h1:i < us.length) (h2:i < ds.length),bQ s.heap (pd d) us[i]=BT.eqv ds[i] d
 | _,_,_,.nil,q=>by cases q;intro i h1;simp at h1
 | _,_,_,.cons r t,q=>by
  cases q with
  | cons q1 q2 =>
   intro i h1 h2
   cases i with
   | zero =>
    obtain ⟨as,ra⟩:=gG I r q1
    simp only[List.getElem_cons_zero]
    rw[sj ra (dP r),lq]
   | succ i=>simpa using gY I t q2 i (by simpa using h1) (by simpa using h2)
theorem vW (hu:X.A.units+150 < cLine):MtR X "tuple.index" (rMe X.prog X.w X.K .tindex):=by
 intro pins s σ H v vs v' us Q I rv rus h
 obtain ⟨m,h,x,ws,z,h',R,rx,rws,e,post⟩:=h
 cases x with
 | r n=>cases ws with
  | nil=>(first | (cases e;done) | simp[BT.meW] at e)
  | cons _ _=>(first | (cases e;done) | simp[BT.meW] at e)
 | k kvs=>(first | (cases e;done) | simp[BT.meW] at e)
 | c _ _=>(first | (cases e;done) | simp[BT.meW] at e)
 | x _=>(first | (cases e;done) | simp[BT.meW] at e)
 | o kvs=>(first | (cases e;done) | simp[BT.meW] at e)
 | p d =>
  rw[BT.kX] at e
  cases g:BT.aK ws with
  | none=>rw[g] at e;cases e
  | some ds =>
   rw[g] at e
   obtain ⟨b,e1,e2⟩:=az e
   cases e2
   have rds:=rws.pure g
   cases d<;>first | exact ay e1 | skip
   rename_i xs
   cases ds with
   | nil=>exact ay e1
   | cons d0 dr =>
    cases dr with
    | cons _ _=>exact ay e1
    | nil =>
     rw[BT.xZ] at e1
     split at e1
     ·rename_i c
      obtain ⟨j,e3,e4⟩:=az e1
      subst e4
      obtain ⟨i,rfl,hi,h1,h2⟩:=iO e3
      cases rds with
      | cons r0 rn =>
       cases rn
       obtain ⟨u,rfl,ru⟩:=rus.one
       cases rx with
       | p rx =>
        obtain ⟨a,vt,rfl,ha,ra⟩:=RR.tup (.d rx)
        cases rv
        obtain ⟨its,q1,q2,_⟩:=I.tuple ha
        obtain ⟨⟨cls,dd,data,sl⟩,ho,hc,n,hd⟩:=id q2
        simp only at hc hd
        subst hc hd
        have hl:=q1.length
        have hl2:=ra.length
        have hi':i < its.toArray.size:=by rw[O2];lia
        refine Q9 F.slot_tuple_index ⟨_,ho,rfl⟩ F.entry_tuple_index (F.args_tuple_index_2 _ _)
         (mE a its.toArray n dd sl u (bQ s.heap (pd d0)) i hi' ?_ ?_) ⟨ho,?_,?_⟩
        ·rw[show its.toArray[i]=its[i]'(by lia) by simp,gY I ra q1 i (by lia) hi];exact h1
        ·intro k hk hlt
         have hk':k < its.length:=by simpa using hk
         rw[show its.toArray[k]=its[k]'hk' by simp,gY I ra q1 k hk' (by lia)];exact h2 k (by lia) hlt
        ·intro y hy
         exact eN hu I (.d r0) ru ra q1 c y (by simpa using hy)
        ·refine ⟨.int (((0+i:Nat):Nat):Int),H,I.tok _,⟨s.toks,?_⟩,post.here R (.int _)⟩
         simp
     ·cases e1
theorem vX:MtR X "str.index" (rMe X.prog X.w X.K .sindex):=by
 intro pins s σ H v vs v' us Q I rv rus h
 obtain ⟨m,h,x,ws,z,h',R,rx,rws,e,post⟩:=h
 cases x with
 | r n=>cases ws with
  | nil=>(first | (cases e;done) | simp[BT.meW] at e)
  | cons _ _=>(first | (cases e;done) | simp[BT.meW] at e)
 | k kvs=>(first | (cases e;done) | simp[BT.meW] at e)
 | c _ _=>(first | (cases e;done) | simp[BT.meW] at e)
 | x _=>(first | (cases e;done) | simp[BT.meW] at e)
 | o kvs=>(first | (cases e;done) | simp[BT.meW] at e)
 | p d =>
  rw[BT.kY] at e
  cases g:BT.aK ws with
  | none=>rw[g] at e;cases e
  | some ds =>
   rw[g] at e
   obtain ⟨b,e1,e2⟩:=az e
   cases e2
   have rds:=rws.pure g
   cases d<;>first | exact ay e1 | skip
   cases ds with
   | nil=>exact ay e1
   | cons d0 dr =>
    cases dr with
    | cons _ _=>cases d0<;>exact ay e1
    | nil =>
     cases d0<;>first | exact ay e1 | skip
     rename_i x y
     rw[BT.Fv] at e1
     cases ho:RX x y 0 x.length 1 with
     | nil=>rw[ho] at e1;cases e1
     | cons j rest =>
      rw[ho] at e1
      cases e1
      cases rds with
      | cons r0 rn =>
       cases rn
       cases r0
       obtain ⟨u,rfl,t0,rfl⟩:=rus.one
       cases rx with
       | p rx =>
        cases rx
        obtain ⟨t,rfl⟩:=rv
        exact call_gives F.slot_str_index (typeIs_str s x t) F.entry_str_index (F.args_str_index_2 _ _) (gives_str_index x y t t0 j rest ho) ⟨.int j,H,I.tok _,⟨_,rfl⟩,post.here R (.int _)⟩
end
section
inductive rBi (P:Pv) (w:P0) (K:OX) (b:BT.Bi) (mu:Bool) (vs:List V) (H:Hp) (Q:VK):Prop where
 | mk (m:List O9) (h:BT.HH) (ws:List BT.W) (z:BT.W) (h':BT.HH) (R:RH K m H h) (rs:RWs P w K m H vs ws) (e:BT.kBi b mu ws h=some (z,h')) (p:Post P w K m H z h' Q):rBi P w K b mu vs H Q
inductive RRs (K:OX) (m:List O9) (H:Hp):List V->List BT.D->Prop where
 | nil:RRs K m H [] []
 | cons {v:V}{d:BT.D}{vs:List V}{ds:List BT.D} (r:RR K m H v d) (t:RRs K m H vs ds):RRs K m H (v :: vs) (d :: ds)
theorem cT {K:OX} (R:RH K m H h):∀ {vs:List V}{ws:List BT.W}{ds:List BT.D},RWs P w K m H vs ws->BT.rds ws h=some ds->RRs K m H vs ds
 | _,_,_,.nil,e=>by cases e;exact .nil
 | _,_,_,.cons r t,e=>by
  simp only[BT.rds] at e
  obtain ⟨d,e1,e2⟩:=Option.bind_eq_some_iff.mp e
  obtain ⟨q,e3,e4⟩:=az e2
  subst e4
  exact .cons (aH R r e1) (cT R t e3)
inductive BiI (b:BT.Bi) (mu:Bool) (ws:List BT.W) (h:BT.HH) (z:BT.W) (h':BT.HH):Prop where
 | mk (ds:List BT.D) (d:BT.D) (h1:BT.rds ws h=some ds) (h2:BT.biD b ds=some d) (h3:(mu=false/\z=.p d/\h'=h)\/∃ xs,mu=true/\d=.lst xs/\z=.r h.length/\h'=h++[.l xs]):BiI b mu ws h z h'
theorem fU (e:BT.kBi b mu ws h=some (z,h')):BiI b mu ws h z h':=by
 unfold BT.kBi at e
 cases e1:BT.rds ws h with
 | none=>rw[e1] at e;cases e
 | some ds =>
  rw[e1] at e
  simp only at e
  cases e2:BT.biD b ds with
  | none=>rw[e2] at e;cases e
  | some d =>
   rw[e2] at e
   simp only at e
   cases mu with
   | false=>cases e;exact ⟨ds,d,e1,e2,.inl ⟨rfl,rfl,rfl⟩⟩
   | true =>
    simp only[if_true] at e
    cases d<;>simp only at e<;>try contradiction
    cases e
    exact ⟨ds,_,e1,e2,.inr ⟨_,rfl,rfl,rfl,rfl⟩⟩
theorem RRs.one {K:OX}{m:List O9}{H:Hp}{vs:List V}{d:BT.D} (r:RRs K m H vs [d]):∃ v,vs=[v]/\RR K m H v d:=by
 cases r with
 | cons r t=>cases t;exact ⟨_,rfl,r⟩
theorem Ga:bW X (.builtin "len") (rBi X.prog X.w X.K .len false):=by
 intro pins s σ H vs us Q I rus h
 obtain ⟨m,h,ws,z,h',R,rws,e,post⟩:=h
 obtain ⟨ds,d,e1,e2,⟨_,rfl,rfl⟩ | ⟨_,q,_⟩⟩:=fU e
 ·have rr:=cT R rws e1
  match ds,e2 with
  | [.tup xs],e2 =>
   cases e2
   obtain ⟨v,rfl,r⟩:=rr.one
   obtain ⟨a,vt,rfl,ha,ra⟩:=r.tup
   exact iZ pins s σ H _ us Q I rus ⟨a,vt,rfl,.inr ha,by rw[ra.length];exact post.here R (.int _)⟩
  | [.lst xs],e2 =>
   cases e2
   obtain ⟨v,rfl,r⟩:=rr.one
   obtain ⟨a,vt,rfl,ha,ra⟩:=r.lst
   exact iZ pins s σ H _ us Q I rus ⟨a,vt,rfl,.inl ha.sq,by rw[ra.length];exact post.here R (.int _)⟩
  | [.str x],e2 =>
   rw[BT.vI] at e2
   split at e2
   ·rename_i c
    cases e2
    obtain ⟨v,rfl,r⟩:=rr.one
    obtain ⟨rfl,_⟩:=r.str
    have:=cu
    exact nO pins s σ H _ us Q I rus ⟨x,rfl,by lia,post.here R (.int _)⟩
   ·cases e2
 ·cases q
theorem Gb:bW X (.builtin "abs") (rBi X.prog X.w X.K .abs false):=by
 intro pins s σ H vs us Q I rus h
 obtain ⟨m,h,ws,z,h',R,rws,e,post⟩:=h
 obtain ⟨ds,d,e1,e2,⟨_,rfl,rfl⟩ | ⟨_,q,_⟩⟩:=fU e
 ·have rr:=cT R rws e1
  match ds,e2 with
  | [.int i],e2 =>
   cases e2
   obtain ⟨v,rfl,r⟩:=rr.one
   cases r.int
   exact xM pins s σ H _ us Q I rus ⟨i,rfl,post.here R (.int _)⟩
 ·cases q
theorem Gc:bW X (.type "int") (rBi X.prog X.w X.K .int false):=by
 intro pins s σ H vs us Q I rus h
 obtain ⟨m,h,ws,z,h',R,rws,e,post⟩:=h
 obtain ⟨ds,d,e1,e2,⟨_,rfl,rfl⟩ | ⟨_,q,_⟩⟩:=fU e
 ·have rr:=cT R rws e1
  match ds,e2 with
  | [.int i],e2 =>
   cases e2
   obtain ⟨v,rfl,r⟩:=rr.one
   cases r.int
   exact mR pins s σ H _ us Q I rus (.inl ⟨i,rfl,post.here R (.int _)⟩)
  | [.bl i],e2 =>
   cases e2
   obtain ⟨v,rfl,r⟩:=rr.one
   cases r.bl
   exact mR pins s σ H _ us Q I rus (.inr ⟨i,rfl,post.here R (.int _)⟩)
 ·cases q
theorem um:bW X (.type "list") (rBi X.prog X.w X.K .list mu):=by
 intro pins s σ H vs us Q I rus h
 obtain ⟨m,h,ws,z,h',R,rws,e,post⟩:=h
 obtain ⟨ds,d,e1,e2,hz⟩:=fU e
 have rr:=cT R rws e1
 have fin:∀ {p:O9}{vt:List V}{xs:List BT.D},d=.lst xs->H p=none->RDs X.K m H vt xs->Q (.ref p) (upd H p (.lst vt)):=by
  intro p vt xs ed hp r
  rcases hz with ⟨_,rfl,rfl⟩ | ⟨ys,_,e3,rfl,rfl⟩
  ·subst ed;exact gV R hp r post
  ·rw[ed] at e3;cases e3;exact ug R hp r post
 match ds,e2 with
 | [.tup xs],e2 =>
  cases e2
  obtain ⟨v,rfl,r⟩:=rr.one
  obtain ⟨a,vt,rfl,ha,ra⟩:=r.tup
  exact i6 pins s σ H _ us Q I rus ⟨a,vt,rfl,.inr ha,fun p hp=>fin rfl hp ra⟩
 | [.lst xs],e2 =>
  cases e2
  obtain ⟨v,rfl,r⟩:=rr.one
  obtain ⟨a,vt,rfl,ha,ra⟩:=r.lst
  exact i6 pins s σ H _ us Q I rus ⟨a,vt,rfl,.inl ha.sq,fun p hp=>fin rfl hp ra⟩
theorem lu:∀ {xs:List BT.D}{ns:List Int},BT.intsOf xs=some ns->xs=ns.map BT.D.int
 | [],ns,h=>by cases h;rfl
 | .int i :: r,ns,h=>by
  simp only[BT.intsOf] at h
  obtain ⟨q,e1,e2⟩:=az h
  subst e2
  rw[lu e1];rfl
 | .non :: _,_,h=>by cases h
 | .bl _ :: _,_,h=>by cases h
 | .str _ :: _,_,h=>by cases h
 | .tup _ :: _,_,h=>by cases h
 | .lst _ :: _,_,h=>by cases h
theorem gI {K:OX}:∀ {ns:List Int}{vs:List V},RDs K m H vs (ns.map BT.D.int)->vs=ns.map V.int
 | [],vs,r=>by cases r;rfl
 | n :: ns,vs,r=>by
  cases r with
  | cons r t=>cases r;rw[gI t];rfl
theorem jd {K:OX}:∀ (ns:List Int),RDs K m H (ns.map V.int) (ns.map BT.D.int)
 | []=>.nil
 | n :: ns=>.cons (.int n) (jd ns)
theorem yK:bW X (.type "tuple") (rBi X.prog X.w X.K .tuple false):=by
 intro pins s σ H vs us Q I rus h
 obtain ⟨m,h,ws,z,h',R,rws,e,post⟩:=h
 obtain ⟨ds,d,e1,e2,⟨_,rfl,rfl⟩ | ⟨_,q,_⟩⟩:=fU e
 ·have rr:=cT R rws e1
  match ds,e2 with
  | [.tup xs],e2 =>
   cases e2
   obtain ⟨v,rfl,r⟩:=rr.one
   obtain ⟨a,vt,rfl,ha,ra⟩:=r.tup
   refine iA pins s σ H _ us Q I rus ⟨a,vt,rfl,.inr ⟨ha,?_⟩⟩
   cases r with
   | d r=>exact post.here R r
  | [.lst xs],e2 =>
   cases e2
   obtain ⟨v,rfl,r⟩:=rr.one
   obtain ⟨a,vt,rfl,ha,ra⟩:=r.lst
   exact iA pins s σ H _ us Q I rus ⟨a,vt,rfl,.inl ⟨ha.sq,fun p hp=>ja R hp ra post⟩⟩
 ·cases q
noncomputable def tyD:BT.D->String
 | .non=>"NoneType"
 | .bl _=>"bool"
 | .int _=>"int"
 | .str _=>"str"
 | .tup _=>"tuple"
 | .lst _=>"list"
theorem Ca {E:Value->O4->Prop}
 (I:Inv X pins σ H s) (r:RR X.K m H v d) (rv:RelV v u) (e:Qn X.K (.type (tyD d)) (.type c)=some b) (h:∀ tk,Q (.bool b) { s with toks:=tk }) :
 wpAny (Pp X.prog X.w) A (call (.builtin "isinstance") [u,.type c]) Q E s:=by
 cases d with
 | non=>cases r.non;cases rv;exact QX PySem.W.kitx_none I.kIn Q4 e (fun z=>nomatch z) h
 | bl y=>cases r.bl;cases rv;exact QX PySem.W.kitx_bool I.kIn Q4 e (fun z=>nomatch z) h
 | int i=>cases r.int;obtain ⟨t,rfl⟩:=rv;exact QX PySem.W.kitx_int I.kIn Q4 e (fun z=>nomatch z) h
 | str y=>obtain ⟨rfl,_⟩:=r.str;obtain ⟨t,rfl⟩:=rv;exact QX PySem.W.kitx_str I.kIn Q4 e (fun z=>nomatch z) h
 | tup xs =>
  obtain ⟨a,vt,rfl,ha,_⟩:=r.tup
  cases rv
  obtain ⟨its,_,⟨o,h1,h2,_⟩,_⟩:=I.tuple ha
  exact QX PySem.W.kitx_tuple I.kIn ⟨o,h1,h2⟩ e (fun z=>nomatch z) h
 | lst xs =>
  obtain ⟨a,vt,rfl,ha,_⟩:=r.lst
  cases rv
  obtain ⟨_,its,n,_,_,h1⟩:=rdL I ha
  exact QX PySem.W.kitx_list I.kIn ⟨_,h1,rfl⟩ e (fun z=>nomatch z) h
theorem yL (K:OX) (t:String):Qn K (.type t) (.type t)=some true:=by
 unfold Qn
 rw[if_pos (by simp)]
theorem yM (h:qd b=some (c,f)) (d:BT.D):BT.biD b [d]=some (.bl (f d)):=by
 cases b<;>simp only[qd] at h<;>try contradiction
 all_goals (cases h;rfl)
theorem yN (h:qd b=some (c,f)) (K:OX) (d:BT.D):Qn K (.type (tyD d)) (.type c)=some (f d):=by
 cases b<;>simp only[qd] at h<;>try contradiction
 all_goals (cases h;cases d)
 all_goals first
  | exact yL K _
  | (simp only[tyD];unfold Qn;rw[if_neg (by decide)];unfold PySem.W.kitCls;first | rfl | kernel_rfl | decide +kernel)
end
end BS
end
section
namespace BX
open PySem PySem.Spec PyProof.Rows
section
variable {prog:Pv}{w:P0}{A:QV}{R:Result->O4->Prop}{I:O9}{fp wr:List O9}{n:Nat}{P:Nat->Value->Prop}{St:Nat->Heap->Prop}{kw:List (Str×Value)}
theorem yO (W:Walks prog w A.in1 I fp wr n P St) (bt:Nat->Nat->Bool) (C:CmpOf prog w A.in1 .Gt P bt) (S:O9) (hS:¬S∈fp):∀ (k j:Nat) (s:O4) (vb:Value) (c:Nat),n - (j+1)=k->j+1<=n->St (j+1) s.heap->P (TV bt j) vb->s.heap.get? S=some { cls:=.type "list",data:=.seq #[vb,vb] c } →
 (∀ (v:Value) (h':Heap) (tk:Nat),P (TV bt (n - 1)) v->(∀ b o,¬b∈wr->b≠S->s.heap.get? b=some o->h'.get? b=some o)->R (.ok (.ret v)) { s with heap:=h',toks:=tk }) →
 codeAny (Pp prog w) A (.builtin "max.loop" ⟨[.ref I,.none,.ref S],kw⟩) R s:=by
 have hSw:¬ S∈wr:=fun z=>hS (W.sub S z)
 intro k
 induction k with
 | zero =>
  intro j s vb c hk hj st hp hs hR
  have ej:j+1=n:=by omega
  refine Se F.entry_max_loop ?_
  rw[RB F.plain_max_loop _]
  unfold Builtin.«max.loop»
  refine O0 (Sw hs rfl ?_)
  refine O0 (Sv (W.done s _ _ (ej ▸ st) fun h' tk kp=>?_))
  have hs':=kp S _ hSw hs
  refine O0 (R8 hs' rfl (O0 (TR (wpAny_pure ?_))) (by simp[QM]) (by simp[QM]))
  refine hR _ _ _ (by rw[show n - 1=j by omega];exact hp) fun b o b1 b2 e=>?_
  show (h'.update S _).get? b=some o
  rw[P8 _ _ (Qp b2)]
  exact kp b o b1 e
 | succ k ih =>
  intro j s vb c hk hj st hp hs hR
  refine Se F.entry_max_loop ?_
  rw[RB F.plain_max_loop _]
  unfold Builtin.«max.loop»
  refine O0 (Sw hs rfl ?_)
  refine O0 (Sv (W.item (j+1) s _ _ (by omega) st fun v h' tk pv st' kp=>?_))
  have hs':=kp S _ hSw hs
  refine O0 (wpAny_pure ?_)
  refine O0 (Sv (QI (O0 (C _ _ _ _ _ _ _ pv hp ?_))))
  refine O0 (QI (Qd ?_))
  refine O0 (TR (wpAny_pure ?_))
  have ab:TV bt (j+1)=if bt (j+1) (TV bt j) then j+1 else TV bt j:=rfl
  cases g:bt (j+1) (TV bt j) with
  | true =>
   rw[if_pos rfl]
   rw[g,if_pos rfl] at ab
   refine O0 (R8 hs' rfl (O0 (TR (wpAny_pure ⟨plainId_quiet F.plain_max_loop _,?_⟩))) (by simp[QM]) (by simp[QM]))
   refine ih (j+1) _ v _ (by omega) (by omega) (W.frame _ _ _ st' fun b hb o e=>?_) (by rw[ab];exact pv) (Rx _ hs' rfl) fun v' h2 tk2 q1 q2=>hR v' h2 tk2 q1 fun b o b1 b2 e=>q2 b o b1 b2 ?_
   ·show (h'.update S _).get? b=some o
    rw[P8 _ _ (fun z:S=b=>hS (by rw[z];exact hb))]
    exact e
   ·show (h'.update S _).get? b=some o
    rw[P8 _ _ (Qp b2)]
    exact kp b o b1 e
  | false =>
   rw[if_neg (by decide)]
   rw[g,if_neg (by decide)] at ab
   refine O0 (TR (wpAny_pure ⟨plainId_quiet F.plain_max_loop _,?_⟩))
   exact ih (j+1) _ vb _ (by omega) (by omega) st' (by rw[ab];exact hp) hs' fun v' h2 tk2 q1 q2=>hR v' h2 tk2 q1 fun b o b1 b2 e=>q2 b o b1 b2 (kp b o b1 e)
theorem vY (W:Walks prog w A.in1 I fp wr n P St) (bt:Nat->Nat->Bool) (C:CmpOf prog w A.in1 .Gt P bt) (S:O9) (hS:¬S∈fp) (hn:0 < n) {s:O4}{c:Nat} (st:St 0 s.heap) (hs:s.heap.get? S=some { cls:=.type "list",data:=.seq #[] c })
 (hR:∀ (v:Value) (h':Heap) (tk:Nat),P (TV bt (n - 1)) v->(∀ b o,¬b∈wr->b≠S->s.heap.get? b=some o->h'.get? b=some o)->R (.ok (.ret v)) { s with heap:=h',toks:=tk }) :
 codeAny (Pp prog w) A (.builtin "max.loop" ⟨[.ref I,.none,.ref S],kw⟩) R s:=by
 have hSw:¬ S∈wr:=fun z=>hS (W.sub S z)
 refine Se F.entry_max_loop ?_
 rw[RB F.plain_max_loop _]
 unfold Builtin.«max.loop»
 refine O0 (Sw hs rfl ?_)
 refine O0 (Sv (W.item 0 s _ _ hn st fun v h' tk pv st' kp=>?_))
 have hs':=kp S _ hSw hs
 refine O0 (wpAny_pure ?_)
 refine O0 (R8 hs' rfl (wpAny_pure ⟨plainId_quiet F.plain_max_loop _,?_⟩) (by simp[QM]) (by simp[QM]))
 refine yO W bt C S hS (n - 1) 0 _ v _ rfl hn (W.frame _ _ _ st' fun b hb o e=>?_) pv (Rx _ hs' rfl) fun v' h2 tk2 q1 q2=>hR v' h2 tk2 q1 fun b o b1 b2 e=>q2 b o b1 b2 ?_
 ·show (h'.update S _).get? b=some o
  rw[P8 _ _ (fun z:S=b=>hS (by rw[z];exact hb))]
  exact e
 ·show (h'.update S _).get? b=some o
  rw[P8 _ _ (Qp b2)]
  exact kp b o b1 e
theorem vZ {nm:Str}{d:Value} (W:Walks prog w A.in1 I fp wr 0 P St) (S:O9) {s:O4}{c:Nat} (st:St 0 s.heap) (hs:s.heap.get? S=some { cls:=.type "list",data:=.seq #[] c })
 (hR:∀ (h':Heap) (tk:Nat),(∀ b o,¬b∈wr->s.heap.get? b=some o->h'.get? b=some o)->R (.ok (.ret d)) { s with heap:=h',toks:=tk }) :
 codeAny (Pp prog w) A (.builtin "max.loop" ⟨[.ref I,.none,.ref S],[(nm,d)]⟩) R s:=by
 refine Se F.entry_max_loop ?_
 rw[RB F.plain_max_loop _]
 unfold Builtin.«max.loop»
 refine O0 (Sw hs rfl ?_)
 refine O0 (Sv (W.done s _ _ st fun h' tk kp=>?_))
 refine O0 (wpAny_rule (wpAny_pure ?_))
 exact hR _ _ kp
theorem sy (a d:Value):argsOk "max" ⟨[a],[(Pe "default",d)]⟩:=by
 show _=_
 kernel_rfl
theorem v7 {E:Value->O4->Prop}{s:O4}{l:O9}{xs:Array (Int×Tok)}{d:Value}{Q:Value->O4->Prop} (hh:A.handled=none) (hl:s.heap.IsList l (Vr xs))
 (h1:0 < xs.size->∀ (v:Value) (h':Heap) (tk:Nat),(Vr xs)[TV (fun i j=>decide (numAt xs i > numAt xs j)) (xs.size - 1)]?=some v->(∀ b o,s.heap.get? b=some o->h'.get? b=some o)->Q v { s with heap:=h',toks:=tk })
 (h0:xs.size=0->∀ (h':Heap) (tk:Nat),(∀ b o,s.heap.get? b=some o->h'.get? b=some o)->Q d { s with heap:=h',toks:=tk }) :
 wpAny (Pp prog w) A (call (.builtin "max") [.ref l] [(Pe "default",d)]) Q E s:=by
 refine kmk_tree F.kind_max F.plain_max F.entry_max (sy _ _) ?_
 refine O0 (wpAny_of_eq (a:=[none,some d]) rfl ?_)
 refine O0 (wpAny_pure ?_)
 refine O0 (iter_intList hl fun s₂ e2 st lt ne=>?_)
 subst e2
 refine O0 (wpAny_newList (wpAny_pure ⟨plainId_quiet F.plain_max_loop _,?_⟩))
 have W:=Walks.list (prog:=prog) (w:=w) (A:=A.in1) hh s.heap.objs.size l ne (Vr xs)
 have sz:(Vr xs).size=xs.size:=by simp[Vr]
 have nS:¬ (s.heap.push { cls:=.type "list_iterator",data:=.fields #[.ref l,.int 0 0] }).objs.size∈[s.heap.objs.size,l]:=fun z=>PZ _ (lt _ z)
 have kp:∀ {h':Heap},(∀ b o,¬ b∈[s.heap.objs.size]->b≠(s.heap.push { cls:=.type "list_iterator",data:=.fields #[.ref l,.int 0 0] }).objs.size->((s.heap.push { cls:=.type "list_iterator",data:=.fields #[.ref l,.int 0 0] }).push { cls:=.type "list",data:=.seq #[] }).get? b=some o->h'.get? b=some o)->∀ b o,s.heap.get? b=some o->h'.get? b=some o:=fun {h'} k b o e=>by
  have l1:=O7 e
  refine k b o (fun z=>?_) (fun z=>?_) (OZ _ (OZ _ e))
  ·rw[List.mem_singleton.mp z] at l1;exact PZ _ l1
  ·rw[z,QG] at l1;exact absurd l1 (Nat.not_lt.mpr (P9 _))
 have st':=W.frame 0 _ (((s.heap.push { cls:=.type "list_iterator",data:=.fields #[.ref l,.int 0 0] }).push { cls:=.type "list",data:=.seq #[] })) st fun b _ o e=>OZ _ e
 rcases Nat.eq_zero_or_pos xs.size with z | z
 ·rw[sz,z] at W
  exact vZ W _ st' (Pf _ rfl) fun h' tk k=>h0 z h' tk (kp fun b o b1 _ e=>k b o b1 e)
 ·refine vY W (fun i j=>decide (numAt xs i > numAt xs j)) (CmpOf.ints_gt _ fun i v e=>intItems_at e) _ nS (by rw[sz];exact z) st' (Pf _ rfl) fun v h' tk q k=>h1 z v h' tk (by rw[sz] at q;exact q) (kp k)
end
end BX
end
section
namespace BS
open PySem PySem.Spec PyProof.Rows L2
noncomputable abbrev FT:=BT.FK->List BT.W->BT.HH->Option (BT.W×BT.HH)
inductive spF (P:Pv) (w:P0) (K:OX) (g:List BT.W->BT.HH->Option (BT.W×BT.HH)) (vs:List V) (H:Hp) (Q:VK) (E:XK):Prop where
 | mk (m:List O9) (ws:List BT.W) (h:BT.HH) (z:BT.W) (h':BT.HH) (R:RH K m H h) (r:RWs P w K m H vs ws) (e:g ws h=some (z,h')) (p:Post P w K m H z h' Q):spF P w K g vs H Q E
inductive tD (X:Cx) (F:FT) (G:Str->Option BT.W) (e:BT.E) (σ:L2.St) (H:Hp) (Q:VK):Prop where
 | mk (m:List O9) (s:BT.Sl) (h:BT.HH) (z:BT.W) (h':BT.HH) (R:RH X.K m H h) (S:RS X.prog X.w X.K m H σ s) (q:BT.ev F G e s h=some (z,h')) (p:Post X.prog X.w X.K m H z h' Q):tD X F G e σ H Q
inductive tDs (X:Cx) (F:FT) (G:Str->Option BT.W) (es:BT.Es) (σ:L2.St) (H:Hp) (Q:List V->Hp->Prop):Prop where
 | mk (m:List O9) (s:BT.Sl) (h:BT.HH) (zs:List BT.W) (h':BT.HH) (R:RH X.K m H h) (S:RS X.prog X.w X.K m H σ s) (q:BT.evs F G es s h=some (zs,h')) (p:∀ vs H' m',Ext m H m' H'->RH X.K m' H' h'->RWs X.prog X.w X.K m' H' vs zs->Q vs H'):tDs X F G es σ H Q
inductive tDT (X:Cx) (F:FT) (G:Str->Option BT.W) (e:BT.E) (σ:L2.St) (H:Hp) (Q:Bool->Hp->Prop):Prop where
 | mk (m:List O9) (s:BT.Sl) (h:BT.HH) (b:Bool) (h':BT.HH) (R:RH X.K m H h) (S:RS X.prog X.w X.K m H σ s) (q:BT.ev F G e s h=some (.p (.bl b),h')) (p:∀ H' m',Ext m H m' H'->RH X.K m' H' h'->Q b H'):tDT X F G e σ H Q
noncomputable def qj (P:Pv) (w:P0) (K:OX) (mg:Str->Option Value) (base:Heap) (k L:Nat) (g:List BT.W->BT.HH->Option (BT.W×BT.HH)):Prop :=
 ∀ (A:QV) (outer:List Env) (s:O4) (H:Hp) (f:O9) (us:List Value) (vs cvs:List V) (m:List O9) (ws:List BT.W) (cs:List BT.Cp) (h:BT.HH) (z:BT.W) (h':BT.HH) (Q:VK) (E:XK),bA k A->kP P w K mg base A outer s H->ao vs us →
  RH K m H h->RWs P w K m H vs ws->BT.noC ws=true->gk m H f L cvs->RCs K m H cvs cs->g (ws++cs.map BT.Cp.w) h=some (z,h')->Post P w K m H z h' Q->codeAny (Pp P w) A (.call (.ref f) ⟨us,[]⟩) (CR CX0 outer P w H s Q E) s
structure LX (X:Cx) (x:Str):Prop where
 mem:x∈BT.dG
 ex:∃ c P,Qj X.K x=some (c,P)/\X.env.code=.ref c/\PySem.W.CodeHd X.base c P/\∀ y∈BT.dG,∀ c2,Qj X.K y=some (c2,P)->y=x
 ql:X.env.qual=x++".<locals>."
 bm:∃ bm ob,X.mg "__builtins__"=some (.ref bm)/\bm≠Rm/\X.base.get? bm=some ob/\ob.cls=.type "module"/\ob.dict=some Rm/\ob.data=.plain
noncomputable def Gd:List Str:=["len","abs","int","list","tuple","isinstance","str","bool","range","reversed","enumerate","zip","min","max","sorted","sum","all","any","set","ValueError","dict"]
inductive OkC (P:Pv) (w:P0) (K:OX) (mg:Str->Option Value) (base:Heap) (A:QV) (f:Str) (sp:Sp):Prop where
 | mk (fa:O9) (fd:Qm) (ps:List Str) (k:Nat) (h1:mg f=some (.ref fa)) (h2:PK K (.ref fa)=true) (h3:Binds K fd ps []) (h4:bA k A) (h5:bS P w K mg base CX0 k fa fd ps sp):OkC P w K mg base A f sp
inductive OkM (P:Pv) (w:P0) (K:OX) (mg:Str->Option Value) (base:Heap) (A:QV) (CX:CXT) (c m:Str) (sp:Sp):Prop where
 | mk (C g:O9) (fd:Qm) (ps:List Str) (k:Nat) (h1:iB K c C) (h2:nL K C m g) (h3:Binds K fd ps []) (h4:bA k A) (h5:bS P w K mg base CX k g fd ps sp):OkM P w K mg base A CX c m sp
inductive OkN (P:Pv) (w:P0) (K:OX) (mg:Str->Option Value) (base:Heap) (A:QV) (c:Str) (sp:Sp):Prop where
 | mk (C g:O9) (fd:Qm) (ps:List Str) (k:Nat) (h1:iB K c C) (h2:mg c=some (.ref C)) (h3:Mk K C g) (h4:Binds K fd ps []) (h5:bA (k+1) A) (h6:bS P w K mg base CX0 k g fd ps sp):OkN P w K mg base A c sp
structure Ok (X:Cx) (F:FT) (G:Str->Option BT.W) (sc:Qc) (N:List Str):Prop where
 hsc:X.env.scope=sc
 hN:X.N=N
 nd:X.N.Nodup
 calm:bB N=true->X.calm=true
 hu:X.A.units+150 < cLine
 own:UQ (Pp X.prog X.w) X.A X.env X.xe
 glob:∀ x z,G x=some z->∃ u v,X.mg x=some u/\RelV v u/\∀ m H,RW X.prog X.w X.K m H v z
 call:∀ (f:Str) ws h r,F (.f f) ws h=some r->OkC X.prog X.w X.K X.mg X.base X.A f (spF X.prog X.w X.K (F (.f f)))
 meth:∀ (c m:Str) ws h r,F (.m c m) ws h=some r->OkM X.prog X.w X.K X.mg X.base X.A CX0 c m (spF X.prog X.w X.K (F (.m c m)))
 mkc:∀ (c:Str) ws h r,F (.m c "__init__") ws h=some r->OkN X.prog X.w X.K X.mg X.base X.A c (spF X.prog X.w X.K (F (.m c "__init__")))
 blt:∀ x∈Gd,X.mg x=none
 lam:∀ (L:Nat) ws h r,F (.l L) ws h=some r->∃ k,bA k X.A/\qj X.prog X.w X.K X.mg X.base k L (F (.l L))
 lamx:(∀ x,X.fn x=true)->∀ x,N.contains (BT.bU x)=true->LX X x
theorem PE.weak (h:PE X e t) (q:∀ σ H Q,t' σ H Q->t σ H Q):PE X e t':=fun pins s σ H Q I hw=>h pins s σ H Q I (q _ _ _ hw)
theorem PT.weak (h:PT X e t) (q:∀ σ H Q,t' σ H Q->t σ H Q):PT X e t':=fun pins s σ H Q I hw=>h pins s σ H Q I (q _ _ _ hw)
theorem PW.weak (h:PW X e t) (q:∀ σ H Q,t' σ H Q->t σ H Q):PW X e t':=fun wh pins s σ H Q I hw=>h wh pins s σ H Q I (q _ _ _ hw)
theorem PA.weak (h:PA X es t) (q:∀ σ H Q,t' σ H Q->t σ H Q):PA X es t':=fun pos pins s σ H Q I hw=>h pos pins s σ H Q I (q _ _ _ hw)
theorem af (h:noStar e=true):Pu (e :: es) env=(false,eval e env) :: Pu es env:=by
 cases e<;>first | rfl | cases h
theorem yP (h:i8 b=true):tU b:=fun o i=>by
 cases b<;>first | rfl | cases h
theorem je (h:aB o=true):SI o name env (eval o env)=eval o env:=by
 cases o with
 | Call fn as ks p =>
  cases fn with
  | Attribute _ _ _=>rfl
  | _=>cases h
 | _=>first | rfl | cases h
noncomputable def ak:List O3->Bool
 | []=>true
 | e :: es=>noStar e&&ak es
theorem aC:∀ {es:List O3},ak es=true->(Qx pos (Pu es env)).any (·.1)=false
 | [],_=>rfl
 | e :: es,h=>by
  simp only[ak,OY] at h
  rw[af h.1]
  show (false||(Qx pos (Pu es env)).any (·.1))=false
  rw[aC h.2];rfl
theorem jf:∀ {es:List O3},ak es=true->(Qx pos (Pu es env)).all (fun x=>!x.1)=true
 | [],_=>rfl
 | e :: es,h=>by
  simp only[ak,OY] at h
  rw[af h.1]
  show (!false&&(Qx pos (Pu es env)).all (fun x=>!x.1))=true
  rw[jf h.2];rfl
noncomputable def Km:Tq->Prop
 | .es _ xs=>ak xs=true
 | _=>True
theorem yQ (h:CQ sc N t):Km t:=by
 induction h with
 | es_nil=>exact rfl
 | es_cons hs _ _ _ ih =>
  show (noStar _&&ak _)=true
  rw[OY];exact ⟨hs,ih⟩
 | _=>exact Q4
theorem cF (h:CEs sc N as es):ak es=true:=yQ h
noncomputable def noM:Tq->Prop
 | .es (.cons _ _) []=>False
 | _=>True
theorem Ge (h:CQ sc N t):noM t:=by cases h<;>exact Q4
theorem iP (h:CEs sc N (.cons a r) []):False:=Ge h
section
theorem ly (he:∀ s h,BT.ev F G e s h=BT.bnd (BT.ev F G a s h) (BT.k2 (BT.ev F G b s) f)) (σ:L2.St) (H:Hp) (Q:VK) (q:tD X F G e σ H Q) :
 tOp (rOp X.prog X.w X.K f) (tD X F G a) (tD X F G b) σ H Q:=by
 obtain ⟨m,s,h,z,h',R,S,ee,post⟩:=q
 rw[he] at ee
 obtain ⟨x,h1,e1,e2⟩:=ai ee
 simp only[BT.k2] at e2
 obtain ⟨y,h2,e3,e4⟩:=ai e2
 refine ⟨m,s,h,x,h1,R,S,e1,fun v H1 m1 x1 R1 r1=>?_⟩
 refine ⟨m1,s,h1,y,h2,R1,S.ext x1,e3,fun u H2 m2 x2 R2 r2=>?_⟩
 exact ⟨m2,h2,x,y,z,h',R2,r1.ext x2,r2,e4,fun w' H3 m3 x3 R3 r3=>post w' H3 m3 ((x1.trans x2).trans x3) R3 r3⟩
theorem qk (h:∀ σ H Q,tD X F G e σ H Q->t σ H Q) (σ:L2.St) (H:Hp) (Q:Bool->Hp->Prop) (q:tDT X F G e σ H Q):xH t σ H Q:=by
 obtain ⟨m,s,h0,b,h',R,S,ee,post⟩:=q
 refine h σ H _ ⟨m,s,h0,_,h',R,S,ee,fun v H' m' x R' r=>?_⟩
 cases r with
 | p r=>cases r;exact ⟨b,rfl,post H' m' x R'⟩
theorem opB (h:Eh o op=true):OpR X (Qq op) (rOp X.prog X.w X.K (BT.mw o)):=by
 rw[of_decide_eq_true h]
 cases o
 ·exact FZ
 ·exact F0
 ·exact F4
 ·exact F2
 ·exact B4
 ·exact F3
theorem El:∀ {es:List (Str×V)}{kvs:List (Str×BT.D)}{K:OX},RDk K es kvs->KV (es.map fun q=>((Sum.inr q.1:Key),q.2)) vs->(valueAt vs (Sum.inr k)).isSome=(BT.cM k kvs).isSome:=by
 intro es
 induction es generalizing vs with
 | nil =>
  intro kvs K r q
  cases r
  cases q
  rfl
 | cons p es ih =>
  intro kvs K r q
  cases r with
  | @cons x v dd _ kvs r t =>
   cases q with
   | @cons p z l1 l2 q1 q2 =>
    obtain ⟨z1,z2⟩:=z
    obtain ⟨q11,q12⟩:=q1
    simp only at q11 q12
    subst q11
    rw[BT.cM]
    by_cases c:k=x
    ·subst c
     simp[valueAt]
    ·rw[if_neg c]
     have ne:¬ ((Sum.inr x:Key)=Sum.inr k):=fun z=>c (Sum.inr.inj z).symm
     have:=ih t q2
     simp only[valueAt] at this ⊢
     rw[UR (by simpa using ne)]
     exact this
theorem opC (O:Ok X F G sc N) (h:B0 o op=true):OpR X (P4 op) (rOp X.prog X.w X.K (BT.gn o)):=by
 rw[of_decide_eq_true h]
 cases o
 ·exact Ka O.hu
 ·exact Kc O.hu
 ·exact Ke
 ·exact Kf
 ·exact Kg
 ·exact Kl
 ·exact F5
 ·exact B6
 ·refine F6 O.hu ?_
  intro kvs x b m H v u v' u' pins σ s Q I rv ru rx rk e q
  cases kvs with
  | t kvs =>
   cases x with
   | p d =>
    cases d<;>first | exact ay e | skip
    obtain rfl:=O5 e
    cases rk with
    | @k a es _ kd rk =>
     cases ru
     cases rx with
     | p rx =>
      cases rx with
      | str x ok =>
       obtain ⟨t,rfl⟩:=rv
       obtain ⟨hm,vs,kv,dd⟩:=kd
       have D:=dd s.heap I.kIn
       refine wpAny_in_of (knd:=aF X.prog X.w) (d9 _ _ _ t) hm D.mapOf ?_
       rw[El rk kv]
       exact ⟨.bl _,H,I.tok _,rfl,q⟩
   | _=>cases e
  | l kvs =>
   cases x with
   | p d =>
    obtain ⟨k,g1,g2⟩:=az (show (BT.j6 d).map (fun k=>(BT.c5 kvs k).isSome)=some b from e)
    subst g2
    cases rk with
    | @kl a ob ws _ hh rk =>
     cases ru
     cases rx with
     | p rx =>
      have ek:=su rx g1
      subst ek
      cases yG I (.inr ⟨_,hh.1⟩) rk k with
      | no vs dd n g1 g2 =>
       refine wpAny_in_of (knd:=aF X.prog X.w) (tV rv) n dd.mapOf ?_
       rw[g2]
       exact ⟨.bl _,H,I.tok _,rfl,by rw[g1] at q;exact q⟩
      | is vs dd n x v1 u1 g1 g2 g3 g4 =>
       refine wpAny_in_of (knd:=aF X.prog X.w) (tV rv) n dd.mapOf ?_
       rw[g2]
       exact ⟨.bl _,H,I.tok _,rfl,by rw[g1] at q;exact q⟩
   | _=>cases e
 ·refine B7 O.hu ?_
  intro kvs x b m H v u v' u' pins σ s Q I rv ru rx rk e q
  cases kvs with
  | t kvs =>
   cases x with
   | p d =>
    cases d<;>first | exact ay e | skip
    obtain rfl:=O5 e
    cases rk with
    | @k a es _ kd rk =>
     cases ru
     cases rx with
     | p rx =>
      cases rx with
      | str x ok =>
       obtain ⟨t,rfl⟩:=rv
       obtain ⟨hm,vs,kv,dd⟩:=kd
       have D:=dd s.heap I.kIn
       refine wpAny_notIn_of (knd:=aF X.prog X.w) (d9 _ _ _ t) hm D.mapOf ?_
       rw[El rk kv]
       exact ⟨.bl _,H,I.tok _,rfl,q⟩
   | _=>cases e
  | l kvs=>cases e
end
section
variable {X:Cx}{F:FT}{G:Str->Option BT.W}{sc:Qc}{N:List Str}
theorem Cb (O:Ok X F G sc N) (x:Str):X.env.kindOf x=sc.names.lookup x:=by rw[← O.hsc];rfl
theorem bK (h:aA x=true):(x==("__debug__":Str))=false/\(x==("__classdict__":Str))=false/\x≠"__name__":=by
 simp only[aA,OY,Q6] at h
 exact ⟨h.1.1,h.1.2,fun e=>by rw[e] at h;simp at h⟩
theorem aE (O:Ok X F G sc N) (h:av sc x=true):Gl X x:=by
 show X.env.kindOf x=_
 rw[Cb O]
 exact eq_of_beq h
theorem yR (O:Ok X F G sc N) (h:jT sc x=true):Vis X.env.scope x:=by
 rw[O.hsc]
 unfold jT at h
 unfold Vis
 cases e:sc.names.lookup x with
 | none=>rw[e] at h;cases h
 | some k=>rw[e] at h;cases k<;>first | (exact .inl rfl) | (exact .inr (.inl rfl)) | (exact .inr (.inr rfl)) | cases h
theorem oB (O:Ok X F G sc N) (h2:N[i]?=some y) (h3:jT sc y=true) (h4:aA y=true):PE X (.Name y pos) (tD X F G (.var i)):=by
 obtain ⟨d1,d2,_⟩:=bK h4
 refine PE.weak (rf (i:=i) (by rw[O.hN];exact h2) (yR O h3) d1 d2) fun σ H Q q=>?_
 obtain ⟨m,s,h,z,h',R,S,ee,post⟩:=q
 simp only[BT.ev] at ee
 split at ee
 ·rename_i w e
  cases ee
  obtain ⟨v,hv,r⟩:=S.get i _ e
  exact ⟨v,hv,post v H m (.refl _ _) R r⟩
 ·cases ee
theorem Cd (h:Ei d c=true):PE X (.Constant c k pos) (tD X F G (.cst d)):=by
 have fin:∀ {v:V},(∀ m H,RD X.K m H v d)->∀ σ H Q,tD X F G (.cst d) σ H Q->tC v σ H Q:=fun r σ H Q q=>by
  obtain ⟨m,s,h,z,h',R,S,ee,post⟩:=q
  simp only[BT.ev] at ee
  cases ee
  exact post _ H m (.refl _ _) R (.p (r m H))
 cases d<;>cases c<;>first | (cases h;done) | skip
 ·exact PE.weak EG (fin fun _ _=>.non)
 ·cases eq_of_beq h;exact PE.weak IC (fin fun _ _=>.bl _)
 ·cases eq_of_beq h;exact PE.weak rj (fin fun _ _=>.int _)
 ·have h:=Bool.and_eq_true_iff.mp h
  cases eq_of_beq h.1;exact PE.weak EI (fin fun _ _=>.str _ h.2)
theorem Ce (O:Ok X F G sc N) (h2:av sc y=true) (h3:aA y=true):PE X (.Name y pos) (tD X F G (.glo y)):=by
 obtain ⟨d1,d2,_⟩:=bK h3
 intro pins s σ H Q I q
 obtain ⟨m,s',h,z,h',R,S,ee,post⟩:=q
 simp only[BT.ev] at ee
 obtain ⟨w,e1,e2⟩:=az ee
 cases e2
 obtain ⟨u,v,hm,r,rw⟩:=O.glob _ _ e1
 exact ku (aE O h2) hm r d1 pins s σ H Q I (post v H m (.refl _ _) R (rw m H))
theorem Em (he:∀ s h,BT.ev F G e s h=BT.bnd (BT.ev F G a s h) k) (q:tD X F G e σ H Q)
 (h1:∀ m h x z h' v H1,RH X.K m H1 h->RW X.prog X.w X.K m H1 v x->k x h=some (z,h')->Post X.prog X.w X.K m H1 z h' Q->R' v H1):tD X F G a σ H R':=by
 obtain ⟨m,s,h,z,h',R,S,ee,post⟩:=q
 rw[he] at ee
 obtain ⟨x,g,e1,e2⟩:=ai ee
 exact ⟨m,s,h,x,g,R,S,e1,fun v H1 m1 x1 R1 r1=>h1 m1 g x z h' v H1 R1 r1 e2 fun w' H3 m3 x3 R3 r3=>post w' H3 m3 (x1.trans x3) R3 r3⟩
theorem fV (he:∀ s h,BT.ev F G e s h=BT.bnd (BT.evs F G as s h) k) (q:tD X F G e σ H Q)
 (h1:∀ m h xs z h' vs H1,RH X.K m H1 h->RWs X.prog X.w X.K m H1 vs xs->k xs h=some (z,h')->Post X.prog X.w X.K m H1 z h' Q->R' vs H1):tDs X F G as σ H R':=by
 obtain ⟨m,s,h,z,h',R,S,ee,post⟩:=q
 rw[he] at ee
 obtain ⟨x,g,e1,e2⟩:=ai ee
 exact ⟨m,s,h,x,g,R,S,e1,fun v H1 m1 x1 R1 r1=>h1 m1 g x z h' v H1 R1 r1 e2 fun w' H3 m3 x3 R3 r3=>post w' H3 m3 (x1.trans x3) R3 r3⟩
theorem ty_list (R:RH X.K m H h) (r:RW X.prog X.w X.K m H v (.r n)) (ok:BT.mz (.r n) h=true):tyV X.K "list" v H:=by
 cases r with
 | @r a _ hn =>
  obtain ⟨xs,e⟩:=Option.isSome_iff_exists.mp ok
  obtain ⟨vs,e,_⟩:=R.cell n a xs hn e
  exact .inl ⟨rfl,vs,.inl (.inl e)⟩
theorem uq (e:BT.kMe m ea x h=some r):BT.mz x h=true/\BT.bnd (ea h) (BT.meW m x)=some r:=by
 unfold BT.kMe at e
 split at e
 ·rename_i c;exact ⟨c,e⟩
 ·cases e
theorem NG (hm:m=.append\/m=.pop\/m=.extend) (e:BT.meW m x ws h=some (z,h')):∃ n,x=.r n:=by
 cases x with
 | r n=>exact ⟨n,rfl⟩
 | p d =>
  rcases hm with rfl | rfl | rfl<;>cases ws<;>rw[qi] at e<;>(split at e<;>(try cases e))<;>exact ay e
 | k q =>
  rcases hm with rfl | rfl | rfl<;>cases ws<;>(first | (cases e;done) | simp[BT.meW] at e)
 | x _ =>
  rcases hm with rfl | rfl | rfl<;>cases ws<;>(first | (cases e;done) | simp[BT.meW] at e)
 | c _ _ =>
  rcases hm with rfl | rfl | rfl<;>cases ws<;>(first | (cases e;done) | simp[BT.meW] at e)
 | o q =>
  rcases hm with rfl | rfl | rfl<;>cases ws<;>(first | (cases e;done) | simp[BT.meW] at e)
end
section
theorem oE {X:Cx}{e a:BT.E}{k:BT.Sl->BT.W->BT.HH->Option (BT.W×BT.HH)} (he:∀ s h,BT.ev F G e s h=BT.bnd (BT.ev F G a s h) (k s)) {σ:L2.St}{H:Hp}{Q:VK} (q:tD X F G e σ H Q) {R':V->Hp->Prop}
 (h1:∀ m s h x z h' v H1,RH X.K m H1 h->RS X.prog X.w X.K m H1 σ s->RW X.prog X.w X.K m H1 v x->k s x h=some (z,h')->Post X.prog X.w X.K m H1 z h' Q->R' v H1):tD X F G a σ H R':=by
 obtain ⟨m,s,h,z,h',R,S,ee,post⟩:=q
 rw[he] at ee
 obtain ⟨x,g,e1,e2⟩:=ai ee
 exact ⟨m,s,h,x,g,R,S,e1,fun v H1 m1 x1 R1 r1=>h1 m1 s g x z h' v H1 R1 (S.ext x1) r1 e2 fun w' H3 m3 x3 R3 r3=>post w' H3 m3 (x1.trans x3) R3 r3⟩
theorem Gf {X:Cx}{e a:BT.E}{k:BT.Sl->Bool->BT.HH->Option (BT.W×BT.HH)}{kk:BT.Sl->BT.W->BT.HH->Option (BT.W×BT.HH)} (he:∀ s h,BT.ev F G e s h=BT.bnd (BT.ev F G a s h) (kk s))
 (hk:∀ s x h r,kk s x h=some r->∃ b,x=.p (.bl b)/\k s b h=some r) {σ:L2.St}{H:Hp}{Q:VK} (q:tD X F G e σ H Q) {R':Bool->Hp->Prop}
 (h1:∀ m s h b z h' H1,RH X.K m H1 h->RS X.prog X.w X.K m H1 σ s->k s b h=some (z,h')->Post X.prog X.w X.K m H1 z h' Q->R' b H1):tDT X F G a σ H R':=by
 obtain ⟨m,s,h,z,h',R,S,ee,post⟩:=q
 rw[he] at ee
 obtain ⟨x,g,e1,e2⟩:=ai ee
 obtain ⟨b,rfl,e3⟩:=hk _ _ _ _ e2
 exact ⟨m,s,h,b,g,R,S,e1,fun H1 m1 x1 R1=>h1 m1 s g b z h' H1 R1 (S.ext x1) e3 fun w' H3 m3 x3 R3 r3=>post w' H3 m3 (x1.trans x3) R3 r3⟩
theorem jF {K:OX} (r:RW P w K m H v (.p (.bl b))):v=.bl b:=by
 cases r with | p r=>cases r;rfl
theorem ur (e:BT.BP eb x h=some r):∃ b,x=.p (.bl b)/\(if b=true then eb h else some (.p (.bl false),h))=some r:=by
 cases x with
 | p d =>
  cases d<;>simp only[BT.BP] at e<;>try contradiction
  exact ⟨_,rfl,e⟩
 | r n=>cases e
 | k q=>cases e
 | c _ _=>cases e
 | x _=>cases e
 | o q=>cases e
theorem yS (e:BT.kOr eb x h=some r):∃ b,x=.p (.bl b)/\(if b=true then some (.p (.bl true),h) else eb h)=some r:=by
 cases x with
 | p d =>
  cases d<;>simp only[BT.kOr] at e<;>try contradiction
  exact ⟨_,rfl,e⟩
 | r n=>cases e
 | k q=>cases e
 | c _ _=>cases e
 | x _=>cases e
 | o q=>cases e
theorem Cf (e:BT.BQ ea eb x h=some r):∃ b,x=.p (.bl b)/\(if b=true then ea h else eb h)=some r:=by
 cases x with
 | p d =>
  cases d<;>simp only[BT.BQ] at e<;>try contradiction
  exact ⟨_,rfl,e⟩
 | r n=>cases e
 | k q=>cases e
 | c _ _=>cases e
 | x _=>cases e
 | o q=>cases e
theorem uv (e:BT.BO x h=some r):∃ b,x=.p (.bl b)/\r=(.p (.bl (!b)),h):=by
 cases x with
 | p d =>
  cases d<;>simp only[BT.BO] at e<;>try contradiction
  cases e;exact ⟨_,rfl,rfl⟩
 | r n=>cases e
 | k q=>cases e
 | c _ _=>cases e
 | x _=>cases e
 | o q=>cases e
theorem Cg (e:BT.BN x h=some r):∃ i,x=.p (.int i)/\r=(.p (.int (-i)),h):=by
 cases x with
 | p d =>
  cases d<;>simp only[BT.BN] at e<;>try contradiction
  cases e;exact ⟨_,rfl,rfl⟩
 | r n=>cases e
 | k q=>cases e
 | c _ _=>cases e
 | x _=>cases e
 | o q=>cases e
theorem uw {X:Cx}{a b:BT.E} (σ:L2.St) (H:Hp) (Q:VK) (q:tD X F G (.and a b) σ H Q):DY (tD X F G a) (tD X F G b) σ H Q:=by
 refine oE (k:=fun s=>BT.BP (BT.ev F G b s)) (fun s h=>by simp only[BT.ev]) q fun m s h x z h' v H1 R S r e post=>?_
 obtain ⟨c,rfl,e2⟩:=ur e
 refine ⟨c,jF r,?_⟩
 cases c with
 | true=>rw[if_pos rfl] at e2 ⊢;exact ⟨m,s,h,z,h',R,S,e2,post⟩
 | false=>rw[if_neg (by decide)] at e2 ⊢;cases e2;exact post.here R (.bl _)
theorem yT {X:Cx}{a b:BT.E} (σ:L2.St) (H:Hp) (Q:VK) (q:tD X F G (.or a b) σ H Q):IF (tD X F G a) (tD X F G b) σ H Q:=by
 refine oE (k:=fun s=>BT.kOr (BT.ev F G b s)) (fun s h=>by simp only[BT.ev]) q fun m s h x z h' v H1 R S r e post=>?_
 obtain ⟨c,rfl,e2⟩:=yS e
 refine ⟨c,jF r,?_⟩
 cases c with
 | true=>rw[if_pos rfl] at e2 ⊢;cases e2;exact post.here R (.bl _)
 | false=>rw[if_neg (by decide)] at e2 ⊢;exact ⟨m,s,h,z,h',R,S,e2,post⟩
theorem ux (σ:L2.St) (H:Hp) (Q:Bool->Hp->Prop) (q:tDT X F G (.and a b) σ H Q):ID (tDT X F G a) (tDT X F G b) σ H Q:=by
 obtain ⟨m,s,h,c,h',R,S,ee,post⟩:=q
 simp only[BT.ev] at ee
 obtain ⟨x,g,e1,e2⟩:=ai ee
 obtain ⟨d,rfl,e3⟩:=ur e2
 refine ⟨m,s,h,d,g,R,S,e1,fun H1 m1 x1 R1=>?_⟩
 cases d with
 | true=>rw[if_pos rfl] at e3 ⊢;exact ⟨m1,s,g,c,h',R1,S.ext x1,e3,fun H2 m2 x2 R2=>post H2 m2 (x1.trans x2) R2⟩
 | false=>rw[if_neg (by decide)] at e3 ⊢;cases e3;exact post H1 m1 x1 R1
theorem yU (σ:L2.St) (H:Hp) (Q:Bool->Hp->Prop) (q:tDT X F G (.or a b) σ H Q):tOr (tDT X F G a) (tDT X F G b) σ H Q:=by
 obtain ⟨m,s,h,c,h',R,S,ee,post⟩:=q
 simp only[BT.ev] at ee
 obtain ⟨x,g,e1,e2⟩:=ai ee
 obtain ⟨d,rfl,e3⟩:=yS e2
 refine ⟨m,s,h,d,g,R,S,e1,fun H1 m1 x1 R1=>?_⟩
 cases d with
 | true=>rw[if_pos rfl] at e3 ⊢;cases e3;exact post H1 m1 x1 R1
 | false=>rw[if_neg (by decide)] at e3 ⊢;exact ⟨m1,s,g,c,h',R1,S.ext x1,e3,fun H2 m2 x2 R2=>post H2 m2 (x1.trans x2) R2⟩
theorem Ci (σ:L2.St) (H:Hp) (Q:Bool->Hp->Prop) (q:tDT X F G (.not a) σ H Q):IE (tDT X F G a) σ H Q:=by
 obtain ⟨m,s,h,c,h',R,S,ee,post⟩:=q
 simp only[BT.ev] at ee
 obtain ⟨x,g,e1,e2⟩:=ai ee
 obtain ⟨d,rfl,e3⟩:=uv e2
 cases e3
 exact ⟨m,s,h,d,h',R,S,e1,fun H1 m1 x1 R1=>post H1 m1 x1 R1⟩
theorem Cj {X:Cx}{a:BT.E} (σ:L2.St) (H:Hp) (Q:VK) (q:tD X F G (.not a) σ H Q):DZ (tD X F G a) σ H Q:=by
 refine oE (k:=fun s=>BT.BO) (fun s h=>by simp only[BT.ev]) q fun m s h x z h' v H1 R S r e post=>?_
 obtain ⟨c,rfl,e2⟩:=uv e
 cases e2
 exact ⟨c,jF r,post.here R (.bl _)⟩
theorem Gg {X:Cx}{c a b:BT.E} (σ:L2.St) (H:Hp) (Q:VK) (q:tD X F G (.ite c a b) σ H Q):tIf (tDT X F G c) (tD X F G a) (tD X F G b) σ H Q:=by
 refine Gf (k:=fun s t h=>if t=true then BT.ev F G a s h else BT.ev F G b s h) (kk:=fun s=>BT.BQ (BT.ev F G a s) (BT.ev F G b s)) (fun s h=>by simp only[BT.ev]) (fun s x h r e=>Cf e) q fun m s h t z h' H1 R S e post=>?_
 cases t with
 | true=>rw[if_pos rfl] at e ⊢;exact ⟨m,s,h,z,h',R,S,e,post⟩
 | false=>rw[if_neg (by decide)] at e ⊢;exact ⟨m,s,h,z,h',R,S,e,post⟩
theorem Gi {X:Cx}{a:BT.E} (σ:L2.St) (H:Hp) (Q:VK) (q:tD X F G (.neg a) σ H Q):tUn (rU fun i=>.int (-i)) (tD X F G a) σ H Q:=by
 refine oE (k:=fun s=>BT.BN) (fun s h=>by simp only[BT.ev]) q fun m s h x z h' v H1 R S r e post=>?_
 obtain ⟨c,rfl,e2⟩:=Cg e
 cases e2
 cases r with | p r=>cases r;exact ⟨c,rfl,post.here R (.int _)⟩
theorem qm (σ:L2.St) (H:Hp) (Q:VK) (q:tD X F G (.chain o o' a b c) σ H Q) :
 rD (rOp X.prog X.w X.K (BT.gn o)) (rOp X.prog X.w X.K (BT.gn o')) (tD X F G a) (tD X F G b) (tD X F G c) σ H Q:=by
 obtain ⟨m,s,h,z,h',R,S,ee,post⟩:=q
 simp only[BT.ev] at ee
 obtain ⟨x,h1,e1,e2⟩:=ai ee
 simp only[BT.k2] at e2
 obtain ⟨y,h2,e3,e4⟩:=ai e2
 refine ⟨m,s,h,x,h1,R,S,e1,fun v H1 m1 x1 R1 r1=>?_⟩
 refine ⟨m1,s,h1,y,h2,R1,S.ext x1,e3,fun u H2 m2 x2 R2 r2=>?_⟩
 unfold BT.oCh at e4
 cases g1:BT.rd x h2 with
 | none=>rw[g1] at e4;cases e4
 | some d =>
  cases y with
  | r _=>rw[g1] at e4;cases e4
  | k _=>rw[g1] at e4;cases e4
  | c _ _=>rw[g1] at e4;cases e4
  | x _=>rw[g1] at e4;cases e4
  | o _=>rw[g1] at e4;cases e4
  | p d' =>
   rw[g1] at e4
   simp only at e4
   have ho:∀ (o:BT.Cm) (x':BT.W) (hh:BT.HH) dd,BT.rd x' hh=some dd->∀ y' dd',BT.rd y' hh=some dd'->BT.gn o x' y' hh=(BT.d8 o dd dd').map fun z=>(.p (.bl z),hh):=by
    intro o x' hh dd q1 y' dd' q2
    unfold BT.gn
    cases y' with
    | p _=>simp only[q1,q2]
    | r _=>simp only[q1,q2]
    | k _=>cases q2
    | c _ _=>cases q2
    | x _=>cases q2
    | o _=>cases q2
   cases g3:BT.d8 o d d' with
   | none=>rw[g3] at e4;cases e4
   | some t =>
    rw[g3] at e4
    refine ⟨m2,h2,x,.p d',.p (.bl t),h2,R2,r1.ext x2,r2,by rw[ho o x h2 d g1 (.p d') d' rfl,g3];rfl,fun v3 H3 m3 x3 R3 r3=>⟨t,jF r3,?_⟩⟩
    cases t with
    | false =>
     rw[if_neg (by decide)]
     cases e4
     exact post _ H3 m3 ((x1.trans x2).trans x3) R3 (.p (.bl _))
    | true =>
     rw[if_pos rfl]
     obtain ⟨w3,h3,e5,e6⟩:=ai e4
     refine ⟨m3,s,h2,w3,h3,R3,((S.ext x1).ext x2).ext x3,e5,fun v4 H4 m4 x4 R4 r4=>?_⟩
     unfold BT.JD at e6
     cases g4:BT.rd w3 h3 with
     | none=>rw[g4] at e6;cases e6
     | some f =>
      rw[g4] at e6
      simp only at e6
      refine ⟨m4,h3,.p d',w3,z,h',R4,(r2.ext x3).ext x4,r4,by rw[ho o' (.p d') h3 d' rfl w3 f g4];exact e6,fun v5 H5 m5 x5 R5 r5=>post v5 H5 m5 ((((x1.trans x2).trans x3).trans x4).trans x5) R5 r5⟩
theorem Gj {lo:BT.Es} (hl:∀ σ H (Q:Option Int->Hp->Prop),(∃ m s h l zs h',RH X.K m H h/\RS X.prog X.w X.K m H σ s/\BT.evs F G lo s h=some (zs,h')/\(BT.aK zs).bind BT.nR=some l/\∀ H' m',Ext m H m' H'->RH X.K m' H' h'->Q l H')->tl σ H Q)
 (hh:∀ σ H (Q:Option Int->Hp->Prop),(∃ m s h l zs h',RH X.K m H h/\RS X.prog X.w X.K m H σ s/\BT.evs F G hi s h=some (zs,h')/\(BT.aK zs).bind BT.nR=some l/\∀ H' m',Ext m H m' H'->RH X.K m' H' h'->Q l H')->th σ H Q)
 (σ:L2.St) (H:Hp) (Q:VK) (q:tD X F G (.slc a lo hi) σ H Q):tSl (rSl X.prog X.w X.K) (tD X F G a) tl th σ H Q:=by
 obtain ⟨m,s,h,z,h',R,S,ee,post⟩:=q
 simp only[BT.ev] at ee
 obtain ⟨x,h1,e1,e2⟩:=ai ee
 simp only[BT.JG] at e2
 obtain ⟨ls,h2,e3,e4⟩:=ai e2
 simp only[BT.JF] at e4
 obtain ⟨us,h3,e5,e6⟩:=ai e4
 unfold BT.JE at e6
 cases g1:BT.rd x h3 with
 | none=>rw[g1] at e6;cases e6
 | some d =>
  cases g2:(BT.aK ls).bind BT.nR with
  | none=>rw[g1,g2] at e6;cases e6
  | some l =>
   cases g3:(BT.aK us).bind BT.nR with
   | none=>rw[g1,g2,g3] at e6;cases e6
   | some u =>
    rw[g1,g2,g3] at e6
    simp only at e6
    obtain ⟨b,e7,e8⟩:=az e6
    cases e8
    refine ⟨m,s,h,x,h1,R,S,e1,fun v H1 m1 x1 R1 r1=>hl σ H1 _ ⟨m1,s,h1,l,ls,h2,R1,S.ext x1,e3,g2,fun H2 m2 x2 R2=>hh σ H2 _ ⟨m2,s,h2,u,us,h',R2,(S.ext x1).ext x2,e5,g3,fun H3 m3 x3 R3=>?_⟩⟩⟩
    exact ⟨m3,h',x,d,b,R3,(r1.ext x2).ext x3,g1,e7,fun v5 H5 m5 x5 R5 r5=>post v5 H5 m5 (((x1.trans x2).trans x3).trans x5) R5 r5⟩
end
section
theorem uy (hs:sp=spF X.prog X.w X.K (F (.f f))) (q:tD X F G (.call f as) σ H Q):xQ sp [] E0 (tDs X F G as) σ H Q:=by
 subst hs
 refine fV (k:=fun ws h=>F (.f f) ws h) (fun s h=>by simp only[BT.ev]) q fun m h xs z h' vs H1 R r e post=>?_
 rw[PY]
 exact ⟨m,xs,h,z,h',R,r,e,post⟩
theorem fW (q:tDs X F G .nil σ H Q):xP σ H Q:=by
 obtain ⟨m,s,h,zs,h',R,S,ee,post⟩:=q
 simp only[BT.evs] at ee
 cases ee
 exact post [] H m (.refl _ _) R .nil
theorem yV (O:Ok X F G sc N) (hg:av sc f=true) (hn:aA f=true) (hc:CEs sc N as es) (ha:PA X es (tDs X F G as)) :
 PE X (.Call (.Name f p) es [] pos) (tD X F G (.call f as)):=by
 have hst:=cF hc
 intro pins s σ H Q I q
 have q0:=q
 obtain ⟨m,s',h,z,h',R,S,ee,post⟩:=q
 simp only[BT.ev] at ee
 obtain ⟨ws,h1,e1,e2⟩:=ai ee
 obtain ⟨fa,fd,ps,k,hm,hk,hb,hr,ok⟩:=O.call _ _ _ _ e2
 cases es with
 | nil =>
  cases as with
  | cons a r=>exact (iP hc).elim
  | nil=>exact (PE.weak (pM ok hr (aE O hg) hm hk hb .nil kU (bK hn).1) (fun σ H Q z=>fW (uy (X:=X) rfl z))) pins s σ H Q I q0
 | cons e es =>
  simp only[ak,OY] at hst
  exact (PE.weak (tQ ok hr (aE O hg) hm hk hb .nil kU ha (bK hn).1 (af hst.1) (aC hst.2)) (fun σ H Q z=>uy rfl z)) pins s σ H Q I q0
theorem jG {id:String} (pa:PlainAttrs T) (slot:Slot T name id)
 (hty:typeOf (.builtin id)=pure (.type "method_descriptor")) (hm:MtR X id (rMe X.prog X.w X.K me)) (hb:aB oe=true) (hl:(apos.endLine==cpos.line)=true) (hlen:es.length < 20) (ho:PE X oe (tD X F G o)) (hc:CEs sc N as es) (ha:PA X es (tDs X F G as))
 (ty:∀ (m:List O9) (h h2:BT.HH) (H:Hp) (v:V) (x:BT.W) ws r,RH X.K m H h->RW X.prog X.w X.K m H v x->BT.mz x h=true->BT.meW me x ws h2=some r->(∃ σ s,RS X.prog X.w X.K m H σ s/\∃ h0,BT.ev F G o s h0=some (x,h))->tyV X.K T v H) :
 PE X (.Call (.Attribute oe name apos) es [] cpos) (tD X F G (.me me o as)):=by
 have hst:=cF hc
 have key:∀ σ H Q,tD X F G (.me me o as) σ H Q->tBM X.K T (rMe X.prog X.w X.K me) (tD X F G o) (tDs X F G as) σ H Q:=by
  intro σ H Q q
  obtain ⟨m,s,h,z,h',R,S,ee,post⟩:=q
  simp only[BT.ev] at ee
  obtain ⟨x,h1,e1,e2⟩:=ai ee
  obtain ⟨ok,e2⟩:=uq e2
  obtain ⟨ws,h2,e3,e4⟩:=ai e2
  refine ⟨m,s,h,x,h1,R,S,e1,fun v H1 m1 x1 R1 r1=>⟨ty m1 h1 h2 H1 v x ws _ R1 r1 ok e4 ⟨σ,s,S.ext x1,h,e1⟩,m1,s,h1,ws,h2,R1,S.ext x1,e3,fun vs H2 m2 x2 R2 r2=>?_⟩⟩
  exact ⟨m2,h2,x,ws,z,h',R2,r1.ext x2,r2,e4,fun v5 H5 m5 x5 R5 r5=>post v5 H5 m5 ((x1.trans x2).trans x5) R5 r5⟩
 cases es with
 | nil =>
  cases as with
  | cons a r=>exact (iP hc).elim
  | nil =>
   refine PE.weak (Fi pa slot hty hm ho (je hb) hl) fun σ H Q q=>?_
   obtain ⟨m,s,h,z,h',R,S,ee,post⟩:=key σ H Q q
   exact ⟨m,s,h,z,h',R,S,ee,fun v H1 m1 x1 R1 r1=>⟨(post v H1 m1 x1 R1 r1).1,fW (post v H1 m1 x1 R1 r1).2⟩⟩
 | cons e es =>
  simp only[ak,OY] at hst
  refine PE.weak (D9 pa slot hty hm ho ha (je hb) ?_ hl (af hst.1) (aC hst.2)) key
  rw[jf (es:=e :: es) (by simp only[ak,OY];exact hst)]
  have h30:decide ((e :: es).length+([]:List Ut).length+(if ([]:List Ut).isEmpty then 0 else 1) < 30)=true:=decide_eq_true (by
   simp only[Po,Qe,List.isEmpty_nil,if_true] at hlen ⊢;lia)
  rw[h30];rfl
theorem jg (q:tD X F G (.bi b mu as) σ H Q):tCB (rBi X.prog X.w X.K b mu) (tDs X F G as) σ H Q:=by
 refine fV (k:=fun ws h=>BT.kBi b mu ws h) (fun s h=>by simp only[BT.ev]) q fun m h xs z h' vs H1 R r e post=>?_
 exact ⟨m,h,xs,z,h',R,r,e,post⟩
theorem Gk (O:Ok X F G sc N) (hu:bB N=true) (hb:Ej b mu x=true) (hg:av sc x=true) (hst:ak (e :: es)=true) (ha:PA X (e :: es) (tDs X F G as)) :
 PE X (.Call (.Name x p) (e :: es) [] pos) (tD X F G (.bi b mu as)):=by
 simp only[ak,OY] at hst
 have hx:yr b mu=some x:=eq_of_beq hb
 have hB:=O.blt
 cases b<;>cases mu<;>first | (cases hx;done) | (change some _=some _ at hx)
 all_goals (cases hx)
 ·exact PE.weak (cZ Ga (aE O hg) (hB _ (by decide)) PySem.boot_len ha (by decide) (by decide) (af hst.1) (aC hst.2)) (fun σ H Q z=>jg z)
 ·exact PE.weak (cZ Gb (aE O hg) (hB _ (by decide)) (by decide +kernel) ha (by decide) (by decide) (af hst.1) (aC hst.2)) (fun σ H Q z=>jg z)
 ·exact PE.weak (gT Gc (aE O hg) (hB _ (by decide)) (by decide +kernel) ha (by decide) (by decide) (af hst.1) (aC hst.2)) (fun σ H Q z=>jg z)
 ·exact PE.weak (gT um (aE O hg) (hB _ (by decide)) (by decide +kernel) ha (by decide) (by decide) (af hst.1) (aC hst.2)) (fun σ H Q z=>jg z)
 ·exact PE.weak (gT um (aE O hg) (hB _ (by decide)) (by decide +kernel) ha (by decide) (by decide) (af hst.1) (aC hst.2)) (fun σ H Q z=>jg z)
 ·exact PE.weak (gT yK (aE O hg) (hB _ (by decide)) (by decide +kernel) ha (by decide) (by decide) (af hst.1) (aC hst.2)) (fun σ H Q z=>jg z)
theorem v8 (hb:qd b=some (c,f)):bW X (.builtin "isinstance") (fun vs H Q=>∃ v,vs=[v,.ty c]/\rBi X.prog X.w X.K b false [v] H Q):=by
 intro pins s σ H vs us Q I rus h
 obtain ⟨v,rfl,m,h,ws,z,h',R,rws,e,post⟩:=h
 obtain ⟨u,u2,rfl,ru,ru2⟩:=rus.two
 cases ru2
 obtain ⟨ds,d,e1,e2,⟨_,rfl,rfl⟩ | ⟨_,q,_⟩⟩:=fU e
 ·have rr:=cT R rws e1
  cases rr with
  | cons r t =>
   cases t
   rw[yM hb] at e2
   cases e2
   exact Ca I r ru (yN hb X.K _) fun tk=>⟨.bl _,H,I.tok tk,rfl,post.here R (.bl _)⟩
 ·cases q
theorem yW (O:Ok X F G sc N) (hb:qd b=some (c,f)) (hg:av sc "isinstance"=true) (hg2:av sc (Pe c)=true) (hst:noStar e=true) (ha:PE X e (tD X F G a)) :
 PE X (.Call (.Name "isinstance" p) [e,.Name (Pe c) p2] [] pos) (tD X F G (.bi b false (.cons a .nil))):=by
 have hB:=O.blt
 have hc:PE X (.Name (Pe c) p2) (tC (.ty c)):=by
  cases b<;>simp only[qd] at hb<;>try contradiction
  all_goals (cases hb)
  ·exact gS (aE O hg2) (hB _ (by decide)) (u:=.type "int") (by decide +kernel) rfl (by decide) (by decide)
  ·exact gS (aE O hg2) (hB _ (by decide)) (u:=.type "bool") (by decide +kernel) rfl (by decide) (by decide)
  ·exact gS (aE O hg2) (hB _ (by decide)) (u:=.type "str") (by decide +kernel) rfl (by decide) (by decide)
  ·exact gS (aE O hg2) (hB _ (by decide)) (u:=.type "tuple") (by decide +kernel) rfl (by decide) (by decide)
  ·exact gS (aE O hg2) (hB _ (by decide)) (u:=.type "list") (by decide +kernel) rfl (by decide) (by decide)
 refine PE.weak (cZ (v8 hb) (aE O hg) (hB _ (by decide)) (by decide +kernel) (bO ha (bO hc iH) (af hst)) (by decide) (by decide) (af hst) rfl) fun σ H Q q=>?_
 obtain ⟨m,s,h,z,h',R,S,ee,post⟩:=q
 simp only[BT.ev,BT.evs] at ee
 obtain ⟨ws,h1,e1,e2⟩:=ai ee
 obtain ⟨x,h2,e3,e4⟩:=ai e1
 simp only[BT.jR,BT.bX,BT.iJ] at e4
 cases e4
 refine ⟨m,s,h,x,h1,R,S,e3,fun v H1 m1 x1 R1 r1=>?_⟩
 exact ⟨v,rfl,m1,h1,[x],z,h',R1,.cons r1 .nil,e2,fun v5 H5 m5 x5 R5 r5=>post v5 H5 m5 (x1.trans x5) R5 r5⟩
theorem Gm (σ:L2.St) (H:Hp) (Q:VK) (q:tD X F G (.tup as) σ H Q):Ja (tDs X F G as) σ H Q:=by
 refine fV (k:=fun ws h=>BT.FE ws h) (fun s h=>by simp only[BT.ev]) q fun m h xs z h' vs H1 R r e post=>?_
 unfold BT.FE at e
 cases g:BT.aK xs with
 | none=>rw[g] at e;cases e
 | some ds =>
  rw[g] at e
  simp only at e
  split at e
  ·rename_i c
   cases e
   have rd:=r.pure g
   have:=cu
   have hl:=rd.length
   exact ⟨by lia,fun p hp=>ja R hp rd post⟩
  ·cases e
theorem Gn (σ:L2.St) (H:Hp) (Q:VK) (q:tD X F G (.lst mu as) σ H Q):Jb (tDs X F G as) σ H Q:=by
 refine fV (k:=fun ws h=>BT.FF mu ws h) (fun s h=>by simp only[BT.ev]) q fun m h xs z h' vs H1 R r e post=>?_
 unfold BT.FF at e
 cases g:BT.aK xs with
 | none=>rw[g] at e;cases e
 | some ds =>
  rw[g] at e
  simp only at e
  split at e
  ·rename_i c
   have rd:=r.pure g
   have:=cu
   have hl:=rd.length
   have ez:BT.new mu ds h=(z,h'):=O5 e
   exact ⟨by lia,fun p hp=>fS (mu:=mu) R hp rd (by rw[ez];exact post)⟩
  ·cases e
theorem cons_of (σ:L2.St) (H:Hp) (Q:List V->Hp->Prop) (q:tDs X F G (.cons a as) σ H Q):D7 (tD X F G a) (tDs X F G as) σ H Q:=by
 obtain ⟨m,s,h,zs,h',R,S,ee,post⟩:=q
 simp only[BT.evs] at ee
 obtain ⟨x,h1,e1,e2⟩:=ai ee
 simp only[BT.jR] at e2
 obtain ⟨xs,h2,e3,e4⟩:=ai e2
 simp only[BT.iJ] at e4
 cases e4
 exact ⟨m,s,h,x,h1,R,S,e1,fun v H1 m1 x1 R1 r1=>⟨m1,s,h1,xs,h',R1,S.ext x1,e3,fun vs H2 m2 x2 R2 r2=>post _ H2 m2 (x1.trans x2) R2 (.cons (r1.ext x2) r2)⟩⟩
end
section
variable {K:OX}
theorem RFs.get:∀ {vs:List (Str×V)}{fs:List (Str×BT.W)},RFs K m H vs fs->BT.aN f fs=some x->∃ v,vs.lookup f=some v/\RA K m H v x
 | _,_,.nil,e=>by cases e
 | _,_,.cons (f:=g) r t,e=>by
  rw[BT.m7] at e
  by_cases c:f=g
  ·rw[if_pos c] at e;cases e;subst c;exact ⟨_,by simp,r⟩
  ·rw[if_neg c] at e
   obtain ⟨v,h1,h2⟩:=RFs.get t e
   exact ⟨v,by rw[Qg];rw[beq_false_of_ne c];exact h1,h2⟩
theorem RFs.none:∀ {vs:List (Str×V)}{fs:List (Str×BT.W)},RFs K m H vs fs->(BT.aN f fs).isNone=true->vs.lookup f=none
 | _,_,.nil,_=>rfl
 | _,_,.cons (f:=g) r t,e=>by
  rw[BT.m7] at e
  by_cases c:f=g
  ·rw[if_pos c] at e;cases e
  ·rw[if_neg c] at e
   rw[Qg,beq_false_of_ne c]
   exact RFs.none t e
theorem RFs.put (q:RA K m H v x):∀ {vs:List (Str×V)}{fs:List (Str×BT.W)},RFs K m H vs fs->RFs K m H (L2.aY f v vs) (BT.aY f x fs)
 | _,_,.nil=>.cons q .nil
 | _,_,.cons (f:=g) r t=>by
  rw[L2.aY,BT.vJ]
  by_cases c:f=g
  ·rw[if_pos c,if_pos c.symm];subst c;exact .cons q t
  ·rw[if_neg c,if_neg (Qp c)];exact .cons r (RFs.put q t)
theorem RFs.length:∀ {vs:List (Str×V)}{fs:List (Str×BT.W)},RFs K m H vs fs->vs.length=fs.length
 | _,_,.nil=>rfl
 | _,_,.cons _ t=>by rw[Po,Po,RFs.length t]
end
section
theorem Ck (e:BT.BU f x h=some r):∃ n c fs w,x=.o n/\BT.oat h n=some (c,fs)/\BT.aN f fs=some w/\r=(w,h):=by
 cases x with
 | o n =>
  rw[BT.FH] at e
  cases g:BT.oat h n with
  | none=>rw[g] at e;cases e
  | some q =>
   obtain ⟨c,fs⟩:=q
   rw[g] at e
   obtain ⟨w,e1,e2⟩:=az e
   exact ⟨n,c,fs,w,rfl,g,e1,e2.symm⟩
 | p d=>cases e
 | r n=>cases e
 | k q=>cases e
 | c _ _=>cases e
 | x _=>cases e
theorem Cn {sc:Qc}{N:List Str} (hb:aB x=true) (hf:attrName f=true) (ha:PE X x (tD X F G a)):PE X (.Attribute x f p) (tD X F G (.fld a f)):=by
 refine PE.weak (E6 ha (je hb)) fun σ H Q q=>?_
 refine Em (k:=BT.BU f) (fun s h=>by simp only[BT.ev]) q fun m h x z h' v H1 R r e post=>?_
 obtain ⟨n,c,fs,w,rfl,e1,e2,e3⟩:=Ck e
 cases e3
 cases r with
 | o hn =>
  obtain ⟨C,dx,vs,h1,h2,h3⟩:=R.k8 _ _ _ _ hn e1
  obtain ⟨u,l,ra⟩:=h3.get e2
  exact ⟨_,C,dx,vs,u,rfl,h1,h2.cls,h2.no f hf,l,post u H1 m (.refl _ _) R ra.rw⟩
theorem fH (hb:aB o=true) (hst:ak args=true) (hlen:args.length < 20) (hl:(apos.endLine==pos.line)=true) :
 eval (.Call (.Attribute o m apos) args [] pos) env=(do
  let ov ← eval o env
  standAt apos.atName
  let (f,first) ← holding [ov] (Uc ov m (do return (← importBound o env).getD true))
  callWith pos f first (Qx pos (Pu args env)) (Tj pos (RI [] env))):=by
 have hf:methodCallForm (args.length+([]:List Ut).length) (Qx pos (Pu args env)) (Tj pos (RI [] env))=true:=by
  unfold methodCallForm
  have h30:decide (args.length+([]:List Ut).length+(if (Tj pos (RI [] env)).isEmpty then 0 else 1) < 30)=true:=decide_eq_true (by
   show args.length+0+0 < 30
   lia)
  rw[h30,jf hst];rfl
 rw[arm_eval_Call,je hb]
 unfold methodCall
 rw[hf]
 have hp:methodCallPos true o env apos pos=pure pos:=by
  unfold methodCallPos
  rw[hl];rfl
 rw[hp]
 rfl
theorem yX (e:BT.yd F m ea x h=some r) :
 ∃ n c fs ws g,x=.o n/\BT.oat h n=some (c,fs)/\(BT.aN m fs).isNone=true/\ea h=some (ws,g)/\F (.m c m) (.o n :: ws) g=some r:=by
 cases x with
 | o n =>
  rw[BT.BV] at e
  cases g:BT.oat h n with
  | none=>rw[g] at e;cases e
  | some q =>
   obtain ⟨c,fs⟩:=q
   rw[g] at e
   simp only at e
   split at e
   ·rename_i c1
    obtain ⟨ws,g2,e1,e2⟩:=ai e
    exact ⟨n,c,fs,ws,g2,rfl,g,c1,e1,e2⟩
   ·cases e
 | p d=>cases e
 | r n=>cases e
 | k q=>cases e
 | c _ _=>cases e
 | x _=>cases e
theorem yY (O:Ok X F G sc N) (hb:aB oe=true) (hl:(apos.endLine==cpos.line)=true) (hlen:es.length < 20) (ho:PE X oe (tD X F G o)) (hc:CEs sc N as es) (ha:PA X es (tDs X F G as)) :
 PE X (.Call (.Attribute oe m apos) es [] cpos) (tD X F G (.meth o m as)):=by
 have hst:=cF hc
 intro pins s σ H Q I q
 obtain ⟨m0,s',h,z,h',R,S,ee,post⟩:=q
 simp only[BT.ev] at ee
 obtain ⟨x,h1,e1,e2⟩:=ai ee
 obtain ⟨n,c,fs,ws,g,rfl,e3,e4,e5,e6⟩:=yX e2
 obtain ⟨C,ga,fd,ps,k,hC,hM,hB,hR,ok⟩:=O.meth _ _ _ _ _ e6
 have key:tP C m (spF X.prog X.w X.K (F (.m c m))) [] E0 (tD X F G o) (tDs X F G as) σ H Q:=by
  refine ⟨m0,s',h,.o n,h1,R,S,e1,fun v H1 m1 x1 R1 r1=>?_⟩
  cases r1 with
  | @o a _ hn =>
   obtain ⟨C',dx,vs,q1,q2,q3⟩:=R1.k8 _ _ _ _ hn e3
   cases q2.cn.inj hC.cn
   refine ⟨a,dx,vs,rfl,q1,q3.none e4,m1,s',h1,ws,g,R1,S.ext x1,e5,fun us H2 m2 x2 R2 r2=>?_⟩
   show spF X.prog X.w X.K (F (.m c m)) (V.ref a :: (us++[])) H2 Q E0
   rw[PY]
   exact ⟨m2,.o n :: ws,g,z,h',R2,.cons (.o (x2.ix hn)) r2,e6,fun v5 H5 m5 x5 R5 r5=>post v5 H5 m5 ((x1.trans x2).trans x5) R5 r5⟩
 cases es with
 | nil =>
  cases as with
  | cons a r=>exact (iP hc).elim
  | nil =>
   refine pN ho hC.cls hM ok hR hB .nil kU (fH hb hst hlen hl) pins s σ H Q I ?_
   obtain ⟨m,s,h,z,h',R,S,ee,post⟩:=key
   refine ⟨m,s,h,z,h',R,S,ee,fun v H1 m1 x1 R1 r1=>?_⟩
   obtain ⟨a,dx,fs,q1,q2,q3,q4⟩:=post v H1 m1 x1 R1 r1
   exact ⟨a,dx,fs,q1,q2,q3,fW q4⟩
 | cons e es =>
  have hst':=hst
  simp only[ak,OY] at hst'
  exact tR ho hC.cls hM ok hR hB .nil kU ha (af hst'.1) (aC hst'.2) (fH hb hst hlen hl) pins s σ H Q I key
theorem yZ (O:Ok X F G sc N) (hg:av sc c=true) (hn:aA c=true) (hc:CEs sc N as es) (ha:PA X es (tDs X F G as)) :
 PE X (.Call (.Name c p) es [] pos) (tD X F G (.make c as)):=by
 have hst:=cF hc
 intro pins s σ H Q I q
 obtain ⟨m0,s',h,z,h',R,S,ee,post⟩:=q
 simp only[BT.ev] at ee
 obtain ⟨ws,h1,e1,e2⟩:=ai ee
 rw[BT.ye] at e2
 obtain ⟨y,h2,e3,e4⟩:=ai e2
 have e5:y=.p .non/\(z,h')=(.o h1.length,h2):=by
  cases y with
  | p d=>cases d<;>simp[BT.uc] at e4;exact ⟨rfl,by rw[e4.1,e4.2]⟩
  | r n=>cases e4
  | k q=>cases e4
  | c _ _=>cases e4
  | x _=>cases e4
  | o n=>cases e4
 obtain ⟨rfl,e5⟩:=e5
 cases e5
 obtain ⟨C,ga,fd,ps,k,hC,hmg,hM,hB,hR,ok⟩:=O.mkc _ _ _ _ e3
 have key:xR C (spF X.prog X.w X.K (F (.m c "__init__"))) [] E0 (tDs X F G as) σ H Q:=by
  refine ⟨m0,s',h,ws,h1,R,S,e1,fun us H1 m1 x1 R1 r1 x dx nx ndx ne=>?_⟩
  rw[PY]
  have xa:Ext m1 H1 m1 (upd H1 dx (.own x)):=fR ndx
  have Ra:RH X.K m1 (upd H1 dx (.own x)) h1:=R1.new ndx
  have nx':upd H1 dx (.own x) x=none:=by rw[au (Qp ne)];exact nx
  have xb:Ext m1 (upd H1 dx (.own x)) (m1++[x]) (upd (upd H1 dx (.own x)) x (.ins C dx [])):=gE nx'
  have Rb:RH X.K (m1++[x]) (upd (upd H1 dx (.own x)) x (.ins C dx [])) (h1++[.o c []]):=Ra.FW nx' ⟨C,dx,[],aJ,hC,.nil⟩
  have ix:(m1++[x])[h1.length]?=some x:=by rw[← R1.len];simp
  refine ⟨m1++[x],.o h1.length :: ws,h1++[.o c []],.p .non,h',Rb,.cons (.o ix) (r1.ext (xa.trans xb)),e3,fun v H2 m2 x2 R2 r2=>?_⟩
  cases r2 with
  | p r2 =>
   cases r2
   exact ⟨rfl,post _ H2 m2 (((x1.trans xa).trans xb).trans x2) R2 (.o (x2.ix ix))⟩
 cases es with
 | nil =>
  cases as with
  | cons a r=>exact (iP hc).elim
  | nil =>
   refine xS hM ok hR (aE O hg) hmg hB .nil kU (bK hn).1 pins s σ H Q I ?_
   exact fW key
 | cons e es =>
  simp only[ak,OY] at hst
  exact Bp hM ok hR (aE O hg) hmg hB .nil kU ha (bK hn).1 (af hst.1) (aC hst.2) pins s σ H Q I key
noncomputable def Gp (o:BT.Bin):TIp:=fun x y H Q=>∃ i j z,x=.int i/\y=.int j/\BT.kW o (.int i) (.int j)=some (.int z)/\Q (.int z) H
noncomputable def za:BT.Bin->Tt->Bool
 | .add,.Add=>true
 | .sub,.Sub=>true
 | .mul,.Mult=>true
 | _,_=>false
theorem uz (h:za o op=true):PIp X op (Gp o):=by
 rintro pins s σ H x y u v Q I rx ry ⟨i,j,z,rfl,rfl,e,q⟩
 obtain ⟨t,rfl⟩:=(show ∃ t,u=Te i t from rx)
 obtain ⟨t',rfl⟩:=(show ∃ t',v=Te j t' from ry)
 cases o<;>cases op<;>cases h
 ·cases e;exact PyProof.Rows.iadd_int ⟨.int (i+j),H,I.tok _,⟨_,rfl⟩,q⟩
 ·cases e;exact PyProof.Rows.isub_int ⟨.int (i - j),H,I.tok _,⟨_,rfl⟩,q⟩
 ·rw[BT.pY] at e
  split at e
  ·rename_i c
   cases e
   have hc:Bg i j:=by
    rcases QL _ _ ▸ c with c | c
    ·exact .inl (oq c)
    ·exact .inr (oq c)
   exact PyProof.Rows.imul_int ⟨.int (i*j),H,I.tok _,⟨_,rfl⟩,q⟩ hc.ok
  ·cases e
theorem uA (h:BT.kW o d e=some z):∃ i j k,d=.int i/\e=.int j/\z=.int k:=by
 cases d with
 | int i =>
  cases e with
  | int j =>
   refine ⟨i,j,?_⟩
   cases o with
   | add=>exact ⟨_,rfl,rfl,(O5 h).symm⟩
   | sub=>exact ⟨_,rfl,rfl,(O5 h).symm⟩
   | mul =>
    rw[BT.pY] at h
    split at h
    ·exact ⟨_,rfl,rfl,(O5 h).symm⟩
    ·cases h
   | _=>exact ay h
  | _=>cases o<;>exact ay h
 | _=>cases o<;>exact ay h
end
section
variable {K:OX}
end
theorem jH (r:ao vs us):∀ l:List Nat,ao (l.filterMap fun i=>vs[i]?) (l.filterMap fun i=>us[i]?)
 | []=>.nil
 | i :: l=>by
  rw[Ql,Ql]
  cases g:vs[i]? with
  | none =>
   have:us[i]?=none:=by
    have h:=r.length
    rw[Uy] at g ⊢
    lia
   rw[this]
   exact jH r l
  | some d =>
   obtain ⟨v,e,q⟩:=r.get g
   rw[e]
   exact .cons q (jH r l)
noncomputable def qo (k:Int) (xs:List V):List V:=(Ti (PM none none (some k) xs.length).1 (PM none none (some k) xs.length).2.1 (PM none none (some k) xs.length).2.2).filterMap fun i=>xs[i]?
section
theorem Gq (hk:k≠0) (he:PE X e te) (hs:PE X se (tC (.int k))) :
 PE X (.Subscript e (.Slice none none (some se) p2) pos) (fun σ H Q=>te σ H fun x H1=>∃ a xs,x=.ref a/\SqL X.K H1 a xs/\∀ p,H1 p=none->Q (.ref p) (upd H1 p (.lst (qo k xs)))):=by
 intro pins s σ H Q I h
 refine Vb (thn (he pins s σ H _ I h) fun v s1 zq=>?_)
 obtain ⟨x,H1,I1,r1,a,xs,ex,hx,q⟩:=zq
 subst ex
 cases r1
 refine wpAny_Slice ?_
 rw[Vs]
 refine wpAny_pure (wpAny_pure ?_)
 rw[evalPart_some]
 refine thn (hs pins s1 σ H1 (fun v H'=>v=.int k/\H'=H1) I1 ⟨rfl,rfl⟩) fun vs s3 zq=>?_
 obtain ⟨y,H3,I3,r3,hy,hh⟩:=zq
 subst hy hh
 obtain ⟨t,rfl⟩:=r3
 have I4:Inv X pins σ H3 { s3 with heap:=s3.heap.push { cls:=.type "slice",data:=.fields #[.none,.none,.int k t] } }:=I3.kept (t':=s3.toks) fun b ob q=>OZ _ q
 obtain ⟨its,rv,p,hz⟩:=I4.list hx
 have hg:wpAny (Pp X.prog X.w) X.A (Ul (.ref a) (.ref s3.heap.objs.size)) (EP X pins σ Q) X.xe { s3 with heap:=s3.heap.push { cls:=.type "slice",data:=.fields #[.none,.none,.int k t] } }:=by
  have hlen:=rv.length
  refine Va p.isList (Uh ..) .none .none (.int k t) (by intro z;exact hk (O5 z)) ?_ (by rw[O2];lia)
  have hp:slicePick its.toArray none none (some k)=((Ti (PM none none (some k) xs.length).1 (PM none none (some k) xs.length).2.1 (PM none none (some k) xs.length).2.2).filterMap fun i=>its[i]?).toArray:=by
   unfold slicePick
   rw[O2,← hlen]
   simp
  rw[hp]
  have hq:=jH rv (Ti (PM none none (some k) xs.length).1 (PM none none (some k) xs.length).2.1 (PM none none (some k) xs.length).2.2)
  have hz':(qo k xs).length<=xs.length:=by
   have:=slicePick_size_le its.toArray none none (some k)
   rw[hp,O2,O2] at this
   have e:=hq.length
   unfold qo
   lia
  refine ⟨.ref (s3.heap.push { cls:=.type "slice",data:=.fields #[.none,.none,.int k t] }).objs.size,_,I4.laid (t':=s3.toks) (o:=.lst (qo k xs)) (fun b ob q=>OZ _ q) (O8 _) ?_,rfl,q _ (I4.hok.fresh (O8 _))⟩
  exact ⟨by lia,_,0,hq,Pf _ rfl⟩
 show wpAny (Pp X.prog X.w) X.A (Vn e (.Slice none none (some se) p2) (.ref a) (.ref s3.heap.objs.size)) (EP X pins σ Q) X.xe { s3 with heap:=s3.heap.push { cls:=.type "slice",data:=.fields #[.none,.none,.int k t] } }
 exact Vm (ops:=[.ref a,.ref s3.heap.objs.size]) p.isList.typeIs slot_list_getitem.lookup hg (by with_unfolding_all rfl)
theorem uB (h:(B3 e).bind cInt=some k):∃ a b,e=.Constant (.int k) a b:=by
 cases e with
 | Constant c a b =>
  cases c with
  | int j=>cases h;exact ⟨a,b,rfl⟩
  | _=>exact absurd (show (none:Option Int)=some _ from h) (fun z=>nomatch z)
 | _=>exact absurd (show (none:Option Int)=some _ from h) (fun z=>nomatch z)
theorem zc (h:oi k e=true):(∃ a b,e=.Constant (.int k) a b/\0 < k)\/∃ j a b p,e=.UnaryOp .USub (.Constant (.int j) a b) p/\k=-j/\0 < j:=by
 unfold oi at h
 rw[QL,OY,OY,decide_eq_true_eq,decide_eq_true_eq] at h
 rcases h with ⟨h1,h2⟩ | ⟨h1,h2⟩
 ·obtain ⟨a,b,e1⟩:=uB (eq_of_beq h1)
  exact .inl ⟨a,b,e1,h2⟩
 ·have h1:=eq_of_beq h1
  cases e with
  | UnaryOp o e p =>
   by_cases c:o=.USub
   ·subst c
    have h3:(B3 e).bind cInt=some (-k):=h1
    obtain ⟨a,b,rfl⟩:=uB h3
    exact .inr ⟨-k,a,b,p,rfl,by lia,by lia⟩
   ·have:unE (.UnaryOp o e p)=none:=if_neg c
    rw[this] at h1
    cases h1
  | _=>exact absurd (show (none:Option Int)=some _ from h1) (fun z=>nomatch z)
theorem Co (hk:oi k se=true) (ha:PE X x (tD X F G a)):PE X (.Subscript x (.Slice none none (some se) p2) p) (tD X F G (.stp mu k a)):=by
 have hs:k≠0/\PE X se (tC (.int k)):=by
  rcases zc hk with ⟨a,b,rfl,h⟩ | ⟨j,a,b,p,rfl,rfl,h⟩
  ·exact ⟨by lia,rj⟩
  ·exact ⟨by lia,PE.weak (D5 xF rj) fun σ H Q q=>⟨_,rfl,q⟩⟩
 refine PE.weak (Gq hs.1 ha hs.2) fun σ H Q q=>?_
 refine Em (k:=BT.FG mu k) (fun s h=>by simp only[BT.ev]) q fun m h x z h' v H1 R r e post=>?_
 unfold BT.FG at e
 cases g:BT.rd x h with
 | none=>rw[g] at e;cases e
 | some d =>
  rw[g] at e
  cases d with
  | lst xs =>
   simp only at e
   have r1:=aH R r g
   obtain ⟨a,vs,rfl,hl,rr⟩:=r1.lst
   have ez:BT.new mu (BT.qa k xs) h=(z,h'):=O5 e
   refine ⟨a,vs,rfl,hl.sq,fun p hp=>fS (mu:=mu) R hp ?_ (by rw[ez];exact post)⟩
   unfold qo BT.qa
   rw[rr.length]
   exact RDs.pick rr _
  | _=>cases e
theorem zd {X:Cx}{b:BT.Bi}{g:Int->Int->Int} (hb:∀ ds d,BT.biD b ds=some d->∃ i j,ds=[.int i,.int j]/\d=.int (g i j)) {id:String} (hc:bW X (.builtin id) (fun xs H Q=>∃ i j,xs=[.int i,.int j]/\Q (.int (g i j)) H)):bW X (.builtin id) (rBi X.prog X.w X.K b false):=by
 intro pins s σ H vs us Q I rus h
 obtain ⟨m,h,ws,z,h',R,rws,e,post⟩:=h
 obtain ⟨ds,d,e1,e2,⟨_,rfl,rfl⟩ | ⟨_,q,_⟩⟩:=fU e
 ·have rr:=cT R rws e1
  obtain ⟨i,j,rfl,rfl⟩:=hb _ _ e2
  cases rr with
  | cons r t =>
   cases t with
   | cons r' t' =>
    cases t'
    cases r.int
    cases r'.int
    exact hc pins s σ H _ us Q I rus ⟨i,j,rfl,post.here R (.int _)⟩
 ·cases q
theorem Cq {X:Cx}{sc:Qc}{N:List Str} (O:Ok X F G sc N) (hu:bB N=true) {b:BT.Bi}{as:BT.Es}{x:Str}{e:O3}{es:List O3}{p pos:Pos} (hb:yt b x=true) (hg:av sc x=true) (hst:ak (e :: es)=true) (ha:PA X (e :: es) (tDs X F G as)) :
 PE X (.Call (.Name x p) (e :: es) [] pos) (tD X F G (.bi b false as)):=by
 simp only[ak,OY] at hst
 have hB:=O.blt
 cases b<;>first | (cases hb;done) | (replace hb:=eq_of_beq hb)
 ·subst hb
  refine PE.weak (cZ (zd (b:=.min2) (g:=fun i j=>if j < i then j else i) (fun ds d h=>?_) (vq (O.calm hu))) (aE O hg) (hB _ (by decide +kernel)) (by decide +kernel) ha (by decide) (by decide) (af hst.1) (aC hst.2)) (fun σ H Q z=>jg z)
  match ds,h with
  | [.int i,.int j],h=>exact ⟨i,j,rfl,(O5 h).symm⟩
 ·subst hb
  refine PE.weak (cZ (zd (b:=.max2) (g:=fun i j=>if j > i then j else i) (fun ds d h=>?_) (vp (O.calm hu))) (aE O hg) (hB _ (by decide +kernel)) (by decide +kernel) ha (by decide) (by decide) (af hst.1) (aC hst.2)) (fun σ H Q z=>jg z)
  match ds,h with
  | [.int i,.int j],h=>exact ⟨i,j,rfl,(O5 h).symm⟩
end
section
variable {K:OX}
noncomputable def lA (H H':Hp):Prop:=(∀ a vs,Rd H a (.tup vs)->Rd H' a (.tup vs))/\∀ a vs,Rd H a (.lst vs)->Rd H' a (.lst vs)
mutual
theorem RD.tr (q:lA H H'):∀ {v:V}{d:BT.D},RD K m H v d->RD K m H' v d
 | _,_,.non=>.non
 | _,_,.bl b=>.bl b
 | _,_,.int i=>.int i
 | _,_,.str y h=>.str y h
 | _,_,.tup h r=>.tup (h.elim (fun z=>.inl ⟨q.1 _ _ z.1,z.2⟩) .inr) (RDs.tr q r)
 | _,_,.lst h r=>.lst (h.elim (fun z=>.inl ⟨q.2 _ _ z.1,z.2⟩) .inr) (RDs.tr q r)
theorem RDs.tr (q:lA H H'):∀ {vs:List V}{ds:List BT.D},RDs K m H vs ds->RDs K m H' vs ds
 | _,_,.nil=>.nil
 | _,_,.cons r t=>.cons (RD.tr q r) (RDs.tr q t)
end
theorem RA.tr (q:lA H H') (r:RA K m H v x):RA K m H' v x:=by
 cases r with
 | p r=>exact .p (r.tr q)
 | r h=>exact .r h
 | o h=>exact .o h
theorem RFs.tr (q:lA H H') (r:RFs K m H vs fs):RFs K m H' vs fs:=by
 induction r with
 | nil=>exact .nil
 | cons r t ih=>exact .cons (r.tr q) ih
theorem RCs.tr (q:lA H H') (r:RCs K m H vs cs):RCs K m H' vs cs:=by
 induction r with
 | nil=>exact .nil
 | cons r t ih=>exact .cons (r.tr q) ih
theorem RWs.tr (q:lA H H') (r:RWs P w K m H vs ws) (n:BT.noC ws=true):RWs P w K m H' vs ws:=by
 induction r with
 | nil=>exact .nil
 | cons r t ih =>
  cases r with
  | p r=>exact .cons (.p (r.tr q)) (ih n)
  | r h=>exact .cons (.r h) (ih n)
  | k _ _=>cases n
  | kl _ _=>cases n
  | o h=>exact .cons (.o h) (ih n)
  | c _ _=>cases n
  | x _=>cases n
  | g _ _=>cases n
theorem RCs.ws (r:RCs K m H vs cs):RWs P w K m H vs (cs.map BT.Cp.w):=by
 induction r with
 | nil=>exact .nil
 | cons r t ih=>exact .cons r.rw ih
theorem RWs.app (r:RWs P w K m H vs ws) (t:RWs P w K m H us zs):RWs P w K m H (vs++us) (ws++zs):=by
 induction r with
 | nil=>exact t
 | cons r _ ih=>exact .cons r ih
theorem RKs.tr (q:lA H H') (r:RKs K m H vs kvs):RKs K m H' vs kvs:=by
 induction r with
 | nil=>exact .nil
 | cons hk r t ih=>exact .cons (hk.tr q) (r.tr q) ih
theorem RH.tr (R:RH K m H h) (q:lA H H') (k:∀ a∈m,H' a=H a) (tb:TB K H'):RH K m H' h:=by
 refine ⟨R.nd,R.len,fun i a c e1 e2=>?_,tb⟩
 have z:=R.cl i a c e1 e2
 have e:=k a (Pb e1)
 cases c with
 | l xs=>obtain ⟨vs,h1,h2⟩:=z;exact ⟨vs,e.trans h1,h2.tr q⟩
 | o c fs=>obtain ⟨C,dx,vs,h1,h2,h3⟩:=z;exact ⟨C,dx,vs,e.trans h1,h2,h3.tr q⟩
 | d kvs=>obtain ⟨vs,h1,h2⟩:=z;exact ⟨vs,e.trans h1,h2.tr q⟩
theorem Le.sq (q:Le H H'):lA H H':=⟨fun a vs r=>r.elim (fun z=>.inl (q _ _ z)) fun ⟨o,z⟩=>.inr ⟨o,q _ _ z⟩,fun a vs r=>r.elim (fun z=>.inl (q _ _ z)) fun ⟨o,z⟩=>.inr ⟨o,q _ _ z⟩⟩
theorem RH.le (R:RH K m H h) (q:Le H H'):RH K m H' h:=R.tr q.sq (fun a ha=>by
 obtain ⟨o,e,_⟩:=R.mu ha
 rw[e];exact q _ _ e) (q.tb R.tb)
theorem gq.le (q:Le H H') (r:gq m H cl xs vs):gq m H' cl xs vs:=by
 induction r with
 | nil=>exact .nil
 | cons h1 h2 h3 r t ih=>exact .cons h1 ⟨q _ _ h2.1,h2.2⟩ h3 r ih
theorem gk.le (q:Le H H') (h:gk m H f L vs):gk m H' f L vs:=by
 obtain ⟨bt,ps,fs,pa,be,sc,cl,pm,ctv,c',oc,os,t,ql,h0,h1,h2,h3,h4,h5,h6,h7,h8,h9,h10⟩:=h
 exact ⟨bt,ps,fs,pa,be,sc,cl,pm,ctv,c',oc,os,t,ql,h0,h1,h2,h3,h4,h5,⟨q _ _ h6.1,h6.2⟩,⟨q _ _ h7.1,h7.2⟩,h8,h9,h10.le q⟩
theorem RW.le (q:Le H H') {v:V}{x:BT.W} (r:RW P w K m H v x):RW P w K m H' v x:=by
 cases r with
 | p r=>exact .p (r.tr q.sq)
 | r h=>exact .r h
 | k h r=>exact .k h r
 | kl h r=>exact .kl ⟨q _ _ h.1,h.2⟩ (r.tr q.sq)
 | o h=>exact .o h
 | c h r=>exact .c (h.le q) (r.tr q.sq)
 | x h n xt=>exact .x (q _ _ h) n xt
 | g h r=>exact .g h r
end
noncomputable def bL (cl:List (Str×O9)) (H:Hp):Prop:=∀ x c,cl.lookup x=some c->∃ o u,H c=some (.frz o (.own 0))/\o.data=.cell u
open Classical in
noncomputable def hid (cl:List (Str×O9)) (H:Hp):Hp:=fun b=>if ∃ x,cl.lookup x=some b then none else H b
open Classical in
noncomputable def ret (cl:List (Str×O9)) (H0 H:Hp):Hp:=fun b=>if ∃ x,cl.lookup x=some b then H0 b else H b
section
theorem sA (e:cl.lookup x=some b):hid cl H b=none:=if_pos ⟨x,e⟩
theorem cW (e:¬ ∃ x,cl.lookup x=some b):hid cl H b=H b:=if_neg e
theorem dg (e:H b=none):hid cl H b=none:=by
 unfold hid;split<;>first | rfl | exact e
theorem oF (e:cl.lookup x=some b):ret cl H H' b=H b:=if_pos ⟨x,e⟩
theorem eS (e:¬ ∃ x,cl.lookup x=some b):ret cl H H' b=H' b:=if_neg e
theorem Gs (e:hid cl H b=some u):H b=some u/\¬ ∃ x,cl.lookup x=some b:=by
 unfold hid at e
 split at e
 ·cases e
 ·rename_i c;exact ⟨e,c⟩
noncomputable def kC:HO->Bool
 | .frz o (.own _)=>match o.data with | .cell _=>true | _=>false
 | _=>false
theorem bL.out (C:bL cl H) (e:H b=some u) (n:kC u=false):¬ ∃ x,cl.lookup x=some b:=fun ⟨x,q⟩=>by
 obtain ⟨o,v,h1,h2⟩:=C x b q
 rw[e] at h1;cases h1
 simp[kC,h2] at n
theorem bL.hid (C:bL cl H) (e:H b=some u) (n:kC u=false):BS.hid cl H b=some u:=by rw[cW (C.out e n)];exact e
theorem bL.sq (C:bL cl H):lA H (BS.hid cl H):=⟨fun a vs r=>r.elim (fun z=>.inl (C.hid z rfl)) fun ⟨o,z⟩=>.inr ⟨o,C.hid z rfl⟩,fun a vs r=>r.elim (fun z=>.inl (C.hid z rfl)) fun ⟨o,z⟩=>.inr ⟨o,C.hid z rfl⟩⟩
theorem bL.tb (C:bL cl H) {K:OX} (t:TB K H):TB K (BS.hid cl H):=t.mono (fun P ps e=>C.hid e rfl) fun a o vs d e=>C.hid e (by simp[kC,d])
theorem bL.rh (C:bL cl H) {K:OX} (R:RH K m H h):RH K m (BS.hid cl H) h:=R.tr C.sq (fun a ha=>by
 obtain ⟨o,e,z⟩:=R.mu ha
 rw[e];exact C.hid e (by cases o<;>first | rfl | cases z)) (C.tb R.tb)
theorem Gu (N:∀ x c,cl.lookup x=some c->H' c=none):Le H' (ret cl H H'):=fun a u e=>by
 rw[eS (fun ⟨x,q⟩=>by rw[N x a q] at e;cases e)];exact e
theorem bL.Gv (C:bL cl H) (N:∀ x c,cl.lookup x=some c->H' c=none) {K:OX} (x:Ext m (BS.hid cl H) m' H') (R:RH K m' H' h'):Ext m H m' (ret cl H H'):=by
 obtain ⟨e,hm,he⟩:=x.pre
 refine ⟨⟨e,hm,fun a ha=>?_⟩,fun a o h n t=>?_,fun a h=>?_⟩
 ·have z:=he a ha
  have hne:¬ ∃ y,cl.lookup y=some a:=fun ⟨y,q⟩=>by
   obtain ⟨o,e1,_⟩:=R.mu (a:=a) (by rw[hm];exact PV _ ha)
   rw[N y a q] at e1;cases e1
  rw[cW hne] at z;exact z
 ·by_cases c:∃ y,cl.lookup y=some a
  ·obtain ⟨y,q⟩:=c;rw[oF q];exact h
  ·rw[eS c];exact x.keep a o (by rw[cW c];exact h) n t
 ·by_cases c:∃ y,cl.lookup y=some a
  ·obtain ⟨y,q⟩:=c;rw[oF q] at h;exact h
  ·rw[eS c] at h;have z:=x.live a h;rw[cW c] at z;exact z
end
theorem gq.get (r:gq m H cl fs vs):∀ {i:Nat}{x:Str},fs[i]?=some x->∃ c o u v,cl.lookup x=some c/\Tr m H c o/\o.data=.cell (some u)/\vs[i]?=some v/\RelV v u:=by
 induction r with
 | nil=>intro i x e;simp at e
 | cons h1 h2 h3 r t ih =>
  intro i x e
  cases i with
  | zero=>simp at e;subst e;exact ⟨_,_,_,_,h1,h2,h3,rfl,r⟩
  | succ i=>simpa using ih (by simpa using e)
theorem gq.len (r:gq m H cl fs vs):vs.length=fs.length:=by
 induction r with
 | nil=>rfl
 | cons h1 h2 h3 r t ih=>simp[ih]
theorem gq.cells (r:gq m H cl fs vs) (hf:∀ x c,cl.lookup x=some c->x∈fs):bL cl H:=fun x c e=>by
 obtain ⟨i,hi⟩:=QJ (hf x c e)
 obtain ⟨c',o,u,v,h1,h2,h3,_⟩:=r.get hi
 rw[e] at h1;cases h1
 exact ⟨o,_,h2.1,h3⟩
theorem Cr (hp:LPa pa ps) (hl:us.length=ps.length):UG (PySem.W.kla_fn name q pa be sc cl pm cdv ctv) ⟨us,[]⟩=pure (ps.zip us):=by
 cases hp with
 | one=>match us,hl with | [_],_=>rfl
 | two=>match us,hl with | [_,_],_=>rfl
theorem Gw (hp:LPa pa ps) (nd:ps.Nodup) (hl:us.length=ps.length) {i:Nat} (e:ps[i]?=some x):∃ u,us[i]?=some u/\(ps.zip us).reverse.lookup x=some u:=by
 cases hp with
 | one =>
  match us,hl,i,e with
  | [u],_,0,e=>simp at e;subst e;exact ⟨u,rfl,by simp⟩
  | [u],_,i+1,e=>simp at e
 | two =>
  match us,hl,i,e with
  | [u,v],_,0,e =>
   simp at e;subst e
   simp at nd
   exact ⟨u,rfl,by simp[Qg,beq_false_of_ne nd]⟩
  | [u,v],_,1,e=>simp at e;subst e;exact ⟨v,rfl,by simp⟩
  | [u,v],_,i+2,e=>simp at e
structure LF (ps fs:List Str) (sc:Qc):Prop where
 kd:sc.kind=.function
 co:sc.isCoroutine=false
 ge:sc.isGenerator=false
 cell:∀ y∈sc.names,y.2≠.cell
 loc:∀ x∈ps,sc.names.lookup x=some .local
 fre:∀ x∈fs,sc.names.lookup x=some .free/\(x,P6)∈sc.names
 all:∀ y∈sc.names,y.2=.free->y.1∈fs
 nd:(ps++fs).Nodup
theorem lB:∀ {l:List Str},iM l=true->l.Nodup
 | [],_=>Ux
 | x :: r,h=>by
  simp only[iM,OY,Q6] at h
  refine List.nodup_cons.mpr ⟨fun z=>?_,lB h.2⟩
  have:=h.1
  simp[z] at this
theorem Kn (h:jU ps fs sc=true):LF ps fs sc:=by
 simp only[jU,OY,Q6] at h
 obtain ⟨⟨⟨⟨⟨⟨⟨h1,h2⟩,h3⟩,h4⟩,h5⟩,h6⟩,h7⟩,h8⟩:=h
 rw[Qz] at h4 h5 h6 h7
 refine ⟨eq_of_beq h1,h2,h3,fun y hy e=>?_,fun x hx=>eq_of_beq (h5 x hx),fun x hx=>?_,fun y hy e=>?_,lB h8⟩
 ·have:=h4 y hy;rw[e] at this;cases this
 ·have:=h6 x hx
  simp only[OY] at this
  exact ⟨eq_of_beq this.1,by simpa using this.2⟩
 ·have:=h7 y hy
  rw[e] at this
  simpa using this
noncomputable def ze (P:Pv) (w:P0) (K:OX) (mg:Str->Option Value) (base:Heap) (N:List Str) (q:Str) (sc:Qc) (cl:List (Str×O9)) (f c':O9) (A:QV) (outer:List Env) (s:O4) (H:Hp):Cx where
 prog:=P
 w:=w
 K:=K
 mg:=mg
 base:=base
 A:=A.deeper (RP q sc s.heap.objs.size f (.ref c') cl)
 N:=N
 s₀:=s
 H₀:=hid cl H
 env:=RP q sc s.heap.objs.size f (.ref c') cl
 outer:=outer
 stack:=RP q sc s.heap.objs.size f (.ref c') cl :: outer
 ex:=[]
 calm:=true
 fn:=fun _=>false
 pn:=[]
 xe:=fun _ _=>False
theorem kD (C:bL cl H) (ok:HOk P w H h) (k:∀ b o,h.get? b=some o->h1.get? b=some o):HOk P w (hid cl H) h1:=fun b u e=>by
 obtain ⟨e1,_⟩:=Gs e
 exact (ok b u e1).stay (fun c o _ q=>k c o q) (fun c q=>C.hid q rfl) fun c xs q=>C.hid q rfl
theorem Cs {K:OX}
 (hp:LPa pa ps) (F:LF ps fs sc) (inj:∀ x y c,cl.lookup x=some c->cl.lookup y=some c->x=y) (hfs:∀ x c,cl.lookup x=some c->x∈fs) (cp:gq m H cl fs cvs) (hd:A.handled=none) (e0:kP P w K mg base A outer s H) (r:ao vs us) (hl:us.length=ps.length)
 (hns:h1.Ns s.heap.objs.size (fun y=>(ps.zip us).reverse.lookup y)) (hk1:∀ b o,s.heap.get? b=some o->h1.get? b=some o) :
 Inv (ze P w K mg base (ps++fs) q sc cl f c' A outer s H) [] (vs.map some++cvs.map some) (hid cl H) { s with heap:=h1,toks:=tk }:=by
 have C:=cp.cells hfs
 have lv:vs.length=ps.length:=r.length.trans hl
 have lc:=cp.len
 have noA:∀ b:O9,b∉(ze P w K mg base (ps++fs) q sc cl f c' A outer s H).ex:=fun b z=>absurd (show b∈([]:List O9) from z) (by simp)
 have cel:∀ x c,cl.lookup x=some c->∃ u,s.heap.IsCell c (some u):=fun x c e=>by
  obtain ⟨i,hi⟩:=QJ (hfs x c e)
  obtain ⟨c2,o,u,v,g1,g2,g3,_⟩:=cp.get hi
  rw[e] at g1;cases g1
  exact ⟨u,o,(e0.hok _ _ g2.1).1,g3⟩
 refine ⟨⟨e0.mod,F.kd,rfl,rfl,O8 _,inj,fun x hx=>?_,fun x c z=>absurd (show false=true from z) (by decide),fun _=>hd,UT e0.frames,.inr ⟨rfl,rfl⟩,fun b z=>absurd z (noA b),fun b o e=>⟨(e0.bs b o e).1,dg (e0.bs b o e).2⟩,e0.bsz,fun b _ _=>noA b,fun b z=>absurd z (noA b),e0.fL,fun b hb=>dg (e0.frf b hb)⟩,
  rfl,e0.bare,Un.kept hk1,⟨_,hns,fun i x v g1 g2 g3=>?_⟩,fun x c e=>?_,dg (e0.hok.fresh (O8 _)),fun x c e=>sA e,fun p hp=>absurd (show p∈([]:List (O9×Obj)) from hp) (by simp),kD C e0.hok hk1,?_⟩
 ·have hx:sc.names.lookup x=some .cell\/sc.names.lookup x=some .free:=hx
  rcases hx with hx | hx
  ·exact absurd rfl (F.cell _ (Qt hx))
  ·obtain ⟨i,hi⟩:=QJ (F.all _ (Qt hx) rfl)
   obtain ⟨c,_,_,_,g1,_⟩:=cp.get hi
   exact ⟨c,g1⟩
 ·have g1:(ps++fs)[i]?=some x:=g1
  by_cases c:i < ps.length
  ·rw[O6 c] at g1
   rw[O6 (by simpa [lv] using c),PR] at g2
   obtain ⟨u,g4,g5⟩:=Gw hp (F.nd.sublist (List.sublist_append_left _ _)) hl g1
   obtain ⟨v',g6,g7⟩:=Option.map_eq_some_iff.mp g2
   cases g7
   obtain ⟨u',g8,rv⟩:=r.get g6
   rw[g4] at g8;cases g8
   exact ⟨u,rv,.inl ⟨F.loc x (Pb g1),g5⟩⟩
  ·rw[Py (by lia)] at g1
   rw[Py (by simp[lv];lia),PR] at g2
   simp only[Pr,lv] at g2
   obtain ⟨c2,o,u,v2,k1,k2,k3,k4,k5⟩:=cp.get g1
   rw[k4] at g2
   cases g2
   exact ⟨u,k5,.inr ⟨.inr (F.fre x (Pb g1)).1,c2,k1,o,hk1 _ _ (e0.hok _ _ k2.1).1,k3⟩⟩
 ·obtain ⟨u,o,z1,z2⟩:=cel x c e
  exact ⟨some u,o,hk1 _ _ z1,z2⟩
 ·show _=(ps++fs).length
  simp[lv,lc]
section
theorem v9 (e:BT.nY F o ws h=some r):∃ k cs,o=some (some (.c k cs))/\BT.noC ws=true/\F k (ws++cs.map BT.Cp.w) h=some r:=by
 unfold BT.nY at e
 split at e
 ·rename_i k cs
  split at e
  ·rename_i c;exact ⟨k,cs,rfl,c,e⟩
  ·cases e
 ·cases e
theorem gk.fnAt (l:gk m H f L vs) (ok:HOk P w H h):PySem.W.FnAt f h:=by
 obtain ⟨bt,ps,fs,pa,be,sc,cl,pm,ctv,c',oc,os,t,ql,h0,h1,h2,h3,h4,h5,h6,_⟩:=l
 exact ⟨_,_,_,_,(ok _ _ h6.1).1⟩
theorem Post.ext {K:OX} (p:Post P w K m H z h' Q) (x:Ext m H m' H'):Post P w K m' H' z h' Q:=fun v H2 m2 y R r=>p v H2 m2 (x.trans y) R r
theorem zf (O:Ok X F G sc N) (h1:N[i]?=some x) (h2:jT sc x=true) (h3:aA x=true) (hc:CEs sc N as (e :: es)) (ha:PA X (e :: es) (tDs X F G as)) :
 PE X (.Call (.Name x np) (e :: es) [] pos) (tD X F G (.callv i as)):=by
 have hst:=cF hc
 simp only[ak,OY] at hst
 intro pins s σ H Q I q
 obtain ⟨m,s',h,z,h',R,S,ee,post⟩:=q
 simp only[BT.ev] at ee
 obtain ⟨ws,g,e1,e2⟩:=ai ee
 obtain ⟨k,cs,k1,k2,k3⟩:=v9 e2
 obtain ⟨v,hv,rv⟩:=S.get i _ k1
 obtain ⟨d1,d2,_⟩:=bK h3
 refine Qh ?_
 refine thn (rf (i:=i) (by rw[O.hN];exact h1) (yR O h2) d1 d2 pins s σ H (fun v2 H2=>v2=v/\H2=H) I ⟨v,hv,rfl,rfl⟩) fun u s1 zq=>?_
 obtain ⟨v2,H2,I2,r2,ev,eh⟩:=zq
 subst ev eh
 have hA:tDs X F G as σ H2 (fun vs2 H3=>∃ m3,Ext m H2 m3 H3/\RH X.K m3 H3 g/\RWs X.prog X.w X.K m3 H3 vs2 ws):=⟨m,s',h,ws,g,R,S,e1,fun vs2 H3 m3 x3 R3 r3=>⟨m3,x3,R3,r3⟩⟩
 cases rv with
 | @c f L cvs _ hL rc =>
  obtain rfl:u=.ref f:=r2
  refine PySem.W.callWith_F (hL.fnAt I2.hok) (thn (ha pos pins s1 σ H2 _ I2 hA) fun us s2 ⟨vs2,H3,I3,r3,m3,x3,R3,w3⟩=>⟨(hL.ext x3).fnAt I3.hok,?_⟩) (af hst.1) (aC hst.2)
  obtain ⟨k,hr,lo⟩:=O.lam _ _ _ _ k3
  refine Th (RM (lo X.A X.stack s2 H3 f us vs2 cvs m3 ws cs g z h' Q E0 hr I3.Fb r3 R3 w3 k2 (hL.ext x3) (rc.ext x3) k3 (post.ext x3)) fun r s' hq=>?_)
  cases r with
  | error e=>exact PN hq
  | ok fl =>
   cases fl with
   | ret u=>exact I3.after hq
   | next=>exact PN hq
   | brk=>exact PN hq
   | cont=>exact PN hq
 | @g f x' hn hk =>
  obtain rfl:u=.ref f:=r2
  have k3':F (.f x') ws g=some (z,h'):=by simpa using k3
  obtain ⟨fa,fd,ps,k,hm,_,hb,hr,ok⟩:=O.call _ _ _ _ k3'
  have hm':=P5 I2.ok.mod.kin I2.ok.mod.glob hn
  rw[hm] at hm'
  cases hm'
  refine QW (h₀:=X.base) I2.ok.mod.kin hk (thn (ha pos pins s1 σ H2 _ I2 hA) fun us s2 ⟨vs2,H3,I3,r3,m3,x3,R3,w3⟩=>⟨I3.kIn,?_⟩) (af hst.1) (aC hst.2)
  refine kQ (E:=E0) ok hr hb .nil kU I3 r3 ?_
  rw[PY]
  exact ⟨m3,ws,g,z,h',R3,w3,k3',post.ext x3⟩
end
noncomputable def we (x C:O9) (h:Heap):Prop:=∃ o,h.get? x=some o/\o.cls=.ref C
section
open PySem.W PySem.Calls PySem.Builtin PySem.Builtin.ObjectAttr PySem.Builtin.Getset_descriptor
variable {E:Value->O4->Prop}{K:OX}
theorem we.look (I:we x C h):Looks M h (typeOf (.ref x)) (.ref C):=by
 obtain ⟨o,e,c⟩:=I
 exact c ▸ (Looks.ld e).andThen .now
theorem Gx (X:K.In s.heap) (I:we x C s.heap) (hm:mroIn K C (.type "object")=some true) (h:R (.ok (.ret (.ref C))) s):codeAny (Pp prog w) A (.call (.builtin "getset_descriptor.__get__") ⟨[.builtin "object.__class__",.ref x,tp],[]⟩) R s:=by
 obtain ⟨hp,g0,dr,tk0,os0⟩:=s
 have l0:=I.look (M:=Pp prog w)
 have l1:=looks_mroIn (M:=Pp prog w) X hm
 refine codeAny_call_builtin KF.slot_gs.plain KF.entry_gs (KF.slot_gs.check _ _ _ _ _ _ _ _ KF.type_class (KF.args_gs _ _ _) ?_)
 (unfold Builtin.«getset_descriptor.__get__» descrGet;rw[dga_obj])
 refine O0 (wpAny_pure ?_)
 (unfold descrGetter descrCheckInstance descrNameAndClass isInstance;simp only[KF.owner_class])
 repeat lk
 refine ⟨Code.quiet_builtin _ (by decide +kernel),Se KF.entry_class ?_⟩
 (unfold Builtin.«object.__class__» shownTypeOf;repeat lk)
 exact h
theorem Ct (X:K.In h) (h1:findIn K (.ref C) nm=some (some a)) (h2:specialIn K a "__get__"=some (some g)) (h3:takesIn K a=some true):Looks M h (find (.ref x) (.ref C) nm) (.bind g a):=by
 have l1:=looks_findIn (M:=M) X h1
 have l2:Looks M h (getOf (some a)) (some g):=looks_specialIn X h2
 have l3:Looks M h (dataDescriptor? (some a) (some g)) (some (g,a)):=(looks_takesIn (M:=M) X h3).andThen .now
 exact l1.andThen (l2.andThen (l3.andThen (Looks.tag .now)))
theorem Ko (X:K.In s.heap) (I:we x C s.heap) (c:Str) (xt:XT K c C) (h:R (.ok (.ret (.ref C))) s) :
 codeAny (Pp prog w) A (.call (.builtin "BaseException.__getattribute__") ⟨[.ref x,.str "__class__" tk],[]⟩) R s:=by
 have l4:=looks_mroIn (M:=Pp prog w) X xt.mrb
 have l0:=I.look (M:=Pp prog w)
 have l2:=Ct (M:=Pp prog w) (x:=x) X xt.fnd xt.spc xt.tak
 obtain ⟨hp,g0,dr,tk0,os0⟩:=s
 have hk:builtinKind "BaseException.__getattribute__"=some .slot:=by decide +kernel
 have hsplit:splitId "BaseException.__getattribute__"=some ("BaseException","__getattribute__"):=by decide +kernel
 have ha:=PySem.F.args_bexc_ga (.ref x) (.str "__class__" tk)
 refine codeAny_call_builtin PySem.F.attrBase_ValueError.ga.plain PySem.F.entry_bexc_ga ?_
 simp only[checkBuiltinCall,hk,hsplit]
 refine O0 ?_
 unfold isInstance
 repeat lk
 refine wpAny_run (A:=A.in1) (h:=none) (c:=.call (.builtin "getset_descriptor.__get__") ⟨[.builtin "object.__class__",.ref x,.ref C],[]⟩) (Gx (s:=⟨hp,g0,dr,tk0,os0⟩) X I xt.mro ?_)
 exact wpAny_pure (wpAny_pure h)
theorem Cu (X:K.In s.heap) (I:we x C s.heap) (c:Str) (xt:XT K c C) (h:Q (some (.ref C)) { s with toks:=s.toks+1 }):wpAny (Pp prog w) A (getAttr? (.ref x) "__class__") Q E s:=by
 obtain ⟨hp,g0,dr,tk0,os0⟩:=s
 have l0:=I.look (M:=Pp prog w)
 have l1:=looks_findIn (M:=Pp prog w) X xt.ga
 have l3:=looks_findIn (M:=Pp prog w) X xt.nga
 have f3:=PySem.F.attrBase_ValueError.ga.bind (.ref x)
 have hx2:(RJ "BaseException.__getattribute__"==RJ "object.__getattribute__")=false:=by decide +kernel
 have hx1:(onTheHeap (Px C)&&RJ "BaseException.__getattribute__"==RJ "object.__getattribute__")=false:=by rw[hx2];rfl
 (unfold getAttr? getAttrBy? getAttrBy)
 refine O0 (wpAny_mkText (O0 (wpAny_attempt (QI (O0 (l0.at (O0 (l1.at ?_))))))))
 show wpAny _ _ (if (onTheHeap (Px C)&&RJ "BaseException.__getattribute__"==RJ "object.__getattribute__")=true then _ else getAttrByItsOwn (.ref x) (.str "__class__" tk0) (.ref C) (.builtin "BaseException.__getattribute__") false false) _ _ (⟨hp,g0,dr,tk0+1,os0⟩:O4)
 rw[if_neg (by rw[hx1];exact QD)]
 unfold getAttrByItsOwn
 refine O0 (l3.at ?_)
 refine O0 (wpAny_attempt (QI ?_))
 show wpAny _ _ (boundAndCalled (.builtin "BaseException.__getattribute__") (.ref x) (.str "__class__" tk0)) _ _ _
 unfold boundAndCalled
 rw[f3]
 refine O0 (wpAny_pure ?_)
 show wpAny _ _ (call (.builtin "BaseException.__getattribute__") [.ref x,.str "__class__" tk0]) _ _ _
 refine wpAny_mono (Th (Ko (s:=⟨hp,g0,dr,tk0+1,os0⟩) (R:=wants (fun v s'=>v=.ref C/\s'=(⟨hp,g0,dr,tk0+1,os0⟩:O4)) fun _ _=>False) X I c xt ⟨rfl,rfl⟩)) (fun v s' z=>?_) fun _ _ z=>z.elim
 obtain ⟨rfl,rfl⟩:=z
 exact handed_on rfl (wpAny_pure h)
theorem zg (c:Str) (xt:XT K c C):KitX K (.ref x) (.ref C) (we x C) where
 ty:=fun _ _ _ I=>I.look
 it:=fun M h X I=>by
  obtain ⟨cd,hc,_⟩:=any_some xt.dct
  unfold clsIn at hc
  split at hc
  ·rename_i ho
   exact fun A' Q' E' s' k q=>by
    unfold isType loadHead
    exact O0 (U0 (k _ _ (X _ _ ho)) (wpAny_pure q))
  ·cases hc
 ne:=fun h tp dd its n sl X htp=>by
  obtain ⟨cd,hc,_⟩:=any_some xt.dct
  refine Bool.eq_false_iff.mpr fun q=>?_
  have e:=Value.ref.inj (beq_iff_eq.mp q)
  subst e
  unfold clsIn at hc
  split at hc
  ·rename_i ho
   exact nomatch (X _ _ ho).symm.trans htp
  ·cases hc
 ca:=fun X I k=>Cu X I c xt k
end
theorem zh {E:Value->O4->Prop} (I:Inv X pins σ H s) (h1:H a=some (.ext (excAt X.K c a)))
 (hk:∀ C,XT X.K c C->Qn X.K (.ref C) cv=some b) (q:∀ tk,Q (.bool b) { s with toks:=tk }):wpAny (Pp X.prog X.w) X.A (call (.builtin "isinstance") [.ref a,cv]) Q E s:=by
 obtain ⟨⟨o,C,_,xt,e1,e2⟩,_,_⟩:=I.hok a _ h1
 exact QX (zg c xt) I.kIn ⟨o,e1,e2⟩ (hk C xt) (by intro z;cases z) q
section
theorem Cv (O:Ok X F G sc N) (hx:yv cn=true) (hn:aA cn=true) (hg:av sc "isinstance"=true) (hg2:av sc cn=true) (hst:noStar e=true) (ha:PE X e (tD X F G a)) :
 PE X (.Call (.Name "isinstance" p) [e,.Name cn p2] [] pos) (tD X F G (.isx cn a)):=by
 have hB:=O.blt
 have key:∀ {σ:L2.St}{H:Hp}{Q:VK},tD X F G (.isx cn a) σ H Q->tD X F G a σ H fun v H1=>∃ ad c,v=.ref ad/\H1 ad=some (.ext (excAt X.K c ad))/\(∃ C,XT X.K c C)/\Q (.bl (BT.qb c cn)) H1:=fun {σ H Q} q=>by
  obtain ⟨m,s,h,z,h',R,S,ee,post⟩:=q
  simp only[BT.ev] at ee
  obtain ⟨x,h1,e1,e2⟩:=ai ee
  refine ⟨m,s,h,x,h1,R,S,e1,fun v H1 m1 x1 R1 r1=>?_⟩
  cases x with
  | x c =>
   cases r1 with
   | x q1 q2 xt =>
    cases e2
    exact ⟨_,c,rfl,q1,xt,post _ H1 m1 x1 R1 (.p (.bl _))⟩
  | p _=>exact ay e2
  | r _=>exact ay e2
  | k _=>exact ay e2
  | o _=>exact ay e2
  | c _ _=>exact ay e2
 by_cases hv:cn="ValueError"
 ·subst hv
  have hc:PE X (.Name "ValueError" p2) (tC (.ty "ValueError")):=gS (aE O hg2) (hB _ (by decide)) (u:=.type "ValueError") (by decide +kernel) rfl (by decide) (by decide)
  have call:bW X (.builtin "isinstance") (fun vs H Q=>∃ ad c,vs=[.ref ad,.ty "ValueError"]/\H ad=some (.ext (excAt X.K c ad))/\Q (.bl (BT.qb c "ValueError")) H):=by
   intro pins s σ H vs us Q I rus h
   obtain ⟨ad,c,rfl,q1,q⟩:=h
   obtain ⟨u,u2,rfl,ru,ru2⟩:=rus.two
   cases ru
   cases ru2
   exact zh I q1 (fun C xt=>xt.val) fun tk=>⟨.bl _,H,I.tok tk,rfl,by
    have:BT.qb c "ValueError"=true:=by unfold BT.qb;simp
    rw[← this];exact q⟩
  refine PE.weak (cZ call (aE O hg) (hB _ (by decide)) (by decide +kernel) (bO ha (bO hc iH) (af hst)) (by decide) (by decide) (af hst) rfl) fun σ H Q q=>?_
  obtain ⟨m,s,h,z,h',R,S,ee,post⟩:=key q
  refine ⟨m,s,h,z,h',R,S,ee,fun v H1 m1 x1 R1 r1=>?_⟩
  obtain ⟨ad,c,rfl,q1,_,q3⟩:=post v H1 m1 x1 R1 r1
  exact ⟨ad,c,rfl,q1,q3⟩
 ·have hx':uf cn=true:=by
   unfold yv at hx
   rw[QL] at hx
   exact hx.resolve_right fun z=>hv (eq_of_beq z)
  have dbg:(cn==("__debug__":Str))=false:=by
   unfold aA at hn
   simp only[OY] at hn
   simpa using hn.1.1
  have hc:PE X (.Name cn p2) (fun σ H Q=>∃ D,X.mg cn=some (.ref D)/\Q (.ref D) H):=fun pins s σ H Q I ⟨D,hm,q⟩=>ku (v:=.ref D) (aE O hg2) hm rfl dbg pins s σ H Q I q
  have call:bW X (.builtin "isinstance") (fun vs H Q=>∃ ad c D,vs=[.ref ad,.ref D]/\CN X.K cn D/\H ad=some (.ext (excAt X.K c ad))/\Q (.bl (BT.qb c cn)) H):=by
   intro pins s σ H vs us Q I rus h
   obtain ⟨ad,c,D,rfl,hD,q1,q⟩:=h
   obtain ⟨u,u2,rfl,ru,ru2⟩:=rus.two
   cases ru
   cases ru2
   refine zh I q1 (fun C xt=>?_) fun tk=>⟨.bl _,H,I.tok tk,rfl,q⟩
   obtain ⟨D',h1,h2⟩:=xt.own cn hx'
   rw[hD.inj h1];exact h2
  have K2:PE X (.Call (.Name "isinstance" p) [e,.Name cn p2] [] pos) _:=cZ call (aE O hg) (hB _ (by decide)) (by decide +kernel) (bO ha (bO hc iH) (af hst)) (by decide) (by decide) (af hst) rfl
  intro pins s0 σ H Q I q
  refine K2 pins s0 σ H Q I ?_
  obtain ⟨m,s,h,z,h',R,S,ee,post⟩:=key q
  refine ⟨m,s,h,z,h',R,S,ee,fun v H1 m1 x1 R1 r1=>?_⟩
  obtain ⟨ad,c,rfl,q1,⟨C,xt⟩,q3⟩:=post v H1 m1 x1 R1 r1
  obtain ⟨D,hD,_⟩:=xt.own cn hx'
  exact ⟨D,P5 I.mod.kin I.mod.glob hD,ad,c,D,rfl,hD,q1,q3⟩
end
section
variable {X:Cx}
theorem wg (hu:X.A.units+150 < cLine):MtR X "list.index" (rMe X.prog X.w X.K .lindex):=by
 intro pins s σ H v vs v' us Q I rv rus h
 obtain ⟨m,h,x,ws,z,h',R,rx,rws,e,post⟩:=h
 cases x with
 | r n=>cases ws with
  | nil=>(first | (cases e;done) | simp[BT.meW] at e)
  | cons _ _=>(first | (cases e;done) | simp[BT.meW] at e)
 | k kvs=>(first | (cases e;done) | simp[BT.meW] at e)
 | c _ _=>(first | (cases e;done) | simp[BT.meW] at e)
 | x _=>(first | (cases e;done) | simp[BT.meW] at e)
 | o kvs=>(first | (cases e;done) | simp[BT.meW] at e)
 | p d =>
  rw[BT.rS] at e
  cases g:BT.aK ws with
  | none=>rw[g] at e;cases e
  | some ds =>
   rw[g] at e
   obtain ⟨b,e1,e2⟩:=az e
   cases e2
   have rds:=rws.pure g
   cases d<;>first | exact ay e1 | skip
   rename_i xs
   cases ds with
   | nil=>exact ay e1
   | cons d0 dr =>
    cases dr with
    | cons _ _=>exact ay e1
    | nil =>
     rw[BT.Ft] at e1
     split at e1
     ·rename_i c
      obtain ⟨j,e3,e4⟩:=az e1
      subst e4
      obtain ⟨i,rfl,hi,h1,h2⟩:=iO e3
      cases rds with
      | cons r0 rn =>
       cases rn
       obtain ⟨u,rfl,ru⟩:=rus.one
       cases rx with
       | p rx =>
        obtain ⟨a,vt,rfl,ha,ra⟩:=RR.lst (.d rx)
        cases rv
        obtain ⟨zz,its,n,q1,_,ho⟩:=rdL I ha
        have sl:sizeLine=16777216:=QM
        have hl:=q1.length
        have hl2:=ra.length
        have hi':i < its.toArray.size:=by rw[O2];lia
        refine Q9 F.slot_list_index ⟨_,ho,rfl⟩ F.entry_list_index (F.args_list_index_2 _ _)
         (SeqAt.list_indexAt a its.toArray n none #[] u (bQ s.heap (pd d0)) i hi' (by lia) ?_ ?_) ⟨ho,?_,?_⟩
        ·rw[show its.toArray[i]=its[i]'(by lia) by simp,gY I ra q1 i (by lia) hi];exact h1
        ·intro k hk hlt
         have hk':k < its.length:=by simpa using hk
         rw[show its.toArray[k]=its[k]'hk' by simp,gY I ra q1 k hk' (by lia)];exact h2 k (by lia) hlt
        ·intro y hy
         exact eN hu I (.d r0) ru ra q1 c y (by simpa using hy)
        ·refine ⟨.int (((0+i:Nat):Nat):Int),H,I.tok _,⟨s.toks,?_⟩,post.here R (.int _)⟩
         simp
     ·cases e1
theorem zj (hu:X.A.units+150 < cLine):MtR X "list.count" (rMe X.prog X.w X.K .count):=by
 intro pins s σ H v vs v' us Q I rv rus h
 obtain ⟨m,h,x,ws,z,h',R,rx,rws,e,post⟩:=h
 cases x with
 | r n=>cases ws with
  | nil=>(first | (cases e;done) | simp[BT.meW] at e)
  | cons _ _=>(first | (cases e;done) | simp[BT.meW] at e)
 | k kvs=>(first | (cases e;done) | simp[BT.meW] at e)
 | c _ _=>(first | (cases e;done) | simp[BT.meW] at e)
 | x _=>(first | (cases e;done) | simp[BT.meW] at e)
 | o kvs=>(first | (cases e;done) | simp[BT.meW] at e)
 | p d =>
  rw[BT.vG] at e
  cases g:BT.aK ws with
  | none=>rw[g] at e;cases e
  | some ds =>
   rw[g] at e
   obtain ⟨b,e1,e2⟩:=az e
   cases e2
   have rds:=rws.pure g
   cases d<;>first | exact ay e1 | skip
   rename_i xs
   cases ds with
   | nil=>exact ay e1
   | cons d0 dr =>
    cases dr with
    | cons _ _=>exact ay e1
    | nil =>
     rw[BT.Fq] at e1
     split at e1
     ·rename_i c
      cases e1
      cases rds with
      | cons r0 rn =>
       cases rn
       obtain ⟨u,rfl,ru⟩:=rus.one
       cases rx with
       | p rx =>
        obtain ⟨a,vt,rfl,ha,ra⟩:=RR.lst (.d rx)
        cases rv
        obtain ⟨zz,its,n,q1,_,ho⟩:=rdL I ha
        have hl:=q1.length
        have hl2:=ra.length
        have ec:its.countP (bQ s.heap (pd d0))=xs.countP fun y=>BT.eqv y d0:=by
         have key:its.map (bQ s.heap (pd d0))=xs.map fun y=>BT.eqv y d0:=by
          refine List.ext_getElem (by rw[Pr,Pr];lia) fun i h1 h2=>?_
          rw[Pr] at h1 h2
          rw[List.getElem_map,List.getElem_map]
          exact gY I ra q1 i h1 h2
         have cm:∀ {α:Type} (f:α->Bool) (l:List α),l.countP f=(l.map f).countP id:=fun f l=>by rw[List.countP_map];rfl
         rw[cm,cm (fun y=>BT.eqv y d0),key]
        refine Q9 F.slot_list_count ⟨_,ho,rfl⟩ F.entry_list_count (F.args_list_count_2 _ _) (SeqAt.list_countAt a its.toArray n none #[] u (bQ s.heap (pd d0))) ⟨ho,?_,?_⟩
        ·intro y hy
         exact eN hu I (.d r0) ru ra q1 c y (by simpa using hy)
        ·refine ⟨.int ((xs.countP fun y=>BT.eqv y d0:Nat):Int),H,I.tok _,⟨s.toks,?_⟩,post.here R (.int _)⟩
         rw[← ec]
     ·cases e1
end
structure sC (K:OX) (J:It) (m0:List O9) (H0:Hp) (ds:List BT.D) (C:BT.HH->Prop):Prop where
 go:∀ m H h (i:Nat),Ext m0 H0 m H->RH K m H h->C h->i < ds.length->J.go i H
 yld:∀ m H h (i:Nat) x H' d,Ext m0 H0 m H->RH K m H h->C h->ds[i]?=some d->J.yld i H x H'->Ext m H m H'/\Le H H'/\RD K m H' x d
 stop:∀ m H h,Ext m0 H0 m H->RH K m H h->C h->J.stop ds.length H
noncomputable def uC (sr:BT.Sr) (ws:List BT.W):Prop:=BT.c7 ws=true\/(sr=.seq/\∃ q,ws=[.r q])
noncomputable def oG (ws:List BT.W) (ds:List BT.D) (h:BT.HH):Prop:=∀ q,ws=[.r q]->BT.lat h q=some ds
theorem uC.p (h:uC sr ws) (n:sr≠.seq):BT.c7 ws=true:=h.resolve_right fun z=>n z.1
theorem lD (a:BT.c7 ws=true):oG ws ds h:=fun q e=>by subst e;cases a
noncomputable def Itv (K:OX) (a:O9) (n:Nat):It :=
 ⟨fun i H=>i < n/\∃ xs,SqL K H a xs/\xs.length=n,fun i H x H'=>H'=H/\∀ xs,SqL K H a xs->xs[n - 1 - i]?=some x,fun i H=>i=n⟩
theorem zk {K:OX} (a it:O9) (n:Nat):Turn P w K tg (Itv K a n) [it] it (fun i h=>h.IsRevIter it a ((n:Int) - 1 - i)) where
 mem:=by simp
 obj:=fun i h st b hb=>by
  have e:b=it:=by simpa using hb
  subst e
  obtain ⟨o,e,c,d⟩:=st
  exact ⟨o,e,fun v z=>by rw[d] at z;cases z⟩
 keep:=fun i h h' st k=>st.at fun o e=>k it (by simp) o e
 item:=by
  intro X hP hw hK hc i pins s σ H E I hf st hg
  subst hP hw hK
  obtain ⟨hi,xs,hq,hx⟩:=hg
  obtain ⟨its,rv,p,hz⟩:=I.list hq
  have hl:=rv.length
  have hj:n - 1 - i < xs.length:=by lia
  obtain ⟨u,hu,ru⟩:=rv.get (Ph hj)
  obtain ⟨f0,f1,f2,f3,f4,f5⟩:=hf it (by simp)
  have ei:((n:Int) - 1 - (i:Int))=(((n - 1 - i:Nat)):Int):=by lia
  have st':s.heap.IsRevIter it a (((n - 1 - i:Nat)):Int):=by rw[← ei];exact st
  refine wpAny_pyNext_rev_item st' p.isList (x:=u) (by simpa using hu) fun h' st'' sb=>?_
  have I1:Inv X pins σ H { s with heap:=h' }:=I.turned (t':=s.toks) (fun b o hb e=>(sb.2 b hb).trans e) f0 f1 f3 f4 f5
  obtain ⟨o,e,c,d⟩:=id st''
  refine ⟨u,rfl,tM (s:={ s with heap:=h' }) e c d (by decide) ⟨_,H,I1,ru,⟨rfl,fun ys hy=>by rw[I.pG hy hq];exact Ph hj⟩,?_,fun b hb=>(hf b hb).1⟩⟩
  have e2:(((n - 1 - i:Nat)):Int) - 1=(n:Int) - 1 - ((i+1:Nat):Int):=by lia
  rw[e2] at st''
  exact st''
 done:=by
  intro X hP hw hK hc i pins s σ H E I hf st hg
  subst hP hw hK
  have hg:i=n:=hg
  subst hg
  obtain ⟨f0,f1,f2,f3,f4,f5⟩:=hf it (by simp)
  have e1:(i:Int) - 1 - (i:Int)=-1:=by lia
  have st':s.heap.IsRevIter it a (-1):=by rw[← e1];exact st
  exact wpAny_pyNext_rev_end (I.ok.hd hc) st' fun h' eb=>⟨rfl,I.turned (t':=s.toks) (fun b o hb e=>eb b o hb e) f0 f1 f3 f4 f5⟩
 self:=fun _ _ _ _ _ st h=>Tu st h
theorem Inv.Cw {X:Cx}{pins:List (O9×Obj)}{σ:L2.St}{H H':Hp}{s:O4}{h':Heap}{fp:List O9}{tk:Nat} (I:Inv X pins σ H s) (hf:∀ b∈fp,mh X pins H b)
 (k:∀ b o,b∉fp->s.heap.get? b=some o->h'.get? b=some o) (hs:∀ b,b < s.heap.objs.size->H' b=H b) (hok:HOk X.prog X.w H' h'):Inv X pins σ H' { s with heap:=h',toks:=tk }:=by
 have hlt:∀ b u,H b=some u->H' b=some u:=fun b u e=>by rw[hs b (I.hok.lt e)];exact e
 refine I.step (g':=s.gens) (d':=s.drawn) (ch:=fp) (fun b hb=>?_) (fun b o _ _ hc e _=>k b o hc e) (fun b o _ _ hc e _=>⟨o.slots,k b o hc e⟩) (fun b o _ e n=>by rw[hs b (O7 e)];exact n)
  (fun b o hc e=>⟨o,k b o hc e⟩) (fun b xs e=>hlt b _ e) (fun b o u e=>hlt b _ e) (fun b ps e=>⟨#[],by rw[hlt b _ e];simp⟩) (fun m hm=>?_) hok I.bare
 ·obtain ⟨_,f1,_,f3,f4,f5⟩:=hf b hb
  exact ⟨f3,f1,f4,f5⟩
 ·obtain ⟨o,es,ep,ho,r⟩:=hm
  exact ⟨o,es,ep,k _ o (fun z=>(hf _ z).2.1 rfl) ho,r⟩
inductive iD (X:Cx) (F:FT) (G:Str->Option BT.W) (sr:BT.Sr) (sa:BT.Es) (σ:L2.St) (H:Hp) (R:It->Hp->Prop):Prop where
 | mk (m:List O9) (s:BT.Sl) (h:BT.HH) (ws:List BT.W) (h':BT.HH) (ds:List BT.D) (RR:RH X.K m H h) (S:RS X.prog X.w X.K m H σ s) (e:BT.evs F G sa s h=some (ws,h')) (e2:(BT.rds ws h').bind (BT.dQ sr)=some ds) (ha:uC sr ws)
  (p:∀ H' m' J,Ext m H m' H'->RH X.K m' H' h'->sC X.K J m' H' ds (oG ws ds)->R J H'):iD X F G sr sa σ H R
theorem PI.weak (h:PI X tg e t) (q:∀ σ H R,t' σ H R->t σ H R):PI X tg e t':=fun pins s σ H R I hw=>h pins s σ H R I (q _ _ _ hw)
section
theorem Cy {K:OX} (h:(Rd H0 a (.lst vs)/\a∉m0)\/KL K a vs) (r:RDs K m0 H0 vs ds):sC K (Itl K a) m0 H0 ds C:=by
 have k:∀ {m H},Ext m0 H0 m H->SqL K H a vs:=fun x=>LL.sq (h.elim (fun q=>.inl (Rd.ext x q.1 q.2).1) .inr)
 refine ⟨fun m H hh i x _ _ hi=>?_,fun m H hh i v H' d x RR _ hd y=>?_,fun m H _ x _ _=>⟨vs,k x,by rw[r.length];exact O8 _⟩⟩
 ·exact ⟨vs,_,k x,Ph (by rw[r.length];exact hi)⟩
 ·obtain ⟨rfl,y⟩:=y
  obtain ⟨u,h1,h2⟩:=(r.ext x).get hd
  have:=y vs (k x)
  rw[h1] at this
  cases this
  exact ⟨.refl _ _,fun _ _ e=>e,h2⟩
theorem Gy {K:OX} (h:(Rd H0 a (.tup vs)/\a∉m0)\/KT K a vs) (r:RDs K m0 H0 vs ds):sC K (Itt K a) m0 H0 ds C:=by
 have k:∀ {m H},Ext m0 H0 m H->SqT K H a vs:=fun x=>h.elim (fun q=>.inl (Rd.ext x q.1 q.2).1) fun ⟨o,its,n,q,_⟩=>.inr ⟨o,its,n,q⟩
 refine ⟨fun m H hh i x _ _ hi=>?_,fun m H hh i v H' d x RR _ hd y=>?_,fun m H _ x _ _=>⟨vs,k x,by rw[r.length];exact O8 _⟩⟩
 ·exact ⟨vs,_,k x,Ph (by rw[r.length];exact hi)⟩
 ·obtain ⟨rfl,y⟩:=y
  obtain ⟨u,h1,h2⟩:=(r.ext x).get hd
  have:=y vs (k x)
  rw[h1] at this
  cases this
  exact ⟨.refl _ _,fun _ _ e=>e,h2⟩
theorem Gz {K:OX} (h:(Rd H0 a (.lst vs)/\a∉m0)\/KL K a vs) (r:RDs K m0 H0 vs ds):sC K (Itv K a ds.length) m0 H0 ds.reverse C:=by
 have k:∀ {m H},Ext m0 H0 m H->SqL K H a vs:=fun x=>LL.sq (h.elim (fun q=>.inl (Rd.ext x q.1 q.2).1) .inr)
 refine ⟨fun m H hh i x _ _ hi=>?_,fun m H hh i v H' d x RR _ hd y=>?_,fun m H _ x _ _=>by show ds.reverse.length=ds.length;simp⟩
 ·exact ⟨by simpa using hi,vs,k x,r.length⟩
 ·obtain ⟨rfl,y⟩:=y
  have hi:i < ds.length:=by
   have:=getD_some hd
   simpa using this
  have hd':ds[ds.length - 1 - i]?=some d:=by
   rw[UX hi] at hd
   exact hd
  obtain ⟨u,h1,h2⟩:=(r.ext x).get hd'
  have:=y vs (k x)
  rw[h1] at this
  cases this
  exact ⟨.refl _ _,fun _ _ e=>e,h2⟩
theorem zl {K:OX} (lo:Int) (n:Nat):sC K (Itr lo n) m0 H0 (BT.upto lo n) C:=by
 have hl:(BT.upto lo n).length=n:=by simp[BT.upto]
 refine ⟨fun m H hh i x _ _ hi=>by rw[hl] at hi;exact hi,fun m H hh i v H' d x RR _ hd y=>?_,fun m H _ x _ _=>by rw[hl];exact O8 n⟩
 obtain ⟨rfl,rfl⟩:=y
 have:d=.int (lo+i):=by
  have hi:i < n:=by
   have:=getD_some hd
   rw[hl] at this
   exact this
  simp only[BT.upto,PR] at hd
  rw[Rf hi] at hd
  simpa using hd.symm
 subst this
 exact ⟨.refl _ _,fun _ _ e=>e,.int _⟩
theorem uD:∀ {ws:List BT.W},BT.c7 ws=true->∃ ds:List BT.D,ws=ds.map BT.W.p:=by
 intro ws
 induction ws with
 | nil=>exact fun _=>⟨[],rfl⟩
 | cons w ws ih =>
  intro h
  cases w with
  | p d =>
   obtain ⟨ds,rfl⟩:=ih h
   exact ⟨d :: ds,rfl⟩
  | _=>cases h
theorem zo (h:BT.HH) (ds:List BT.D):BT.rds (ds.map BT.W.p) h=some ds:=by
 induction ds with
 | nil=>rfl
 | cons d ds ih =>
  show (BT.rds (ds.map BT.W.p) h).map (d :: ·)=_
  rw[ih];rfl
theorem zu (hs:sr=.seq\/sr=.rev\/sr=.rng1) (e:(BT.rds ws h).bind (BT.dQ sr)=some ds) (ha:BT.c7 ws=true):∃ d,ws=[.p d]/\BT.dQ sr [d]=some ds:=by
 obtain ⟨xs,rfl⟩:=uD ha
 rw[zo,Ru] at e
 cases xs with
 | nil=>rcases hs with rfl | rfl | rfl<;>cases e
 | cons d xs =>
  cases xs with
  | nil=>exact ⟨d,rfl,e⟩
  | cons d2 xs=>rcases hs with rfl | rfl | rfl<;>cases d<;>cases e
theorem oH (e:BT.evs F G (.cons a .nil) s h=some (ws,h')):∃ w,ws=[w]/\BT.ev F G a s h=some (w,h'):=by
 simp only[BT.evs] at e
 obtain ⟨w,g,e1,e2⟩:=ai e
 simp only[BT.jR,BT.bX,BT.iJ] at e2
 cases e2
 exact ⟨w,rfl,e1⟩
theorem Cz {K:OX} (hq:m0[q]?=some a):sC K (Itl K a) m0 H0 ds (oG [.r q] ds):=by
 have k:∀ {m H h},Ext m0 H0 m H->RH K m H h->oG [.r q] ds h->∃ vs,SqL K H a vs/\RDs K m H vs ds:=fun {m H h} x RR c=>by
  obtain ⟨e,rfl,_⟩:=x.pre
  have e1:(m0++e)[q]?=some a:=by rw[O6 (List.getElem?_eq_some_iff.mp hq).1];exact hq
  obtain ⟨vs,c1,c2⟩:=RR.cell q a ds e1 (c q rfl)
  exact ⟨vs,LL.sq (.inl (.inl c1)),c2⟩
 refine ⟨fun m H hh i x RR c hi=>?_,fun m H hh i v H' d x RR c hd y=>?_,fun m H hh x RR c=>?_⟩
 ·obtain ⟨vs,k1,k2⟩:=k x RR c
  exact ⟨vs,_,k1,Ph (by rw[k2.length];exact hi)⟩
 ·obtain ⟨vs,k1,k2⟩:=k x RR c
  obtain ⟨rfl,y⟩:=y
  obtain ⟨u,h1,h2⟩:=k2.get hd
  have:=y vs k1
  rw[h1] at this
  cases this
  exact ⟨.refl _ _,fun _ _ e=>e,h2⟩
 ·obtain ⟨vs,k1,k2⟩:=k x RR c
  exact ⟨vs,k1,by rw[k2.length];exact O8 _⟩
theorem CA (he:PE X x (tD X F G a)):PI X tg x (iD X F G .seq (.cons a .nil)):=by
 intro pins s σ H R I q
 obtain ⟨m,s',h,ws,h',ds,RR,S,e,e2,ha,post⟩:=q
 rcases ha with ha | ⟨_,q,rfl⟩
 case inr =>
  obtain ⟨w,ew,e4⟩:=oH e
  cases ew
  have g:BT.lat h' q=some ds:=by
   simp only[BT.rds,BT.rd,SA] at e2
   cases g:BT.lat h' q with
   | none=>rw[g] at e2;cases e2
   | some xs=>rw[g] at e2;cases e2;rfl
  refine tN he pins s σ H R I ⟨m,s',h,_,h',RR,S,e4,fun v H1 m1 x1 R1 r1=>?_⟩
  cases r1 with
  | @r a n hn =>
   obtain ⟨vs,c1,c2⟩:=R1.cell q a ds hn g
   exact ⟨a,rfl,⟨vs,LL.sq (.inl (.inl c1))⟩,post H1 m1 _ x1 R1 (Cz hn)⟩
 obtain ⟨d,rfl,e3⟩:=zu (.inl rfl) e2 ha
 obtain ⟨w,ew,e4⟩:=oH e
 cases ew
 rw[BT.yb] at e3
 cases d<;>simp only[BT.nV] at e3<;>try contradiction
 ·cases e3
  refine EV he pins s σ H R I ⟨m,s',h,_,h',RR,S,e4,fun v H1 m1 x1 R1 r1=>?_⟩
  cases r1 with
  | p r1 =>
   cases r1 with
   | @tup a vs _ h r=>exact ⟨a,rfl,⟨vs,h.elim (fun q=>.inl q.1) fun ⟨o,its,n,q,_⟩=>.inr ⟨o,its,n,q⟩⟩,post H1 m1 _ x1 R1 (Gy h r)⟩
 ·cases e3
  refine tN he pins s σ H R I ⟨m,s',h,_,h',RR,S,e4,fun v H1 m1 x1 R1 r1=>?_⟩
  cases r1 with
  | p r1 =>
   cases r1 with
   | @lst a vs _ h r=>exact ⟨a,rfl,⟨vs,LL.sq (h.elim (fun q=>.inl q.1) .inr)⟩,post H1 m1 _ x1 R1 (Cy h r)⟩
theorem zw (O:Ok X F G sc N) (hg:av sc "range"=true) (hs:noStar e=true) (ha:PA X [e] (tDs X F G sa)):PI X tg (.Call (.Name "range" p) [e] [] pos) (iD X F G .rng1 sa):=by
 refine PI.weak (vm (aE O hg) (O.blt _ (by decide)) ha (af hs)) fun σ H R q=>?_
 obtain ⟨m,s',h,ws,h',ds,RR,S,e,e2,ha,post⟩:=q
 obtain ⟨d,rfl,e3⟩:=zu (.inr (.inr rfl)) e2 (ha.p (fun z=>by cases z))
 refine ⟨m,s',h,_,h',RR,S,e,fun vs H1 m1 x1 R1 r1=>?_⟩
 obtain ⟨j,rfl⟩:∃ j:Int,d=.int j:=by
  cases d with
  | int j=>exact ⟨j,rfl⟩
  | _=>exact absurd (show (none:Option (List BT.D))=some _ from e3) (fun z=>nomatch z)
 rw[BT.cD] at e3
 split at e3
 ·rename_i c
  simp only[OY,decide_eq_true_eq] at c
  cases e3
  cases r1 with
  | cons r t =>
   cases t
   cases r with
   | p r =>
    cases r
    exact ⟨j,rfl,by lia,by lia,post H1 m1 _ x1 R1 (zl 0 j.toNat)⟩
 ·cases e3
theorem Kp (e:(BT.rds ws h).bind (BT.dQ .rng2)=some ds) (ha:BT.c7 ws=true):∃ i j:Int,ws=[.p (.int i),.p (.int j)]/\(-100000<=i/\i<=100000/\-100000<=j/\j<=100000)/\ds=BT.upto i (j - i).toNat:=by
 obtain ⟨xs,rfl⟩:=uD ha
 rw[zo,Ru] at e
 have hx:∃ i j:Int,xs=[.int i,.int j]:=by
  match xs,e with
  | [.int i,.int j],_=>exact ⟨i,j,rfl⟩
 obtain ⟨i,j,rfl⟩:=hx
 rw[BT.m6] at e
 split at e
 ·rename_i c
  simp only[OY,decide_eq_true_eq] at c
  cases e
  exact ⟨i,j,rfl,⟨c.1.1.1,c.1.1.2,c.1.2,c.2⟩,rfl⟩
 ·cases e
theorem zx (O:Ok X F G sc N) (hg:av sc "range"=true) (hs:noStar x=true) (hs2:noStar y=true) (ha:PA X [x,y] (tDs X F G sa)):PI X tg (.Call (.Name "range" p) [x,y] [] pos) (iD X F G .rng2 sa):=by
 refine PI.weak (vn (aE O hg) (O.blt _ (by decide)) ha (by rw[af hs,af hs2];rfl) (by rw[af hs2];rfl)) fun σ H R q=>?_
 obtain ⟨m,s',h,ws,h',ds,RR,S,e,e2,ha,post⟩:=q
 obtain ⟨i,j,rfl,c,rfl⟩:=Kp e2 (ha.p (fun z=>by cases z))
 refine ⟨m,s',h,_,h',RR,S,e,fun vs H1 m1 x1 R1 r1=>?_⟩
 cases r1 with
 | cons r t =>
  cases t with
  | cons r2 t2 =>
   cases t2
   cases r with
   | p r =>
    cases r
    cases r2 with
    | p r2 =>
     cases r2
     exact ⟨i,j,rfl,⟨by lia,by lia,by lia,by lia⟩,post H1 m1 _ x1 R1 (zl i (j - i).toNat)⟩
theorem CB (O:Ok X F G sc N) (hg:av sc "reversed"=true) (hs:noStar e=true) (he:PE X e (tD X F G a)):PI X tg (.Call (.Name "reversed" p) [e] [] pos) (iD X F G .rev (.cons a .nil)):=by
 intro pins s σ H R I q
 obtain ⟨m,s',h,ws,h',ds,RR,S,e,e2,ha,post⟩:=q
 obtain ⟨d,rfl,e3⟩:=zu (.inr (.inl rfl)) e2 (ha.p (fun z=>by cases z))
 obtain ⟨w,ew,e4⟩:=oH e
 cases ew
 obtain ⟨xs,rfl⟩:∃ xs:List BT.D,d=.lst xs:=by
  cases d with
  | lst xs=>exact ⟨xs,rfl⟩
  | _=>exact absurd (show (none:Option (List BT.D))=some _ from e3) (fun z=>nomatch z)
 ·cases e3
  refine U8 (bR (u:=.type "reversed") I (aE O hg) (O.blt _ (by decide)) (by decide +kernel) (Pj (thn (bO he iH (af hs) pos pins s σ H (fun vs H1=>∃ a vt,vs=[.ref a]/\∃ m1,Ext m H m1 H1/\RH X.K m1 H1 h'/\((Rd H1 a (.lst vt)/\a∉m1)\/KL X.K a vt)/\RDs X.K m1 H1 vt xs) I ?_) fun us s1 ⟨vs,H1,I1,r1,q1⟩=>?_) (af hs) rfl))
  ·refine ⟨m,s',h,_,h',RR,S,e4,fun v H1 m1 x1 R1 r1=>?_⟩
   cases r1 with
   | p r1 =>
    cases r1 with
    | @lst a vt _ hh r=>exact ⟨a,vt,rfl,m1,x1,R1,hh,r⟩
  ·obtain ⟨a,vt,rfl,m1,x1,R1,hh,r⟩:=q1
   obtain ⟨u,rfl,ru⟩:=vals1 r1
   cases ru
   obtain ⟨z,its,nn,rv,hl,ee⟩:=rdL I1 (hh.elim (fun q=>.inl q.1) .inr)
   have hL:s1.heap.IsList a its.toArray:=⟨_,ee,rfl,_,rfl⟩
   have hlen:=r.length
   refine call_reversed_list hL ?_
   have stt:({ s1 with heap:=s1.heap.push (revObj a ((its.toArray.size:Int) - 1)) }:O4).heap.IsRevIter s1.heap.objs.size a ((xs.length:Int) - 1 - ((0:Nat):Int)):=by
    refine ⟨_,Pf _ rfl,rfl,?_⟩
    show Data.fields #[.ref a,Sd ((its.toArray.size:Int) - 1)]=_
    rw[O2,← hl,hlen]
    simp
   refine Tu stt ?_
   refine ⟨s1.heap.objs.size,[s1.heap.objs.size],_,_,H1,rfl,I1.kept (t':=s1.toks) fun b o e=>OZ _ e,zk a _ xs.length,stt,fun b hb=>?_,post H1 m1 _ x1 R1 (Gz hh r)⟩
   have e:b=s1.heap.objs.size:=by simpa using hb
   subst e
   exact I1.Be (O8 _) (I1.hok.fresh (O8 _))
end
section
variable {K:OX}
theorem RKs.any (r:RKs K m H vs kvs) (k:Key):(vs.any fun kv=>decide (kv.1=k))=kvs.any fun kv=>decide (kv.1=k):=by
 induction r with
 | nil=>rfl
 | cons _ _ _ ih=>rw[RL,RL,ih]
theorem RKs.snoc (r:RKs K m H vs kvs) (k:Key) (hk:RD K m H (kV k) (BT.rO k)) (q:RD K m H v d):RKs K m H (vs++[(k,v)]) (kvs++[(k,d)]):=by
 induction r with
 | nil=>exact .cons hk q .nil
 | cons h r _ ih=>exact .cons h r ih
theorem RKs.repl (r:RKs K m H vs kvs) (k:Key) (q:RD K m H v d):RKs K m H (vs.map fun kv=>if kv.1=k then (kv.1,v) else kv) (kvs.map fun kv=>if kv.1=k then (kv.1,d) else kv):=by
 induction r with
 | nil=>exact .nil
 | @cons j v1 d1 vs kvs hk r t ih =>
  rw[Pn,Pn]
  by_cases c:j=k
  ·rw[if_pos c,if_pos c];exact .cons hk q ih
  ·rw[if_neg c,if_neg c];exact .cons hk r ih
theorem RKs.put (r:RKs K m H vs kvs) (k:Key) (hk:RD K m H (kV k) (BT.rO k)) (q:RD K m H v d):RKs K m H (putK vs k v) (BT.tW kvs k d):=by
 unfold putK BT.tW
 rw[r.any k]
 split
 ·exact r.repl k q
 ·exact r.snoc k hk q
end
section
variable {X:Cx}{F:FT}{G:Str->Option BT.W}
theorem CD:PE X (.Dict [] [] p) (tD X F G .dnew):=by
 intro pins s σ H Q I q
 obtain ⟨m,sl,h,z,h',R,S,ee,post⟩:=q
 simp only[BT.ev] at ee
 cases ee
 have hp:H s.heap.objs.size=none:=I.hok.fresh (O8 _)
 refine wpAny_Dict_empty ⟨.ref s.heap.objs.size,_,I.laid (a:=s.heap.objs.size) (o:=.dK []) (t':=s.toks) (fun _ _ q=>OZ _ q) (O8 _) (xX s.heap I.big),rfl,?_⟩
 refine post _ _ (m++[s.heap.objs.size]) (gE hp) (R.FW hp ⟨[],aJ,.nil⟩) (.r ?_)
 rw[← R.len];simp
noncomputable def En:V->V->V->Hp->(Hp->Prop)->Prop:=fun o i v H Q=>∃ p kvs k,o=.ref p/\i=kV k/\H p=some (.dK kvs)/\kvs.length < sizeLine/\Q (upd H p (.dK (putK kvs k v)))
theorem set_dict:EO X En:=by
 intro pins s σ H o i v ov iv u Q I ro ri rv q
 obtain ⟨a,kvs,k,rfl,rfl,e,l,q⟩:=q
 cases ro
 obtain ⟨z,hd,vs,rel,dd⟩:=xW I.hok e
 have hz:vs.length<=sizeLine:=by rw[← rel.length];exact z
 have hl:(putK kvs k v).length<=sizeLine:=by have:=pV kvs k v;lia
 refine wpAny_setItem_pairs (hsz:=hz) (tV ri) dd fun h' dd' hs=>⟨_,?_,q⟩
 have he:∃ q,h'.get? a=some q:=let ⟨q,_,_,hq,_⟩:=dd';⟨q,hq⟩
 exact BD I (by rw[e];exact Q4) hs he (Fo hl hd (rel.put k rv) dd')
end
section
variable {E:Value->O4->Prop}
end
noncomputable def hpk (H:Hp) (n S:O9) (bs as:List O9) (ps:List (Key×V)):Hp:=fun b=>if b < n then H b else if b=S then some (.lst (bs.map V.ref)) else ((as.zip ps).lookup b).map fun p=>HO.tup [kV p.1,p.2]
theorem wj {α:Type}{as:List O9}{ps:List α}{b:O9}{p:α} (h:(as.zip ps).lookup b=some p):∃ j:Nat,as[j]?=some b/\ps[j]?=some p:=by
 induction as generalizing ps with
 | nil=>cases h
 | cons a as ih =>
  cases ps with
  | nil=>cases h
  | cons q ps =>
   rw[VB,Qg] at h
   by_cases e:b=a
   ·subst e
    simp at h
    subst h
    exact ⟨0,rfl,rfl⟩
   ·rw[beq_eq_false_iff_ne.mpr e] at h
    obtain ⟨j,h1,h2⟩:=ih h
    exact ⟨j+1,by simpa using h1,by simpa using h2⟩
theorem zy {α:Type}{as:List O9}{ps:List α} (hr:as.Pairwise (· < ·)) {j:Nat}{b:O9}{p:α} (h1:as[j]?=some b) (h2:ps[j]?=some p):(as.zip ps).lookup b=some p:=by
 induction as generalizing ps j with
 | nil=>simp at h1
 | cons a as ih =>
  cases ps with
  | nil=>simp at h2
  | cons q ps =>
   rw[VB,Qg]
   cases j with
   | zero=>simp at h1 h2;subst h1 h2;simp
   | succ j =>
    simp at h1 h2
    have hb:=Pb h1
    rw[List.pairwise_cons] at hr
    have ne:b≠a:=R0 (hr.1 b hb)
    rw[beq_eq_false_iff_ne.mpr ne]
    exact ih hr.2 h1 h2
theorem nh {K:OX}:∀ {as:List O9}{vs:List (Key×V)}{kvs:List (BT.Ky×BT.D)},as.length=vs.length->RKs K m H vs kvs →
 (∀ (j:Nat) a p,as[j]?=some a->vs[j]?=some p->H a=some (.tup [kV p.1,p.2])/\a∉m)->RDs K m H (as.map V.ref) (BT.jA kvs)
 | [],_,_,h1,r1,_=>by
  cases r1 with
  | nil=>exact .nil
  | cons _ _ _=>simp at h1
 | a :: as,_,_,h1,r1,k=>by
  cases r1 with
  | nil=>simp at h1
  | @cons key v d vs kvs hk q1 t1 =>
   obtain ⟨k1,k2⟩:=k 0 a _ rfl rfl
   exact .cons (.tup (.inl ⟨.inl k1,k2⟩) (.cons hk (.cons q1 .nil))) (nh (by simpa using h1) t1 fun j a p e1 e2=>k (j+1) a p (by simpa using e1) (by simpa using e2))
section
variable {X:Cx}{F:FT}{G:Str->Option BT.W}
theorem zA {pins:List (O9×Obj)}{s:O4}{σ:L2.St}{H:Hp}{o:BT.E}{oe:O3}{apos pos:Pos}{RQ:O9->List (Key×V)->Hp->Prop}{Q':Value->O4->Prop} (hb:aB oe=true) (hl:(apos.endLine==pos.line)=true) (hO:PE X oe (tD X F G o)) (I:Inv X pins σ H s)
 (q:tD X F G o σ H fun x H1=>∃ a vs,x=.ref a/\H1 a=some (.dK vs)/\RQ a vs H1) (k:∀ a vs H1 s2 r,Inv X pins σ H1 s2->H1 a=some (.dK vs)->RQ a vs H1->s2.heap.IsItemsView r a->s2.heap.objs.size=r+1->Q' (.ref r) s2) :
 wpAny (Pp X.prog X.w) X.A (eval (.Call (.Attribute oe "items" apos) [] [] pos) X.env) Q' X.xe s:=by
 refine Vl (je hb) hl (thn (hO pins s σ H _ I q) fun v s1 zq=>?_)
 obtain ⟨x,H1,I1,r1,a,vs,ex,e,q1⟩:=zq
 subst ex
 cases r1
 obtain ⟨h1,h2⟩:=rM I1 (x:=.ref a) rfl (T:="dict") (.inr (.inr (.inl ⟨rfl,.inl ⟨_,e⟩⟩)))
 obtain ⟨z,hd,us,rel,dd⟩:=xW I1.hok e
 refine ⟨"dict","dict.items",PySem.F.plainAttrs_dict,Ur,PySem.F.type_dict_items,h1,h2,Sz rfl (U3 ?_)⟩
 refine call_meetsIn Ur h1 PySem.F.entry_dict_items (PySem.F.args_dict_items_1 _) (meets_dict_items (aF X.prog X.w) a hd) ⟨⟨us,dd⟩,?_⟩
 refine k a vs H1 _ _ (I1.kept (t':=s1.toks) fun b o q=>OZ _ q) e q1 ⟨_,Pf _ rfl,rfl,rfl⟩ (QG ..)
theorem GA (rel:KV vs us):∀ {j:Nat}{p:Key×V},vs[j]?=some p->∃ q,us[j]?=some q/\p.1=q.1/\RelV p.2 q.2:=by
 unfold KV at rel
 induction rel with
 | nil=>intro j p h;simp at h
 | cons h t ih =>
  intro j p e
  cases j with
  | zero=>simp at e;subst e;exact ⟨_,rfl,h⟩
  | succ j =>
   obtain ⟨q,q1,q2⟩:=ih (j:=j) (p:=p) (by simpa using e)
   exact ⟨q,by simpa using q1,q2⟩
theorem wk {pins:List (O9×Obj)}{s1:O4}{σ:L2.St}{H1:Hp}{h':Heap}{tk:Nat}{S:O9}{acc:Array Value}{c:Nat}{as bs:List O9}{vs:List (Key×V)}{us:List (Key×Value)}{m:List O9}{h:BT.HH}{kvs:List (BT.Ky×BT.D)}{lo:O9} (I1:Inv X pins σ H1 s1) (rel:KV vs us) (R:RH X.K m H1 h) (rk:RKs X.K m H1 vs kvs)
 (hS:s1.heap.objs.size<=S) (hlo:s1.heap.objs.size<=lo) (hSl:S∉as) (hz:bs.length<=sizeLine) (k:∀ b o,s1.heap.get? b=some o->h'.get? b=some o) (g1:h'.get? S=some { cls:=.type "list",data:=.seq acc c }) (g2:as.length=us.length) (g3:PySem.W.KdxG (aF X.prog X.w) us lo h' as) (g4:acc.toList=bs.map Px) :
 ∃ H2,Inv X pins σ H2 { s1 with heap:=h',toks:=tk }/\H2 S=some (.lst (bs.map V.ref))/\Ext m H1 m H2/\Le H1 H2/\H1 S=none/\RDs X.K m H2 (as.map V.ref) (BT.jA kvs):=by
 have low:∀ c:O9,c < s1.heap.objs.size->hpk H1 s1.heap.objs.size S bs as vs c=H1 c:=fun c hc=>if_pos hc
 have nS:¬ (S < s1.heap.objs.size):=Nat.not_lt.mpr hS
 have atS:hpk H1 s1.heap.objs.size S bs as vs S=some (.lst (bs.map V.ref)):=by
  unfold hpk
  rw[if_neg nS,if_pos rfl]
 have atA:∀ (j:Nat) a p,as[j]?=some a->vs[j]?=some p->hpk H1 s1.heap.objs.size S bs as vs a=some (.tup [kV p.1,p.2]):=fun j a p q1 q2=>by
  have ha:=Pb q1
  have ab:=g3.above a ha
  unfold hpk
  rw[if_neg (Nat.not_lt.mpr (PD hlo (QE ab))),if_neg (show ¬ a=S from fun e=>hSl (by rw[← e];exact ha)),zy g3.rise q1 q2]
  rfl
 have fresh:∀ c:O9,s1.heap.objs.size<=c->H1 c=none:=fun c hc=>I1.hok.fresh hc
 have live:Le H1 (hpk H1 s1.heap.objs.size S bs as vs):=fun c u q=>by rw[low c (I1.hok.lt q)];exact q
 have hok:HOk X.prog X.w (hpk H1 s1.heap.objs.size S bs as vs) h':=fun c u q=>by
  by_cases lc:c < s1.heap.objs.size
  ·rw[low c lc] at q
   exact (I1.hok c u q).stay (fun b o _ w=>k b o w) (fun b w=>live b _ w) fun b l w=>live b _ w
  ·by_cases ec:c=S
   ·subst ec
    rw[atS] at q
    cases q
    refine ⟨by rw[Pr];exact hz,acc.toList,_,?_,by simpa using g1⟩
    rw[g4]
    clear g1 g2 g3 g4 atA atS low live hSl hz
    induction bs with
    | nil=>exact .nil
    | cons a as ih=>exact .cons rfl ih
   ·have hx:=q
    unfold hpk at hx
    rw[if_neg lc,if_neg ec] at hx
    cases hL:(as.zip vs).lookup c with
    | none=>rw[hL] at hx;cases hx
    | some pr =>
     rw[hL] at hx
     cases hx
     obtain ⟨j,j1,j2⟩:=wj hL
     obtain ⟨key,kk,x,x1,hk,pa⟩:=g3.pairs j c j1
     have rp:pr.1=kk/\RelV pr.2 x:=by
      obtain ⟨q,q1,q2⟩:=GA rel j2
      rw[x1] at q1
      cases q1
      exact q2
     obtain ⟨rp1,rp2⟩:=rp
     refine ⟨by show 2<=sizeLine;decide,[key,x],.cons ?_ (.cons rp2 .nil),_,pa,rfl,_,rfl⟩
     rw[rp1]
     rcases aO (show kK kk key=true from hk) with ⟨i,t,rfl,rfl⟩ | ⟨x,t,rfl,rfl⟩
     ·exact ⟨t,rfl⟩
     ·exact ⟨t,rfl⟩
 have x:Ext m H1 m (hpk H1 s1.heap.objs.size S bs as vs):=⟨⟨[],by simp,by simp⟩,fun c o q _ _=>live c o q,fun c q=>by
  cases g:H1 c with
  | none=>rfl
  | some o=>rw[live c o g] at q;cases q⟩
 have ni:∀ c:O9,s1.heap.objs.size<=c->c∉m:=fun c hc=>R.c9 (fresh c hc)
 have ln:=rel.length
 refine ⟨_,Inv.Cw (s:=s1) (tk:=tk) (fp:=[]) I1 (fun b hb=>nomatch hb) (fun b o _ e=>k b o e) low hok,atS,x,live,fresh S hS,nh (by lia) (rk.ext x) fun j a p q1 q2=>⟨atA j a p q1 q2,ni a (PD hlo (QE (g3.above a (Pb q1))))⟩⟩
theorem GB {h:Heap}{a:O9}{us:List (Key×Value)} (dd:h.DictOf (aF X.prog X.w) a us):∃ ep,h.DictAt (aF X.prog X.w) a us ep:=by
 obtain ⟨o,es,ep,z⟩:=dd
 exact ⟨ep,o,es,z⟩
theorem CF (e:BT.FI x h=some (z,h')):∃ n kvs,x=.r n/\BT.dat h n=some kvs/\kvs.length<=BT.lim/\z=.p (.lst (BT.jA kvs))/\h'=h:=by
 cases x with
 | p _=>cases e
 | k _=>cases e
 | o _=>cases e
 | c _ _=>cases e
 | x _=>cases e
 | r n =>
  rw[BT.FJ] at e
  obtain ⟨kvs,e1,e2⟩:=Option.bind_eq_some_iff.mp e
  split at e2
  case isFalse=>cases e2
  rename_i c
  cases e2
  exact ⟨n,kvs,rfl,e1,c,rfl,rfl⟩
theorem GC {sc:Qc}{N:List Str} (O:Ok X F G sc N) (hu:bB N=true) {o:BT.E}{oe:O3}{np p apos pos:Pos} (hg:av sc "list"=true) (hb:aB oe=true) (hl:(apos.endLine==pos.line)=true) (hO:PE X oe (tD X F G o)) :
 PE X (.Call (.Name "list" np) [.Call (.Attribute oe "items" apos) [] [] pos] [] p) (tD X F G (.dli o)):=by
 intro pins s σ H Q I q
 refine U8 (bR (u:=.type "list") I (aE O hg) (O.blt _ (by decide)) (by decide +kernel) (Pj ?_ (af rfl) rfl))
 rw[af (show noStar (.Call (.Attribute oe "items" apos) [] [] pos)=true from rfl)]
 show wpAny _ _ (RG ((false,eval (.Call (.Attribute oe "items" apos) [] [] pos) X.env) :: Qx p (Pu [] X.env))) _ _ s
 obtain ⟨m,sl,h,z,h',R,S,ee,post⟩:=q
 simp only[BT.ev] at ee
 obtain ⟨x,h1,e1,e2⟩:=ai ee
 obtain ⟨n,kvs,rfl,e3,e4,rfl,rfl⟩:=CF e2
 refine PU (zA hb hl hO I (RQ:=fun a vs H1=>∃ m1,RH X.K m1 H1 h'/\RKs X.K m1 H1 vs kvs/\Post X.prog X.w X.K m1 H1 (.p (.lst (BT.jA kvs))) h' Q) ⟨m,sl,h,.r n,h',R,S,e1,fun v H1 m1 x1 R1 r1=>?_⟩ fun a vs H1 s2 r I2 e q1 iv hsz=>Qa ?_)
 ·cases r1 with
  | @r a _ hn =>
   obtain ⟨vs,hH,rk⟩:=R1.Ek n a kvs hn e3
   exact ⟨a,vs,rfl,hH,m1,R1,rk,fun v5 H5 m5 x5 R5 r5=>post v5 H5 m5 (x1.trans x5) R5 r5⟩
 ·obtain ⟨m1,R1,rk,post⟩:=q1
  obtain ⟨zz,hd,us,rel,dd⟩:=xW I2.hok e
  obtain ⟨ep,da⟩:=GB dd
  have l1:=rel.length
  refine PySem.W.kdx_call (I2.ok.hd (O.calm hu)) iv da (by lia) fun h2 tk acc c as k g1 g2 g3 g4=>?_
  obtain ⟨H2,I3,atS,x,le,fr,rr⟩:=wk (tk:=tk) I2 rel R1 rk (O8 _) (O8 _) (fun hm=>PZ _ (g3.above _ hm)) (by lia) k g1 g2 g3 g4
  have ni:s2.heap.objs.size∉m1:=R1.c9 fr
  exact ⟨.ref s2.heap.objs.size,H2,I3,rfl,post _ _ m1 x (R1.ext x le) (.p (.lst (.inl ⟨.inl atS,ni⟩) rr))⟩
end
section
variable {X:Cx}{F:FT}{G:Str->Option BT.W}{K:OX}{m:List O9}{H:Hp}
end
section
variable {F:FT}{G:Str->Option BT.W}
end
section
theorem kE:∀ {xs:List V}{us:List Value},xs.length=us.length->(∀ (j:Nat) x u,xs[j]?=some x->us[j]?=some u->RelV x u)->ao xs us:=by
 intro xs
 induction xs with
 | nil =>
  intro us h _
  cases us with
  | nil=>exact .nil
  | cons _ _=>simp at h
 | cons x xs ih =>
  intro us h q
  cases us with
  | nil=>simp at h
  | cons u us=>exact .cons (q 0 x u rfl rfl) (ih (by simpa using h) fun j a b e1 e2=>q (j+1) a b (by simpa using e1) (by simpa using e2))
theorem Kq (O:Ok X F G sc N) (hu:bB N=true) (hg:av sc "list"=true) (hg2:av sc "range"=true) (hs:noStar ex=true) (hA:PA X [ex] (tDs X F G sa)) :
 PE X (.Call (.Name "list" np) [.Call (.Name "range" zp) [ex] [] pos] [] p) (tD X F G (.lsr mu .rng1 sa)):=by
 intro pins s σ H Q I q
 have q:=fV (as:=sa) (k:=fun ws h=>BT.kLs mu .rng1 ws h) (fun s h=>by simp only[BT.ev]) q (R':=fun vs H1=>∃ m h ws z h',RH X.K m H1 h/\RWs X.prog X.w X.K m H1 vs ws/\BT.kLs mu .rng1 ws h=some (z,h')/\Post X.prog X.w X.K m H1 z h' Q) fun m h xs z h' vs H1 R r e post=>⟨m,h,xs,z,h',R,r,e,post⟩
 refine U8 (bR (u:=.type "list") I (aE O hg) (O.blt _ (by decide)) (by decide +kernel) (Pj ?_ (af rfl) rfl))
 rw[af (show noStar (.Call (.Name "range" zp) [ex] [] pos)=true from rfl)]
 show wpAny _ _ (RG ((false,eval (.Call (.Name "range" zp) [ex] [] pos) X.env) :: Qx p (Pu [] X.env))) _ _ s
 refine PU (U8 (bR (u:=.type "range") I (aE O hg2) (O.blt _ (by decide)) (by decide +kernel) (Pj (thn (hA pos pins s σ H _ I q) fun us s1 ⟨vs,H1,I1,r1,q1⟩=>?_) (af hs) rfl)))
 obtain ⟨m,h,ws,z,h',R,rws,e,post⟩:=q1
 unfold BT.kLs at e
 cases g1:(BT.rds ws h).bind (BT.dQ .rng1) with
 | none=>rw[g1] at e;cases e
 | some ds =>
  rw[g1] at e
  simp only at e
  by_cases cl:ds.length<=BT.lim
  case neg=>rw[if_neg cl] at e;cases e
  rw[if_pos cl] at e
  have ez:BT.new mu ds h=(z,h'):=O5 e
  obtain ⟨xs,e1,e2⟩:=Option.bind_eq_some_iff.mp g1
  have rr:=cT R rws e1
  have hd:∃ j:Int,xs=[.int j]:=by
   match xs,e2 with
   | [.int j],_=>exact ⟨j,rfl⟩
  obtain ⟨j,rfl⟩:=hd
  rw[BT.cD] at e2
  split at e2
  case isFalse=>cases e2
  rename_i c
  simp only[OY,decide_eq_true_eq] at c
  have ed:BT.upto 0 j.toNat=ds:=O5 e2
  obtain ⟨v,rfl,r⟩:=rr.one
  cases r with
  | d r =>
   cases r
   obtain ⟨u,rfl,eu⟩:=vals1 r1
   obtain ⟨t,rfl⟩:=eu
   refine call_range_1 (Qa ?_)
   refine UL (s:={ s1 with heap:=s1.heap.push { cls:=.type "range",data:=.fields #[.int 0 s1.toks,.int j t,.int 1 (s1.toks+1)] },toks:=s1.toks+1+1 }) (I1.ok.hd (O.calm hu)) (T4 ..) (small_one (by lia) (by lia) (by lia) (by lia)) (n:=j.toNat) (by rw[Vp];split<;>lia) (by lia) fun h2 tk acc c' hk hS hacc=>?_
   have nn:ds=((PF j.toNat).map fun (k:Nat)=>(0:Int)+(k:Int)).map BT.D.int:=by rw[← ed,Qs];rfl
   have hk':∀ b u,s1.heap.get? b=some u->h2.get? b=some u:=fun b u q=>hk b u (OZ _ q)
   have hle:s1.heap.objs.size<=(s1.heap.push { cls:=.type "range",data:=.fields #[.int 0 s1.toks,.int j t,.int 1 (s1.toks+1)] }).objs.size:=by rw[QG];exact P9 _
   have hv:ao (((PF j.toNat).map fun (k:Nat)=>(0:Int)+(k:Int)).map V.int) acc.toList:=by
    refine kE (by simp[hacc.1]) fun i x u e1 e2=>?_
    obtain ⟨t',rfl⟩:=hacc.2 i u (by simpa using e2)
    have:x=.int (0+(i:Int)):=by
     rw[Qs,PR] at e1
     rcases Pz i j.toNat with z | z
     ·rw[Rf z] at e1
      exact (O5 e1).symm
     ·rw[Pa (by simpa using z)] at e1;cases e1
    subst this
    exact ⟨t',by simp⟩
   have sl:sizeLine=16777216:=QM
   refine ⟨.ref _,_,I1.laid (h':=h2) (t':=tk) (o:=.lst (((PF j.toNat).map fun (k:Nat)=>(0:Int)+(k:Int)).map V.int)) hk' hle ⟨by rw[Pr,Pr,TN];lia,acc.toList,c',hv,by simpa using hS⟩,rfl,?_⟩
   refine fS (mu:=mu) R (I1.hok.fresh hle) (jd _) ?_
   rw[← nn,ez]
   exact post
theorem RRs.two {K:OX}{m:List O9}{H:Hp}{vs:List V}{d e:BT.D} (r:RRs K m H vs [d,e]):∃ v u,vs=[v,u]/\RR K m H v d/\RR K m H u e:=by
 cases r with
 | cons r t=>obtain ⟨u,rfl,q⟩:=t.one;exact ⟨_,u,rfl,r,q⟩
theorem wm (O:Ok X F G sc N) (hu:bB N=true) (hg:av sc "list"=true) (hg2:av sc "range"=true) (hs:noStar ex=true) (hs2:noStar ey=true) (hA:PA X [ex,ey] (tDs X F G sa)) :
 PE X (.Call (.Name "list" np) [.Call (.Name "range" zp) [ex,ey] [] pos] [] p) (tD X F G (.lsr mu .rng2 sa)):=by
 intro pins s σ H Q I q
 have q:=fV (as:=sa) (k:=fun ws h=>BT.kLs mu .rng2 ws h) (fun s h=>by simp only[BT.ev]) q (R':=fun vs H1=>∃ m h ws z h',RH X.K m H1 h/\RWs X.prog X.w X.K m H1 vs ws/\BT.kLs mu .rng2 ws h=some (z,h')/\Post X.prog X.w X.K m H1 z h' Q) fun m h xs z h' vs H1 R r e post=>⟨m,h,xs,z,h',R,r,e,post⟩
 refine U8 (bR (u:=.type "list") I (aE O hg) (O.blt _ (by decide)) (by decide +kernel) (Pj ?_ (af rfl) rfl))
 rw[af (show noStar (.Call (.Name "range" zp) [ex,ey] [] pos)=true from rfl)]
 show wpAny _ _ (RG ((false,eval (.Call (.Name "range" zp) [ex,ey] [] pos) X.env) :: Qx p (Pu [] X.env))) _ _ s
 refine PU (U8 (bR (u:=.type "range") I (aE O hg2) (O.blt _ (by decide)) (by decide +kernel) (Pj (thn (hA pos pins s σ H _ I q) fun us s1 ⟨vs,H1,I1,r1,q1⟩=>?_) (af hs) (aC (by simp[ak,hs2])))))
 obtain ⟨m,h,ws,z,h',R,rws,e,post⟩:=q1
 unfold BT.kLs at e
 cases g1:(BT.rds ws h).bind (BT.dQ .rng2) with
 | none=>rw[g1] at e;cases e
 | some ds =>
  rw[g1] at e
  simp only at e
  by_cases cl:ds.length<=BT.lim
  case neg=>rw[if_neg cl] at e;cases e
  rw[if_pos cl] at e
  have ez:BT.new mu ds h=(z,h'):=O5 e
  obtain ⟨xs,e1,e2⟩:=Option.bind_eq_some_iff.mp g1
  have rr:=cT R rws e1
  have hd:∃ i j:Int,xs=[.int i,.int j]:=by
   match xs,e2 with
   | [.int i,.int j],_=>exact ⟨i,j,rfl⟩
  obtain ⟨i,j,rfl⟩:=hd
  rw[BT.m6] at e2
  split at e2
  case isFalse=>cases e2
  rename_i c
  simp only[OY,decide_eq_true_eq] at c
  have ed:BT.upto i (j - i).toNat=ds:=O5 e2
  obtain ⟨v,v2,rfl,r,r2⟩:=rr.two
  cases r with
  | d r =>
   cases r
   cases r2 with
   | d r2 =>
    cases r2
    obtain ⟨u,u2,rfl,eu,eu2⟩:=vals2 r1
    obtain ⟨t,rfl⟩:=eu
    obtain ⟨t2,rfl⟩:=eu2
    refine call_range_2 (Qa ?_)
    refine UL (s:={ s1 with heap:=s1.heap.push { cls:=.type "range",data:=.fields #[.int i t,.int j t2,.int 1 s1.toks] },toks:=s1.toks+1 }) (I1.ok.hd (O.calm hu)) (T4 ..) (small_one (by lia) (by lia) (by lia) (by lia)) (n:=(j - i).toNat) (by rw[Vp];split<;>lia) (by lia) fun h2 tk acc c' hk hS hacc=>?_
    have nn:ds=((PF (j - i).toNat).map fun (k:Nat)=>i+(k:Int)).map BT.D.int:=by rw[← ed,Qs];rfl
    have hk':∀ b u,s1.heap.get? b=some u->h2.get? b=some u:=fun b u q=>hk b u (OZ _ q)
    have hle:s1.heap.objs.size<=(s1.heap.push { cls:=.type "range",data:=.fields #[.int i t,.int j t2,.int 1 s1.toks] }).objs.size:=by rw[QG];exact P9 _
    have hv:ao (((PF (j - i).toNat).map fun (k:Nat)=>i+(k:Int)).map V.int) acc.toList:=by
     refine kE (by simp[hacc.1]) fun q x u e1 e2=>?_
     obtain ⟨t',rfl⟩:=hacc.2 q u (by simpa using e2)
     have:x=.int (i+(q:Int)):=by
      rw[Qs,PR] at e1
      rcases Pz q (j - i).toNat with z | z
      ·rw[Rf z] at e1
       exact (O5 e1).symm
      ·rw[Pa (by simpa using z)] at e1;cases e1
     subst this
     exact ⟨t',by simp⟩
    have sl:sizeLine=16777216:=QM
    refine ⟨.ref _,_,I1.laid (h':=h2) (t':=tk) (o:=.lst (((PF (j - i).toNat).map fun (k:Nat)=>i+(k:Int)).map V.int)) hk' hle ⟨by rw[Pr,Pr,TN];lia,acc.toList,c',hv,by simpa using hS⟩,rfl,?_⟩
    refine fS (mu:=mu) R (I1.hok.fresh hle) (jd _) ?_
    rw[← nn,ez]
    exact post
end
section
variable {F:FT}{G:Str->Option BT.W}
theorem RRs.three {K:OX}{m:List O9}{H:Hp}{vs:List V}{d e f:BT.D} (r:RRs K m H vs [d,e,f]):∃ v u x,vs=[v,u,x]/\RR K m H v d/\RR K m H u e/\RR K m H x f:=by
 cases r with
 | cons r t=>obtain ⟨u,x,rfl,q,q2⟩:=t.two;exact ⟨_,u,x,rfl,r,q,q2⟩
theorem wo {X:Cx}{sc:Qc}{N:List Str} (O:Ok X F G sc N) (hu:bB N=true) {ex ey ez:O3}{sa:BT.Es}{np zp p pos:Pos} (hg:av sc "list"=true) (hg2:av sc "range"=true) (hs:noStar ex=true) (hs2:noStar ey=true) (hs3:noStar ez=true) (hA:PA X [ex,ey,ez] (tDs X F G sa)) :
 PE X (.Call (.Name "list" np) [.Call (.Name "range" zp) [ex,ey,ez] [] pos] [] p) (tD X F G (.bi .lrng3 false sa)):=by
 intro pins s σ H Q I q
 have q:=jg q
 refine U8 (bR (u:=.type "list") I (aE O hg) (O.blt _ (by decide)) (by decide +kernel) (Pj ?_ (af rfl) rfl))
 rw[af (show noStar (.Call (.Name "range" zp) [ex,ey,ez] [] pos)=true from rfl)]
 show wpAny _ _ (RG ((false,eval (.Call (.Name "range" zp) [ex,ey,ez] [] pos) X.env) :: Qx p (Pu [] X.env))) _ _ s
 refine PU (U8 (bR (u:=.type "range") I (aE O hg2) (O.blt _ (by decide)) (by decide +kernel) (Pj (thn (hA pos pins s σ H _ I q) fun us s1 ⟨vs,H1,I1,r1,q1⟩=>?_) (af hs) (aC (by simp[ak,hs2,hs3])))))
 obtain ⟨m,h,ws,z,h',R,rws,e,post⟩:=q1
 obtain ⟨ds,d,e1,e2,⟨_,rfl,rfl⟩ | ⟨_,q,_⟩⟩:=fU e
 rotate_left
 ·cases q
 have rr:=cT R rws e1
 have hd:∃ a b c:Int,ds=[.int a,.int b,.int c]:=by
  match ds,e2 with
  | [.int a,.int b,.int c],_=>exact ⟨a,b,c,rfl⟩
 obtain ⟨a,b,c,rfl⟩:=hd
 rw[BT.mY] at e2
 split at e2
 case isFalse=>cases e2
 rename_i cc
 simp only[OY,decide_eq_true_eq] at cc
 cases e2
 obtain ⟨v,v2,v3,rfl,r,r2,r3⟩:=rr.three
 cases r.int;cases r2.int;cases r3.int
 obtain ⟨u,u2,u3,rfl,eu,eu2,eu3⟩:∃ u u2 u3,us=[u,u2,u3]/\RelV (.int a) u/\RelV (.int b) u2/\RelV (.int c) u3:=by
  cases r1 with
  | cons q t=>obtain ⟨u2,u3,rfl,k1,k2⟩:=vals2 t;exact ⟨_,_,_,rfl,q,k1,k2⟩
 obtain ⟨t,rfl⟩:=eu
 obtain ⟨t2,rfl⟩:=eu2
 obtain ⟨t3,rfl⟩:=eu3
 have rs:RO a b c=((BT.gx a b c:Nat):Int):=by
  unfold BT.gx RO
  rw[if_pos (by lia)]
  split
  ·have:0<=(b - a - 1) / c:=Int.ediv_nonneg (by lia) (by lia)
   lia
  ·rfl
 have rb:BT.gx a b c<=200000:=by
  unfold BT.gx
  split
  ·have:(b - a - 1) / c<=b - a - 1:=Int.ediv_le_self _ (by lia)
   lia
  ·lia
 refine call_range_3 (by lia) (Qa ?_) (.inl ?_)
 ·refine UL (s:={ s1 with heap:=s1.heap.push { cls:=.type "range",data:=.fields #[.int a t,.int b t2,.int c t3] } }) (I1.ok.hd (O.calm hu)) (T4 ..) ?_ rs (by lia) fun h2 tk acc c' hk hS hacc=>?_
  ·unfold Builtin.Range.small
   rw[rs,if_pos (by lia)]
   unfold Builtin.Range.rangeFitsLong
   simp only[OY,QL,decide_eq_true_eq]
   refine ⟨⟨⟨⟨?_,?_⟩,?_⟩,?_⟩,.inr ?_⟩<;>constructor<;>lia
  have hk':∀ b u,s1.heap.get? b=some u->h2.get? b=some u:=fun b u q=>hk b u (OZ _ q)
  have hle:s1.heap.objs.size<=(s1.heap.push { cls:=.type "range",data:=.fields #[.int a t,.int b t2,.int c t3] }).objs.size:=by rw[QG];exact P9 _
  have hv:ao ((BT.stepI a c (BT.gx a b c)).map V.int) acc.toList:=by
   refine kE (by simp[hacc.1,BT.stepI]) fun q x u e1 e2=>?_
   obtain ⟨t',rfl⟩:=hacc.2 q u (by simpa using e2)
   have:x=.int (a+(q:Int)*c):=by
    rw[BT.stepI,Qs,PR] at e1
    rcases Pz q (BT.gx a b c) with z | z
    ·rw[Rf z] at e1
     exact (O5 e1).symm
    ·rw[Pa (by simpa using z)] at e1;cases e1
   subst this
   exact ⟨t',rfl⟩
  have sl:sizeLine=16777216:=QM
  refine ⟨.ref _,_,I1.laid (h':=h2) (t':=tk) (o:=.lst ((BT.stepI a c (BT.gx a b c)).map V.int)) hk' hle ⟨by rw[Pr,BT.stepI,Pr,TN];lia,acc.toList,c',hv,by simpa using hS⟩,rfl,?_⟩
  exact gV R (I1.hok.fresh hle) (jd _) post
 ·have lg:c.natAbs.log2 < 30:=(Nat.log2_lt (by lia)).mpr (by lia)
  unfold Builtin.divisionGoesByPylong
  show (decide ((if (c==0)=true then 0 else c.natAbs.log2 / 30+1) > 300)&&_)=false
  rw[decide_eq_false (by split<;>lia),Bool.false_and]
theorem zB {X:Cx}{sc:Qc}{N:List Str} (O:Ok X F G sc N) (hu:bB N=true) {ex de:O3}{a d:BT.E}{np p kp:Pos} (hg:av sc "max"=true) (hs:noStar ex=true) (ha:PE X ex (tD X F G a)) (hd:PE X de (tD X F G d)) :
 PE X (.Call (.Name "max" np) [ex] [⟨some "default",de,kp⟩] p) (tD X F G (.bi .maxd false (.cons a (.cons d .nil)))):=by
 intro pins s σ H Q I q
 refine Qh (bR (u:=.builtin "max") I (aE O hg) (O.blt _ (by decide +kernel)) (by decide +kernel) (callWith_kw ?_ (by rw[af hs];rfl) (by rw[af hs];rfl) rfl rfl) (by decide) (by decide))
 obtain ⟨m,s',h,z,h',R,S,ee,post⟩:=q
 simp only[BT.ev,BT.evs] at ee
 obtain ⟨ws,g1,e1,e2⟩:=ai ee
 obtain ⟨x,g2,e3,e4⟩:=ai e1
 simp only[BT.jR] at e4
 obtain ⟨w1,g3,e5,e6⟩:=ai e4
 obtain ⟨y,g4,e7,e8⟩:=ai e5
 have e8:some ([y],g4)=some (w1,g3):=e8
 cases e8
 have e6:some ([x,y],g3)=some (ws,g1):=e6
 cases e6
 rw[af hs]
 show wpAny _ _ (RG ((false,eval ex X.env) :: Qx p (Pu [] X.env))) _ _ s
 refine PU (thn (ha pins s σ H (fun v H1=>∃ m1,Ext m H m1 H1/\RH X.K m1 H1 g2/\RW X.prog X.w X.K m1 H1 v x) I ⟨m,s',h,x,g2,R,S,e3,fun v H1 m1 x1 R1 r1=>⟨m1,x1,R1,r1⟩⟩) fun u s1 ⟨v,H1,I1,rv,m1,x1,R1,r1⟩=>Qa ?_)
 refine evalAll_cons (O0 (thn (hd pins s1 σ H1 (fun v2 H2=>∃ m2,Ext m1 H1 m2 H2/\RH X.K m2 H2 g1/\RW X.prog X.w X.K m2 H2 v2 y) I1 ⟨m1,s',g2,y,g1,R1,S.ext x1,e7,fun v2 H2 m2 x2 R2 r2=>⟨m2,x2,R2,r2⟩⟩) fun u2 s2 zq=>?_))
 obtain ⟨v2,H2,I2,rv2,m2,x2,R2,r2⟩:=zq
 refine O0 (Ub (wpAny_pure (evalAll_nil ?_)))
 show wpAny _ _ (call (.builtin "max") [u] [(Pe "default",u2)]) _ _ s2
 have rws:RWs X.prog X.w X.K m2 H2 [v,v2] [x,y]:=.cons (r1.ext x2) (.cons r2 .nil)
 obtain ⟨ds,dd,k1,k2,⟨_,rfl,rfl⟩ | ⟨_,q,_⟩⟩:=fU e2
 rotate_left
 ·cases q
 have rr:=cT R2 rws k1
 have hdd:∃ xs i,ds=[.lst xs,.int i]:=by
  match ds,k2 with
  | [.lst xs,.int i],_=>exact ⟨xs,i,rfl⟩
 obtain ⟨xs,i,rfl⟩:=hdd
 rw[BT.pZ] at k2
 obtain ⟨ns,q1,q2⟩:=az k2
 subst q2
 have post:Post X.prog X.w X.K m2 H2 _ _ Q:=fun v5 H5 m5 x5 R5 r5=>post v5 H5 m5 ((x1.trans x2).trans x5) R5 r5
 obtain ⟨v0,v1,ev,rr1,rr2⟩:=rr.two
 cases ev
 obtain ⟨a0,vt,rfl,hl,ra⟩:=rr1.lst
 rw[lu q1] at ra
 have ev:=gI ra
 subst ev
 cases rr2.int
 obtain ⟨t2,rfl⟩:=rv2
 cases rv
 obtain ⟨its,rvs,pl,hz⟩:=I2.list hl.sq
 have hi:=intsAre_of rvs
 obtain ⟨ys,ey⟩:=hi.allInts.items
 have hns:ns=ys.toList.map (·.1):=by
  rw[← hi.numsOf,← nums_intItems,← ey]
 have pl:=pl.isList
 rw[ey] at pl
 refine BX.v7 (I2.ok.hd (O.calm hu)) pl (fun hp v h' tk hv hk=>?_) fun hp h' tk hk=>?_
 ·obtain ⟨t,rfl⟩:=intItems_at hv
  obtain ⟨h1,h2⟩:=argBest_gt (numAt ys) (ys.size - 1)
  have:BT.nU ns=some (numAt ys (TV (fun i j=>decide (numAt ys i > numAt ys j)) (ys.size - 1))):=by
   cases gm:BT.nU ns with
   | none =>
    have:ns=[]:=by
     cases ns with
     | nil=>rfl
     | cons _ _=>cases gm
    rw[this] at hns
    have:=congrArg RT hns
    rw[Pr,Qu] at this
    simp at this;lia
   | some M =>
    obtain ⟨s1,s2⟩:=BT.mZ gm
    refine congrArg some (Int.le_antisymm ?_ (s2 _ ?_))
    ·rw[hns] at s1
     obtain ⟨j,hj,rfl⟩:=mem_getD s1
     rw[Pr,Qu] at hj
     rw[← numAt_eq];exact h2 j (by lia)
    ·rw[hns,numAt_eq];exact getD_mem (by rw[Pr,Qu];lia)
  refine ⟨.int _,H2,I2.kept hk,⟨t,rfl⟩,?_⟩
  rw[this] at post
  exact post.here R2 (.int _)
 ·have:ns=[]:=by
   rw[hns]
   exact RC (by rw[Pr,Qu];exact hp)
  rw[this] at post
  exact ⟨.int _,H2,I2.kept hk,⟨t2,rfl⟩,post.here R2 (.int _)⟩
end
end BS
end
section
namespace BX
open PySem PyProof.Rows
section
variable {prog:Pv}{w:P0}{A:QV}{E:Value->O4->Prop}{s:O4}{R:Result->O4->Prop}
end
section
variable {E:Value->O4->Prop}
end
end BX
namespace BS
open PySem PySem.Spec PyProof.Rows L2
section
end
end BS
end
section
namespace BS
open PySem PySem.Spec PyProof.Rows L2
section
end
noncomputable def j9 (sc:Qc) (x:Str):Bool:=match sc.names.lookup x with
 | some .local=>true
 | some .cell=>true
 | _=>false
inductive CT (sc:Qc) (N:List Str):List (Nat×Str)->O3->Prop where
 | one {i:Nat}{x:Str}{p:Pos} (h1:N[i]?=some x) (h2:j9 sc x=true):CT sc N [(i,x)] (.Name x p)
 | two {i j:Nat}{x y:Str}{p p1 p2:Pos}{k:Nat} (h1:N[i]?=some x) (h2:j9 sc x=true) (h3:N[j]?=some y) (h4:j9 sc y=true):CT sc N [(i,x),(j,y)] (.Tuple [.Name x p1,.Name y p2] k p)
section
theorem RS.set {K:OX} (S:RS P w K m H σ s) (r:RW P w K m H v z):RS P w K m H (σ.set i (some v)) (s.set i (some z)):=by
 refine ⟨by simp[S.len],fun j y e=>?_⟩
 by_cases c:i=j
 ·subst c
  have hl:i < s.length:=by
   rcases Pz i s.length with q | q
   ·exact q
   ·rw[Pa (by simpa using q)] at e;cases e
  rw[P7 hl] at e
  cases e
  exact ⟨v,by rw[P7 (by rw[S.len];exact hl)],r⟩
 ·rw[PX c] at e
  obtain ⟨u,h1,h2⟩:=S.get j y e
  exact ⟨u,by rw[PX c];exact h1,h2⟩
theorem iQ (O:Ok X F G sc N) (h:j9 sc x=true):L2.Loc X.env.scope x:=by
 rw[O.hsc]
 unfold j9 at h
 unfold L2.Loc
 cases e:sc.names.lookup x with
 | none=>rw[e] at h;cases h
 | some k=>rw[e] at h;cases k<;>first | (exact .inl rfl) | (exact .inr rfl) | cases h
theorem uE (h:iL e=true):∀ x,foldedSetIterable e env x=pure x:=by
 intro x
 cases e<;>first | rfl | cases h
noncomputable def GOk (X:Cx) (tg:List (Nat×Str)) (g:TG):Prop:=∀ (m:List O9) (H:Hp) (σ:L2.St) (s:BT.Sl) (x:V) (d:BT.D) (ds:List BT.D) (Q:L2.St->Hp->Prop),RS X.prog X.w X.K m H σ s->RD X.K m H x d->BT.target tg.length d=some ds →
 (∀ σ',RS X.prog X.w X.K m H σ' (BT.sets tg ds s)->Q σ' H)->g x σ H Q
theorem sCT (O:Ok X F G sc N) (hc:X.calm=true) (h:CT sc N tg te) (hf:∀ q∈tg,X.fn q.2=true\/X.env.scope.names.lookup q.2=some .local):∃ g,PG X te g/\GOk X tg g:=by
 cases h with
 | @one i x p h1 h2 =>
  refine ⟨_,nJ (i:=i) O.nd (by rw[O.hN];exact h1) (iQ O h2) (hf (i,x) (by simp)),?_⟩
  intro m H σ s v d ds Q S r e q
  simp only[Po,Qe,U6,BT.gA] at e
  cases e
  exact q _ (S.set (.p r))
 | @two i j x y p p1 p2 k h1 h2 h3 h4 =>
  refine ⟨_,ES (n:=2) hc (pK (nJ (i:=i) O.nd (by rw[O.hN];exact h1) (iQ O h2) (hf (i,x) (by simp))) (pK (nJ (i:=j) O.nd (by rw[O.hN];exact h3) (iQ O h4) (hf (j,y) (by simp))) Bd)),?_⟩
  intro m H σ s v d ds Q S r e q
  have e:BT.unpack 2 d=some ds:=e
  cases r with
  | @tup a vs dd h r =>
   rw[BT.yc] at e
   split at e
   ·rename_i c
    cases e
    have hl:=r.length
    refine ⟨a,vs,rfl,h.elim (fun q=>.inl q.1) fun ⟨o,its,n,q,_⟩=>.inr ⟨o,its,n,q⟩,by rw[hl];exact c,?_⟩
    cases r with
    | nil=>simp at c
    | @cons v1 d1 vs' ds' ra t =>
     cases t with
     | nil=>simp at c
     | @cons v2 d2 vs2 ds2 rb t2 =>
      cases t2 with
      | cons _ _=>simp at c
      | nil =>
       refine ⟨v1,[v2],rfl,?_⟩
       show D3 (pJ j) ER [v2] (σ.set i (some v1)) H Q
       refine ⟨v2,[],rfl,?_⟩
       show ER [] ((σ.set i (some v1)).set j (some v2)) H Q
       refine ⟨rfl,q _ ?_⟩
       show RS X.prog X.w X.K m H ((σ.set i (some v1)).set j (some v2)) ((s.set i (some (.p d1))).set j (some (.p d2)))
       exact RS.set (RS.set S (.p ra)) (.p rb)
   ·cases e
  | _=>cases e
end
end BS
end
section
namespace BC
open PySem
section
theorem wu {target:O3} (I:Nat->O4->Prop)
 (turn:∀ n s,I n s->wpAny (Pp prog w) A (pyNext it) (fun r s₁=>match r with
  | none=>R (.ok .next) s₁
  | some v=>wpAny (Pp prog w) A (S9 target it v) (fun _ s₀=>wpAny (Pp prog w) A (UM target env v) (fun _ s₂ =>
   wpAny (Pp prog w) A (forIn ifs true fun c r=>if r=true then do let ok ← isTrue c env (eval c env);pure (Sq ok) else pure (Sq r)) (fun ok s₃ =>
    if ok=true then wpAny (Pp prog w) A (eval elt env) (fun x s₄ =>
     wpAny (Pp prog w) A (call (.builtin "list.append") [acc,x]) (fun _ s₅=>∃ m,m < n/\I m s₅) (fun _ _=>False) s₄) (fun _ _=>False) s₃
    else ∃ m,m < n/\I m s₃) (fun _ _=>False) s₂) (fun _ _=>False) s₀) (fun _ _=>False) s₁) (fun _ _=>False) s)
 (n:Nat) (h:I n s):codeAny (Pp prog w) A (.compLoop (.ListComp elt [⟨target,iter,ifs,0⟩] scope pos) 0 it acc env) R s:=by
 refine codeAny_loop rfl I (fun n s hI=>?_) n h
 show wpAny _ A ((compTurn (.ListComp elt [⟨target,iter,ifs,0⟩] scope pos) 0 it acc env).onRaise (fun x=>do noteFrame x env;theTreesLotGoes x)) _ _ s
 refine wpAny_noted ?_
 rw[compTurn_list]
 refine O0 (Ub (O0 (wpAny_mono (turn n s hI) (fun r s₁ h₁=>?_) fun _ _ h'=>h'.elim)))
 cases r with
 | none=>exact wpAny_pure h₁
 | some v =>
  refine O0 (wpAny_mono h₁ (fun _ s₀ h₀'=>?_) fun _ _ h'=>h'.elim)
  refine O0 (wpAny_mono h₀' (fun _ s₂ h₂=>O0 (wpAny_mono h₂ (fun ok s₃ h₃=>?_) fun _ _ h'=>h'.elim)) fun _ _ h'=>h'.elim)
  cases ok with
  | false=>exact wpAny_pure ⟨rfl,h₃⟩
  | true =>
   exact O0 (O0 (wpAny_mono h₃ (fun x s₄ h₄=>O0 (wpAny_mono h₄ (fun _ s₅ h₅=>wpAny_pure (wpAny_pure ⟨rfl,h₅⟩)) fun _ _ h'=>h'.elim)) fun _ _ h'=>h'.elim))
end
noncomputable def cy (cells:List (Str×O9)):List (Str×Rj)->List (Str×O9)->List (Str×O9)
 | [],acc=>acc
 | (n,k) :: r,acc=>if k==.free then (match cells.lookup n with | some c=>cy cells r ((n,c) :: acc) | none=>cy cells r acc) else cy cells r acc
noncomputable def sD (cells:List (Str×O9)) (names:List (Str×Rj)):Prop:=∀ x∈names,x.2=.free->∃ c,cells.lookup x.1=some c
theorem lE:∀ (names:List (Str×Rj)) (acc:List (Str×O9)),sD env.cells names →
 (forIn names acc fun x (r:List (Str×O9))=>(if x.2==.free then do let c ← cellOf env x.1;pure (Sq ((x.1,c) :: r)) else pure (Sq r):Sem (ForInStep (List (Str×O9)))))=pure (cy env.cells names acc)
 | [],acc,_=>rfl
 | (n,k) :: r,acc,h=>by
  have ih:=fun acc=>lE (env:=env) r acc fun x hx=>h x (Pc _ hx)
  rw[List.forIn_cons]
  by_cases c:k=.free
  ·subst c
   obtain ⟨a,e⟩:=h (n,.free) Pq rfl
   have e:env.cells.lookup n=some a:=e
   simp only[cy,e]
   show (cellOf env n >>= _) >>= _=_
   unfold cellOf
   rw[e]
   exact ih _
  ·have cb:(k==P6)=false:=by simpa using c
   simp only[cy,cb]
   exact ih _
theorem jI {α β:Type}{m m':Sem α}{f:α->Sem β} (h:m=m'):(m >>= f)=(m' >>= f):=by rw[h]
theorem lF {scope:Qc}{env:Env} (h:sD env.cells scope.names):closureFor scope env=pure (cy env.cells scope.names []):=by
 have:=lE (env:=env) scope.names [] h
 unfold closureFor
 exact (jI this).trans rfl
theorem lG:∀ {names:List (Str×Rj)}{acc:List (Str×O9)},(∀ x c,acc.lookup x=some c->cells.lookup x=some c)->∀ x c,(cy cells names acc).lookup x=some c->cells.lookup x=some c
 | [],acc,h,x,c,e=>h x c e
 | (n,k) :: r,acc,h,x,c,e=>by
  rw[cy] at e
  split at e
  ·split at e
   ·rename_i a ea
    refine lG (fun y b q=>?_) x c e
    rw[Qg] at q
    split at q
    ·rename_i hy
     have:y=n:=by simpa using hy
     subst this
     cases q;exact ea
    ·exact h y b q
   ·exact lG h x c e
  ·exact lG h x c e
theorem kF:∀ {names:List (Str×Rj)}{acc:List (Str×O9)},(∃ c,acc.lookup x=some c)->∃ c,(cy cells names acc).lookup x=some c
 | [],acc,h=>h
 | (n,k) :: r,acc,h=>by
  rw[cy]
  split
  ·split
   ·refine kF ?_
    rw[Qg]
    split
    ·exact ⟨_,rfl⟩
    ·exact h
   ·exact kF h
  ·exact kF h
theorem lH:∀ {names:List (Str×Rj)}{acc:List (Str×O9)},(x,P6)∈names->(∃ c,cells.lookup x=some c)->∃ c,(cy cells names acc).lookup x=some c
 | [],acc,h,_=>nomatch h
 | (n,k) :: r,acc,h,q=>by
  rw[cy]
  rcases List.mem_cons.mp h with e | e
  ·cases e
   obtain ⟨c,ec⟩:=q
   rw[if_pos (by rfl),ec]
   refine kF ?_
   exact ⟨c,by simp⟩
  ·split
   ·split
    ·exact lH e q
    ·exact lH e q
   ·exact lH e q
end BC
end
section
namespace BS
open PySem PySem.Spec PyProof.Rows L2
noncomputable def lI (F:FT) (G:Str->Option BT.W) (sc:Qc) (N:List Str) (cond:BT.Es) (ifs:List O3):Prop :=
 (cond=.nil/\ifs=[])\/∃ c c',cond=.cons c .nil/\ifs=[c']/\∀ X',Ok X' F G sc N->PT X' c' (tDT X' F G c)
structure qp (sc:Qc) (N tg:List Str) (fv:List (Nat×Str)) (scope:Qc):Prop where
 k1:scope.kind=.function
 k2:sc.kind=.function
 cell:∀ y∈scope.names,y.2≠.cell
 loc:∀ y∈scope.names,y.2=.local->scope.names.lookup y.1=some .local
 free:∀ y∈scope.names,y.2=.free->sc.names.lookup y.1=some .cell
 fvs:∀ q∈fv,N[q.1]?=some q.2/\(q.2,P6)∈scope.names/\sc.names.lookup q.2=some .cell/\(aW scope sc).names.lookup q.2=some .cell
 nd:(tg++fv.map (·.2)).Nodup
theorem nj:∀ {l:List Str},iM l=true->l.Nodup
 | [],_=>Ux
 | x :: r,h=>by
  simp only[iM,OY,Q6] at h
  refine List.nodup_cons.mpr ⟨fun z=>?_,nj h.2⟩
  have:=h.1
  simp[z] at this
theorem Kr (h:iN sc N tg fv scope=true):qp sc N tg fv scope:=by
 simp only[iN,OY] at h
 obtain ⟨⟨⟨⟨⟨⟨h1,h2⟩,h3⟩,h4⟩,h5⟩,h6⟩,h7⟩:=h
 rw[Qz] at h3 h4 h5 h6
 refine ⟨eq_of_beq h1,eq_of_beq h2,fun y hy e=>?_,fun y hy e=>?_,fun y hy e=>?_,fun q hq=>?_,nj h7⟩
 ·have:=h3 y hy
  rw[e] at this;simp at this
 ·have:=h4 y hy
  rw[e] at this;simpa using this
 ·have:=h5 y hy
  rw[e] at this;simpa using this
 ·have:=h6 q hq
  simp only[OY] at this
  obtain ⟨⟨⟨a,b⟩,c⟩,d⟩:=this
  exact ⟨by simpa using a,by simpa using b,by simpa using c,by simpa using d⟩
theorem iR {sc:Qc}{x:Str}{k:Rj} (hk:k=.cell\/k=.free):∀ {names:List (Str×Rj)},(∀ y∈names,y.2≠.cell) →
 (names.map fun (n,k)=>if (k==P6&&sc.kind==.function&&sc.names.lookup n==some .cell) then (n,SO) else (n,k)).lookup x=some k->(x,P6)∈names
 | [],_,h=>by simp at h
 | (n,q) :: r,hc,h=>by
  have ih:=iR (sc:=sc) (x:=x) hk (names:=r) fun y hy=>hc y (Pc _ hy)
  replace h:Re x ((if (q==P6&&sc.kind==.function&&sc.names.lookup n==some .cell)=true then (n,SO) else (n,q)) :: (r.map fun (n,k)=>if (k==P6&&sc.kind==.function&&sc.names.lookup n==some .cell) then (n,SO) else (n,k)))=some k:=h
  have go:∀ (q':Rj),(q'=q\/(q'=.cell/\q=.free))->Re x ((n,q') :: (r.map fun (n,k)=>if (k==P6&&sc.kind==.function&&sc.names.lookup n==some .cell) then (n,SO) else (n,k)))=some k->(x,P6)∈(n,q) :: r:=by
   intro q' hq gl
   rw[Qg] at gl
   split at gl
   ·rename_i hx
    have hx:x=n:=by simpa using hx
    subst hx
    have e:q'=k:=O5 gl
    have hqf:q=.free:=by
     rcases hq with rfl | ⟨_,e2⟩
     ·rcases hk with z | z
      ·exact absurd (e.trans z) (hc (x,q') Pq)
      ·exact e.trans z
     ·exact e2
    rw[hqf];exact Pq
   ·exact Pc _ (ih gl)
  by_cases c:(q==P6&&sc.kind==.function&&sc.names.lookup n==some .cell)=true
  ·rw[if_pos c] at h
   refine go .cell (.inr ⟨rfl,?_⟩) h
   simp only[OY] at c
   exact eq_of_beq c.1.1
  ·rw[if_neg c] at h
   exact go q (.inl rfl) h
noncomputable def blk (X:Cx) (N':List Str) (s2:O4) (H1:Hp) (scope:Qc) (C:O9) (fp:List O9):Cx :=
 { X with N:=N',s₀:=s2,H₀:=H1,env:=Vt scope (BC.cy X.env.cells scope.names []) C X.env,outer:=X.stack,stack:=X.stack,ex:=fp,fn:=fun _=>false,pn:=[],xe:=fun _ _=>False }
section
variable {X:Cx}{F:FT}{G:Str->Option BT.W}{sc:Qc}{N:List Str}{pins:List (O9×Obj)}{σ:L2.St}{H1:Hp}{s2:O4}
theorem jV {scope:Qc}{x:Str}{c:O9} (e:(BC.cy X.env.cells scope.names []).lookup x=some c):X.env.cells.lookup x=some c :=
 BC.lG (fun _ _ z=>by simp at z) x c e
theorem qt (hsc:X.env.scope=sc) (x:Str):(Vt scope (BC.cy X.env.cells scope.names []) C X.env).kindOf x=(aW scope sc).names.lookup x:=by
 subst hsc;rfl
theorem uF (I1:Inv X pins σ H1 s2) (hsc:X.env.scope=sc) (cf:qp sc N tg fv scope) (hx:(x,P6)∈scope.names):∃ c,(BC.cy X.env.cells scope.names []).lookup x=some c:=by
 refine BC.lH hx (I1.ok.has x (.inl ?_))
 have:=cf.free _ hx rfl
 rw[← hsc] at this
 exact this
theorem GD (I1:Inv X pins σ H1 s2) (hsc:X.env.scope=sc) {scope:Qc}{tg:List Str}{fv:List (Nat×Str)} (cf:qp sc N tg fv scope) {N':List Str}{C:O9}{fp:List O9} (hC:C=s2.heap.objs.size+1)
 (hf:∀ b∈fp,mh X pins H1 b) (hlt:∀ b∈fp,b < s2.heap.objs.size):(blk X N' s2 H1 scope C fp).Ok where
 mod:=I1.ok.mod
 kind:=cf.k1
 glob:=I1.ok.glob
 blt:=I1.ok.blt
 above:=by show s2.heap.objs.size<=C;rw[hC];exact P9 _
 inj:=fun x y c a b=>I1.ok.inj x y c (jV a) (jV b)
 has:=fun x hx=>by
  refine uF I1 hsc cf ?_
  have hx':(aW scope sc).names.lookup x=some .cell\/(aW scope sc).names.lookup x=some .free:=by
   rw[← qt hsc (C:=C)];exact hx
  rcases hx' with e | e
  ·exact iR (.inl rfl) cf.cell e
  ·exact iR (.inr rfl) cf.cell e
 cab:=fun x c z=>by cases z
 hd:=I1.ok.hd
 frames:=I1.ok.frames
 stk:=.inl rfl
 exf:=fun b hb=>⟨fun z=>by
  have l:=hlt b hb
  have z:b=C:=z
  rw[z,hC] at l
  exact absurd l (Nat.not_lt.mpr (P9 _)),fun x c e=>(hf b hb).2.2.2.2.1 x c (jV e)⟩
 bs:=I1.bs
 bsz:=PD I1.ok.bsz I1.sz
 noex:=fun b o e hb=>by
  have q:=(I1.ok.bs b o e).1
  rcases (hf b hb).2.2.2.1 with z | z
  ·exact I1.ok.noex b o e z
  ·exact absurd (O7 q) (Nat.not_lt.mpr z)
 exfs:=fun b hb z=>by
  rcases List.mem_cons.mp (I1.iG b z) with e | e
  ·exact (hf b hb).2.1 e
  ·exact (hf b hb).2.2.1 e
 fL:=I1.stack
 frf:=I1.kq
end
noncomputable def lobj (us:List Value) (n:Nat):Obj:={ cls:=.type "list",data:=.seq us.toArray n }
section
variable {X:Cx}{F:FT}{G:Str->Option BT.W}{sc:Qc}{N:List Str}{pins:List (O9×Obj)}{σ:L2.St}{H1:Hp}{s2:O4}
noncomputable def iS (n:Nat) (σ:L2.St) (fv:List (Nat×Str)):L2.St:=Pi n none++fv.map fun q=>(σ[q.1]?).getD none
theorem CG (I1:Inv X pins σ H1 s2) (hsc:X.env.scope=sc) (hN:X.N=N) (cf:qp sc N tg fv scope) (hC:C=s2.heap.objs.size+1)
 (hf:∀ b∈fp,mh X pins H1 b) (hlt:∀ b∈fp,b < s2.heap.objs.size) (old:∀ b o,s2.heap.get? b=some o->h1.get? b=some o) (hns:h1.Ns C m) (hD:h1.get? s2.heap.objs.size=some (lobj [] 0)) :
 Inv (blk X (tg++fv.map (·.2)) s2 H1 scope C fp) [(s2.heap.objs.size,lobj [] 0)] (iS tg.length σ fv) H1 { s2 with heap:=h1,toks:=tk } where
 ok:=GD I1 hsc cf hC hf hlt
 os:=rfl
 bare:=I1.bare
 base:=Un.kept old
 loc:=by
  refine ⟨m,hns,fun i x v e1 e2 e3=>?_⟩
  have e1:(tg++fv.map (·.2))[i]?=some x:=e1
  unfold iS at e2
  by_cases c:i < tg.length
  ·rw[O6 (by simpa using c),QS,if_pos c] at e2
   cases e2
  ·rw[Py (by simpa using c)] at e2
   rw[Py (by simpa using c)] at e1
   simp only[Rv,PR] at e1 e2
   cases g:fv[i - tg.length]? with
   | none=>rw[g] at e1;cases e1
   | some q =>
    rw[g] at e1 e2
    simp only[SA,RN] at e1 e2
    subst e1
    obtain ⟨f1,f2,f3,f4⟩:=cf.fvs q (Pb g)
    have e2':σ[q.1]?=some (some v):=by
     cases gg:σ[q.1]? with
     | none=>rw[gg] at e2;cases e2
     | some o=>rw[gg] at e2;simp only[Vy] at e2;rw[e2]
    obtain ⟨m0,hn0,hl0⟩:=I1.loc
    obtain ⟨u,ru,lk⟩:=hl0 q.1 q.2 v (by rw[hN];exact f1) e2' (by rw[hsc];exact .inr (.inl f3))
    refine ⟨u,ru,?_⟩
    have kc:X.env.kindOf q.2=some .cell:=by
     show X.env.scope.names.lookup q.2=_
     rw[hsc];exact f3
    rcases lk with ⟨k,_⟩ | ⟨k,c,ec,o,ho,hd⟩
    ·rw[kc] at k;cases k
    ·obtain ⟨c',ec'⟩:=uF I1 hsc cf f2
     have:=jV ec'
     rw[ec] at this
     cases this
     refine .inr ⟨.inl ?_,c,ec',o,old c o ho,hd⟩
     show (Vt scope (BC.cy X.env.cells scope.names []) C X.env).kindOf q.2=_
     rw[qt hsc];exact f4
 cell:=fun x c e=>by
  obtain ⟨v,o,ho,hd⟩:=I1.cell x c (jV e)
  exact ⟨v,o,old c o ho,hd⟩
 free:=I1.hok.fresh (by show s2.heap.objs.size<=C;rw[hC];exact P9 _)
 freeC:=fun x c e=>I1.freeC x c (jV e)
 pin:=fun p hp=>by
  have e:p=(s2.heap.objs.size,lobj [] 0):=by
   have:p∈[]++[(s2.heap.objs.size,lobj [] 0)]:=hp
   simpa using this
  subst e
  refine ⟨hD,I1.hok.fresh (O8 _),?_,?_,fun v z=>by cases (show Data.seq _ _=Data.cell v from z)⟩
  ·show s2.heap.objs.size≠C
   rw[hC];exact PL (Rc _)
  ·intro z
   obtain ⟨_,o,ho,_⟩:=I1.stack.mem z
   exact absurd (O7 ho) (PZ _)
 hok:=I1.hok.kept old
 len:=by
  show (iS tg.length σ fv).length=(tg++fv.map (·.2)).length
  simp[iS]
end
noncomputable def tgI:List Str->List (Nat×Str)
 | [x]=>[(0,x)]
 | [x,y]=>[(0,x),(1,y)]
 | _=>[]
theorem oJ (h:nmE te=some x):∃ p,te=.Name x p:=by
 cases te with
 | Name y p=>cases h;exact ⟨p,rfl⟩
 | _=>exact absurd (show (none:Option Str)=some _ from h) (fun z=>nomatch z)
theorem zC (h:FQ te=a :: l):∃ k p,te=.Tuple (a :: l) k p:=by
 cases te with
 | Tuple xs k p=>cases h;exact ⟨k,p,rfl⟩
 | _=>exact absurd (show ([]:List O3)=_ :: _ from h) (fun z=>nomatch z)
theorem CH (h:qf sc tg te=true):CT sc (tg++fs) (tgI tg) te/\(tgI tg).length=tg.length/\∀ q∈tgI tg,sc.names.lookup q.2=some .local:=by
 have st:∀ {x:Str},sc.names.lookup x=some .local->j9 sc x=true:=fun e=>by unfold j9;rw[e]
 unfold qf at h
 rw[OY,QL,OY,Qz] at h
 obtain ⟨h,ha⟩:=h
 have lo:∀ {x},x∈tg->sc.names.lookup x=some .local:=fun {x} hx=>eq_of_beq (ha x hx)
 rcases h with h | ⟨h1,h2⟩
 ·have e:=eq_of_beq h
  cases tg with
  | nil=>exact absurd (congrArg RT e) (by simp)
  | cons x r =>
   cases r with
   | cons _ _=>exact absurd (congrArg RT e) (by simp)
   | nil =>
    obtain ⟨p,rfl⟩:=oJ (Su e).symm
    have l:sc.names.lookup x=some .local:=lo Pq
    exact ⟨.one rfl (st l),rfl,fun q hq=>by simp[tgI] at hq;subst hq;exact l⟩
 ·have e:=eq_of_beq h2
  obtain ⟨x,y,rfl⟩:∃ x y,tg=[x,y]:=by
   have h1:=eq_of_beq h1
   cases tg with
   | nil=>simp at h1
   | cons x r =>
    cases r with
    | nil=>simp at h1
    | cons y r =>
     cases r with
     | nil=>exact ⟨x,y,rfl⟩
     | cons _ _=>simp at h1
  cases g:FQ te with
  | nil=>rw[g] at e;exact absurd (congrArg RT e) (by simp)
  | cons a l =>
   rw[g] at e
   cases l with
   | nil=>exact absurd (congrArg RT e) (by simp)
   | cons b r =>
    cases r with
    | cons _ _=>exact absurd (congrArg RT e) (by simp)
    | nil =>
     have e1:some x=nmE a:=Su e
     have e2:some y=nmE b:=Su (List.tail_eq_of_cons_eq e)
     obtain ⟨p1,rfl⟩:=oJ e1.symm
     obtain ⟨p2,rfl⟩:=oJ e2.symm
     obtain ⟨k,p,rfl⟩:=zC g
     have l1:sc.names.lookup x=some .local:=lo Pq
     have l2:sc.names.lookup y=some .local:=lo (Pc _ Pq)
     exact ⟨.two rfl (st l1) rfl (st l2),rfl,fun q hq=>by
      simp[tgI] at hq
      rcases hq with rfl | rfl
      ·exact l1
      ·exact l2⟩
theorem CJ (h:(tgI tg).length=tg.length) (h0:tg≠[]) (hd:BT.target tg.length d0=some ds) (hl:sl.length=tg.length+fs.length) (hr:sl.drop tg.length=fs) :
 BT.sets (tgI tg) ds sl=ds.map BT.dz++fs/\(ds.map BT.dz++fs).length=tg.length+fs.length/\(ds.map BT.dz++fs).drop tg.length=fs:=by
 match tg,h,h0 with
 | [],_,h0=>exact absurd rfl h0
 | [x],_,_ =>
  simp only[Po,Qe,U6,BT.gA] at hd hl hr
  cases hd
  match sl,hl,hr with
  | a :: r,hl,hr =>
   simp only[Vi,SS] at hr
   subst hr
   exact ⟨rfl,by simp[Nat.add_comm],rfl⟩
 | [x,y],_,_ =>
  have hd:BT.unpack 2 d0=some ds:=hd
  cases d0<;>simp only[BT.unpack] at hd<;>try contradiction
  split at hd
  ·rename_i c
   cases hd
   match ds,c with
   | [d1,d2],_ =>
    simp only[Po,Qe,U6] at hl hr
    match sl,hl,hr with
    | a :: b :: r,hl,hr =>
     simp only[Vi,SS] at hr
     subst hr
     exact ⟨rfl,by simp;lia,rfl⟩
    | [a],hl,_=>simp at hl;lia
    | [],hl,_=>simp at hl;lia
  ·cases hd
 | x :: y :: z :: r,h,_=>simp[tgI] at h
theorem jJ:∀ {fv:List (Nat×Str)}{fs:BT.Sl},BT.frees s fv=some fs->fs.length=fv.length/\∀ (i:Nat) (q:Nat×Str),fv[i]?=some q->fs[i]?=s[q.1]?
 | [],fs,e=>by simp[BT.frees] at e;subst e;exact ⟨rfl,fun i q z=>by simp at z⟩
 | q :: r,fs,e=>by
  simp only[BT.frees] at e
  cases g:s[q.1]? with
  | none=>rw[g] at e;cases e
  | some w =>
   rw[g] at e
   obtain ⟨fs',e1,e2⟩:=az e
   subst e2
   obtain ⟨h1,h2⟩:=jJ e1
   refine ⟨by simp[h1],fun i p z=>?_⟩
   cases i with
   | zero=>simp at z;subst z;simp[g]
   | succ i=>simpa using h2 i p (by simpa using z)
theorem wA {K:OX} (S:RS P w K m H σ s) (hf:BT.frees s fv=some fs):RS P w K m H (iS n σ fv) (Pi n none++fs):=by
 obtain ⟨h1,h2⟩:=jJ hf
 refine ⟨by simp[iS,h1],fun i y e=>?_⟩
 by_cases c:i < n
 ·rw[O6 (by simpa using c),QS,if_pos c] at e
  cases e
 ·rw[Py (by simpa using c)] at e
  simp only[Rv] at e
  have hi:i - n < fv.length:=by
   rw[← h1]
   rcases Pz (i - n) fs.length with z | z
   ·exact z
   ·rw[Pa z] at e;cases e
  have g:=Ph hi
  rw[h2 _ _ g] at e
  obtain ⟨v,hv,r⟩:=S.get _ _ e
  refine ⟨v,?_,r⟩
  unfold iS
  rw[Py (by simpa using c)]
  simp only[Rv,PR,g,SA,hv,Vy]
theorem CK {rest:List BT.D} (e:BT.aV f n (d :: r) h=some (rest,h2)) :
 ∃ xs o hA rest',BT.target n d=some xs/\f xs h=some (o,hA)/\BT.aV f n r hA=some (rest',h2)/\rest=(match o with | some x=>x :: rest' | none=>rest'):=by
 rw[BT.aV] at e
 cases g:BT.target n d with
 | none=>rw[g] at e;cases e
 | some xs =>
  rw[g] at e
  obtain ⟨o,hA,e1,e2⟩:=ai e
  unfold BT.BI at e2
  obtain ⟨rest',h3,e3,e4⟩:=ai e2
  unfold BT.tZ at e4
  cases e4
  exact ⟨xs,o,hA,rest',rfl,e1,e3,rfl⟩
theorem Un.behind (u:Un fs ex H H' h h1) (a:∀ b,b < h.objs.size->H2 b=H' b) (lt:∀ b o,H b=some o->b < h.objs.size) (k:∀ b o,b < h.objs.size->h1.get? b=some o->h2.get? b=some o):Un fs ex H H2 h h2 where
 keep:=fun b o e n c d=>k b o (O7 e) (u.keep b o e n c d)
 slot:=fun b o e n c d=>by obtain ⟨sl,q⟩:=u.slot b o e n c d;exact ⟨sl,k b _ (O7 e) q⟩
 free:=fun b o e n d=>by rw[a b (O7 e)];exact u.free b o e n d
 there:=fun b o e d=>by obtain ⟨o',q⟩:=u.there b o e d;exact ⟨o',k b o' (O7 e) q⟩
 tups:=fun b xs e=>by rw[a b (lt b _ e)];exact u.tups b xs e
 frzs:=fun b o w e=>by rw[a b (lt b _ e)];exact u.frzs b o w e
 tbls:=fun b ps e=>by rw[a b (lt b _ e)];exact u.tbls b ps e
section
theorem GE (O:Ok X F G sc N) (hu:bB N=true) (cf:qp sc N tg fv scope) :
 Ok (blk X (tg++fv.map (·.2)) s2 H1 scope C fp) F G (aW scope sc) (tg++fv.map (·.2)) where
 hsc:=by have:=O.hsc;subst this;rfl
 hN:=rfl
 nd:=cf.nd
 calm:=fun _=>O.calm hu
 hu:=O.hu
 own:=Sn
 glob:=O.glob
 call:=O.call
 meth:=O.meth
 mkc:=O.mkc
 blt:=O.blt
 lam:=O.lam
 lamx:=fun h=>absurd (show false=true from h "") (by decide)
theorem zD (e:BT.m8 mu sr n (some fs) ec ee ws h=some z) (g:(BT.rds ws h).bind (BT.dQ sr)=some ds) :
 uC sr ws/\∃ f',(∀ xs h r,f' xs h=some r->BT.dF ec ee fs xs h=some r/\oG ws ds r.2)/\oG ws ds h/\BT.bnd (BT.aV f' n ds h) (BT.fD mu)=some z:=by
 unfold BT.m8 at e
 rw[g] at e
 simp only at e
 by_cases ca:BT.c7 ws=true
 ·rw[if_pos ca] at e
  exact ⟨.inl ca,_,fun xs h r q=>⟨q,lD ca⟩,lD ca,e⟩
 ·rw[if_neg ca] at e
  have two:sr=.seq/\∃ q,ws=[.r q]:=by
   unfold BT.rW at e
   split at e
   ·exact ⟨rfl,_,rfl⟩
   ·cases e
  obtain ⟨rfl,q,rfl⟩:=two
  rw[BT.yf] at e
  have gl:BT.lat h q=some ds:=by
   simp only[BT.rds,BT.rd,SA] at g
   cases g1:BT.lat h q with
   | none=>rw[g1] at g;cases g
   | some xs=>rw[g1] at g;cases g;rfl
  refine ⟨.inr ⟨rfl,q,rfl⟩,_,fun xs h r q=>?_,fun q' e'=>by cases e';exact gl,e⟩
  unfold BT.chk at q
  cases g2:BT.dF ec ee fs xs h with
  | none=>rw[g2] at q;cases q
  | some r2 =>
   rw[g2] at q
   simp only at q
   split at q
   ·rename_i c
    cases q
    exact ⟨rfl,fun q' e'=>by cases e';exact c⟩
   ·cases q
inductive LI (X:Cx) (F:FT) (G:Str->Option BT.W) (scope:Qc) (tg:List Str) (fv:List (Nat×Str)) (cond:BT.Es) (elt:BT.E) (s2:O4) (H1:Hp) (C:O9) (fp:List O9) (tn:Nat->Heap->Prop) (m1:List O9) (ds outs:List BT.D) (fs:BT.Sl) (h2:BT.HH) (f':List BT.D->BT.HH->Option (Option BT.D×BT.HH)) (Cc:BT.HH->Prop) (n:Nat) (s:O4):Prop where
 | mk (i:Nat) (σ':L2.St) (H':Hp) (m':List O9) (hh:BT.HH) (out rest:List BT.D) (vs:List V) (us:List Value) (nn:Nat) (sl:BT.Sl) (p0:i<=ds.length) (p1:n=ds.length - i) (p2:Inv (blk X (tg++fv.map (·.2)) s2 H1 scope C fp) [(s2.heap.objs.size,lobj us nn)] σ' H' s) (p3:tn i s.heap) (p4:(∀ b∈fp,H' b=none)) (p5:Ext m1 H1 m' H') (p6:RH X.K m' H' hh) (p7:RS X.prog X.w X.K m' H' σ' sl) (p8:sl.length=tg.length+fs.length) (p9:sl.drop tg.length=fs) (p10:ao vs us) (p11:RDs X.K m' H' vs out) (p12:BT.aV f' tg.length (ds.drop i) hh=some (rest,h2)) (p13:out++rest=outs) (p14:Cc hh):LI X F G scope tg fv cond elt s2 H1 C fp tn m1 ds outs fs h2 f' Cc n s
structure Apart (X:Cx) (pins:List (O9×Obj)) (H:Hp) (C:O9):Prop where
 fr:H C=none
 lo:C≠X.env.locals
 ab:X.s₀.heap.objs.size<=C
 ce:∀ x c,X.env.cells.lookup x=some c->c≠C
 pi:∀ p∈X.pn++pins,p.1≠C
theorem nk (O:Ok X F G sc N) (hu:bB N=true) {cond:BT.Es}
 (hk:iN sc N tg fv scope=true) (ht:qf (aW scope sc) tg te=true) (hset:iL iter=true) (hI:PI X te iter (iD X F G sr sa)) (hC:lI F G (aW scope sc) (tg++fv.map (·.2)) cond ifs)
 (hE:∀ X',Ok X' F G (aW scope sc) (tg++fv.map (·.2))->PE X' elt' (tD X' F G elt)):∀ (pins:List (O9×Obj)) (s:O4) (σ:L2.St) (H:Hp) (Q:VK) (use:Option (Value->Sem Unit)) (Q':Value->O4->Prop),Inv X pins σ H s->tD X F G (.comp mu sr sa tg fv cond elt) σ H Q →
 (∀ (s6:O4) (H6:Hp) (C D:O9) (m:Str->Option Value),Inv X pins σ H6 s6->s6.heap.Ns C m->Apart X pins H6 C->Q (.ref D) H6->compPost (Pp X.prog X.w) X.A X.xe use Q' (.ref D) C (.ok .next) s6) →
 wpAny (Pp X.prog X.w) X.A (comprehension (.ListComp elt' [⟨te,iter,ifs,0⟩] scope pos) scope X.env (firstIterPos [⟨te,iter,ifs,0⟩] pos) (newList []) false (eval iter X.env) use) Q' X.xe s:=by
 have cf:=Kr hk
 obtain ⟨ct,tl,tloc⟩:=CH (fs:=fv.map (·.2)) ht
 have t0:tg≠[]:=by
  rintro rfl
  simp[qf] at ht
 intro pins s σ H Q use Q' I q hfin
 obtain ⟨m,s',h,z,h',R,S,ee,post⟩:=q
 simp only[BT.ev] at ee
 obtain ⟨ws,h1,e1,e2⟩:=ai ee
 cases g1:(BT.rds ws h1).bind (BT.dQ sr) with
 | none=>unfold BT.m8 at e2;rw[g1] at e2;cases e2
 | some ds =>
  cases g2:BT.frees s' fv with
  | none=>unfold BT.m8 at e2;rw[g1,g2] at e2;cases e2
  | some fs =>
   rw[g2] at e2
   obtain ⟨ca,f',hf',c1,e2⟩:=zD e2 g1
   obtain ⟨outs,h2,e3,e4⟩:=ai e2
   unfold BT.fD at e4
   by_cases cl:outs.length<=BT.lim
   case neg=>rw[if_neg cl] at e4;cases e4
   rw[if_pos cl] at e4
   have ez:BT.new mu outs h2=(z,h'):=O5 e4
   have hfree:BC.sD X.env.cells scope.names:=fun x hx e=>I.ok.has x.1 (.inl (by
    have:=cf.free x hx e
    show X.env.scope.names.lookup x.1=_
    rw[O.hsc];exact this))
   refine wpAny_comprehension_free (use:=use) rfl (uE hset) (BC.lF hfree) cf.k1 cf.loc
    (thn (hI pins s σ H (fun J H1=>∃ m1,Ext m H m1 H1/\RH X.K m1 H1 h1/\sC X.K J m1 H1 ds (oG ws ds)) I ⟨m,s',h,ws,h1,ds,R,S,e1,g1,ca,fun H1 m1 J x1 R1 it=>⟨m1,x1,R1,it⟩⟩) fun v s1 hv=>thn hv fun itv s2 h2'=>?_)
   obtain ⟨it,fp,tn,J,H1,rfl,I1,T,st,hf,m1,x1,R1,ito⟩:=h2'
   have hlt:∀ b∈fp,b < s2.heap.objs.size:=fun b hb=>by
    obtain ⟨o,ho,_⟩:=T.obj 0 _ st b hb
    exact O7 ho
   refine RE (wpAny_newFunctionEnv cf.cell (by intro y hy;simp at hy) (fun h3 hns hsb=>?_) cf.k1)
   dsimp only at hns hsb ⊢
   generalize hH2:s2.heap.push { cls:=.type "list",dict:=none,data:=.seq ([]:List Value).toArray }=H2 at hns hsb ⊢
   have hCs:H2.objs.size=s2.heap.objs.size+1:=by rw[← hH2,QG]
   have old:∀ b o,s2.heap.get? b=some o->h3.get? b=some o:=fun b o e=>hsb.extBut b o (by rw[hCs];exact PL (Nat.lt_succ_of_lt (O7 e))) (OZ _ (hH2 ▸ OZ _ e))
   have hacc:h3.get? s2.heap.objs.size=some (lobj [] 0):=hsb.extBut _ _ (by rw[hCs];exact PL (Rc _)) (OZ _ (hH2 ▸ Pf _ rfl))
   have I4:=CG (tk:=s2.toks+([]:List (Str×Value)).length) I1 O.hsc O.hN cf hCs hf hlt old hns hacc
   have O':=GE (s2:=s2) (H1:=H1) (C:=H2.objs.size) (fp:=fp) O hu cf
   obtain ⟨g,hg1,hg2⟩:=sCT O' (O.calm hu) ct fun q hq=>.inr (by rw[O'.hsc];exact tloc q hq)
   have hfl:fs.length=fv.length:=(jJ g2).1
   have stat:∀ {H':Hp}{o:Obj},(∀ b∈fp,H' b=none)->∀ b∈fp,mh (blk X (tg++fv.map (·.2)) s2 H1 scope H2.objs.size fp) [(s2.heap.objs.size,o)] H' b:=fun {H' o} hn b hb=>by
    refine ⟨hn b hb,?_,?_,.inl hb,fun x c e=>(hf b hb).2.2.2.2.1 x c (jV e),fun p hp=>?_⟩
    ·show b≠H2.objs.size
     rw[hCs];exact PL (Nat.lt_succ_of_lt (hlt b hb))
    ·intro zz
     rcases List.mem_cons.mp (I1.iG b zz) with e | e
     ·exact (hf b hb).2.1 e
     ·exact (hf b hb).2.2.1 e
    ·have hp':p=(s2.heap.objs.size,o):=by
      have:p∈[]++[(s2.heap.objs.size,o)]:=hp
      simpa using this
     rw[hp']
     show s2.heap.objs.size≠b
     exact R0 (hlt b hb)
   have loop:∀ s4:O4,s4={ s2 with heap:=h3,toks:=s2.toks+([]:List (Str×Value)).length } →
    codeAny (Pp X.prog X.w) X.A (.compLoop (.ListComp elt' [⟨te,iter,ifs,0⟩] scope pos) 0 (.ref it) (.ref s2.heap.objs.size) (Vt scope (BC.cy X.env.cells scope.names []) H2.objs.size X.env))
     (compPost (Pp X.prog X.w) X.A X.xe use Q' (.ref s2.heap.objs.size) H2.objs.size) s4:=by
    rintro s4 rfl
    refine BC.wu (LI X F G scope tg fv cond elt s2 H1 H2.objs.size fp tn m1 ds outs fs h2 f' (oG ws ds)) ?_
     ds.length ⟨0,_,H1,m1,h1,[],outs,[],[],0,_,QU _,rfl,I4,T.keep 0 _ _ st (fun b hb o e=>old b o e),fun b hb=>(hf b hb).1,.refl _ _,R1,wA (S.ext x1) g2,by simp,by simp,.nil,.nil,by rw[SS];exact e3,rfl,c1⟩
    rintro n s5 ⟨i,σ5,H5,m5,hh,out,rest,vs,us,nn,sl,hi,rfl,I5,st5,fr5,x5,R5,S5,sl1,sl2,rv5,rd5,go5,ou5,cc5⟩
    by_cases c:i < ds.length
    ·rw[Uz c] at go5
     obtain ⟨xs,o,hA,rest',eT,eF,eG,eR⟩:=CK go5
     obtain ⟨eF,cA⟩:=hf' _ _ _ eF
     refine thn (T.item (blk X (tg++fv.map (·.2)) s2 H1 scope H2.objs.size fp) rfl rfl rfl (O.calm hu) i _ s5 σ5 H5 _ I5 (stat fr5) st5 (ito.go m5 H5 hh i x5 R5 cc5 c)) fun r s6 hr=>?_
     obtain ⟨u,rfl,hr⟩:=hr
     refine thn hr fun _ s7 zq=>?_
     obtain ⟨x,H7,I7,r7,y7,st7,fr7⟩:=zq
     obtain ⟨x7,k7,rd7⟩:=ito.yld m5 H5 hh i x H7 ds[i] x5 R5 cc5 (Ph c) y7
     have R7:=R5.ext x7 k7
     have I7':=I7.pinned (stat fr7) (T.obj _ _ st7)
     obtain ⟨sq1,sq2,sq3⟩:=CJ tl t0 eT sl1 sl2
     refine thn (hg1 _ s7 σ5 H7 x u (fun σ8 H8=>H8=H7/\RS X.prog X.w X.K m5 H7 σ8 (xs.map BT.dz++fs)) I7' r7 (hg2 m5 H7 σ5 sl x ds[i] xs _ (S5.ext x7) rd7 (by rw[tl];exact eT) fun σ8 S8=>⟨rfl,by rw[← sq1];exact S8⟩)) fun _ s8 h8=>?_
     obtain ⟨σ8,H8,I8,rfl,S8⟩:=h8
     have kept:∀ {s9:O4}{σ9:L2.St}{H9:Hp},Inv (blk X (tg++fv.map (·.2)) s2 H1 scope H2.objs.size fp) ([(s2.heap.objs.size,lobj us nn)]++jx fp s7.heap) σ9 H9 s9->tn (i+1) s9.heap/\∀ b∈fp,H9 b=none:=fun {s9 σ9 H9} I9=>by
      refine ⟨T.keep _ _ _ st7 fun b hb o e=>(I9.pin (b,o) (PV _ (PV _ (fN hb e)))).1,fun b hb=>?_⟩
      obtain ⟨o,e,_⟩:=T.obj _ _ st7 b hb
      exact (I9.pin (b,o) (PV _ (PV _ (fN hb e)))).2.1
     have elem:∀ {s9:O4}{H9:Hp}{m9:List O9}{h9:BT.HH}{w:BT.W}{hB:BT.HH}{d:BT.D},Inv (blk X (tg++fv.map (·.2)) s2 H1 scope H2.objs.size fp) ([(s2.heap.objs.size,lobj us nn)]++jx fp s7.heap) σ8 H9 s9->Ext m5 H8 m9 H9->RH X.K m9 H9 h9 →
      BT.ev F G elt (xs.map BT.dz++fs) h9=some (w,hB)->BT.mC w hB=some (some d,hA)->o=some d →
      wpAny (Pp X.prog X.w) X.A (eval elt' (Vt scope (BC.cy X.env.cells scope.names []) H2.objs.size X.env)) (fun x s₄ =>
       wpAny (Pp X.prog X.w) X.A (call (.builtin "list.append") [.ref s2.heap.objs.size,x]) (fun _ s₅=>∃ m,m < ds.length - i/\LI X F G scope tg fv cond elt s2 H1 H2.objs.size fp tn m1 ds outs fs h2 f' (oG ws ds) m s₅) (fun _ _=>False) s₄) (fun _ _=>False) s9:=by
      intro s9 H9 m9 h9 w hB d I9 x9 R9 eE eK eO
      have ew:w=.p d/\hB=hA:=by
       unfold BT.mC at eK
       cases w with
       | p d'=>cases eK;exact ⟨rfl,rfl⟩
       | r _=>cases eK
       | k _=>cases eK
       | c _ _=>cases eK
       | x _=>cases eK
       | o _=>cases eK
      obtain ⟨rfl,rfl⟩:=ew
      refine thn (hE _ O' _ s9 σ8 H9 (fun v Ha=>∃ ma,Ext m9 H9 ma Ha/\RH X.K ma Ha hB/\RD X.K ma Ha v d) I9 ⟨m9,_,h9,_,hB,R9,S8.ext x9,eE,fun v Ha ma xa Ra ra=>by
       cases ra with | p ra=>exact ⟨ma,xa,Ra,ra⟩⟩) fun u10 s10 ⟨v10,H10,I10,r10,m10,x10,R10,rd10⟩=>?_
      obtain ⟨pD,nD,neD,nfD,_⟩:=I10.pin (s2.heap.objs.size,lobj us nn) (by simp)
      have lus:=rv5.length
      have lvs:=rd5.length
      have lou:out.length<=outs.length:=by rw[← ou5];simp
      have lle:=cu
      have cl':outs.length<=BT.lim:=cl
      refine wpAny_list_append_plain ⟨nn,pD⟩ (fun h11 hp11 sb11=>?_) (by rw[O2];lia)
      obtain ⟨nn',hp11⟩:=hp11
      have hp11:h11.get? s2.heap.objs.size=some (lobj (us++[u10]) nn'):=by rw[hp11];simp[lobj]
      have sb11:Rh s2.heap.objs.size s10.heap h11:=sb11
      obtain ⟨st10,fr10⟩:=kept I10
      have I11:Inv (blk X (tg++fv.map (·.2)) s2 H1 scope H2.objs.size fp) [] σ8 H10 { s10 with heap:=h11 } :=
       Inv.turned (t':=s10.toks) (I10.kr (fun p hp=>by cases hp)) (fun b o hb e=>(sb11.2 b hb).trans e) nD neD (.inr (O8 _)) (fun x c e zz=>by
        obtain ⟨v,o,ho,_⟩:=I1.cell x c (jV e)
        have:=O7 ho
        rw[zz] at this
        exact absurd this (PZ _)) fun p hp=>by cases hp
      have I12:Inv (blk X (tg++fv.map (·.2)) s2 H1 scope H2.objs.size fp) [(s2.heap.objs.size,lobj (us++[u10]) nn')] σ8 H10 { s10 with heap:=h11 }:=I11.kr fun p hp=>by
       simp only[List.mem_singleton] at hp
       subst hp
       exact ⟨hp11,nD,neD,nfD,fun v zz=>by cases (show Data.seq _ _=Data.cell v from zz)⟩
      have xt:Ext m5 H5 m10 H10:=(x7.trans x9).trans x10
      refine ⟨ds.length - (i+1),by lia,i+1,σ8,H10,m10,hB,out++[d],rest',vs++[v10],us++[u10],nn',_,c,rfl,I12,?_,fr10,x5.trans xt,R10,(S8.ext x9).ext x10,sq2,sq3,rv5.append (.cons r10 .nil),(rd5.ext xt).append (.cons rd10 .nil),eG,?_,cA⟩
      ·refine T.keep _ _ _ st10 fun b hb o' e=>(sb11.2 b ?_).trans e
       exact PL (hlt b hb)
      ·rw[← ou5,eR,eO,QK];rfl
     unfold BT.dF at eF
     obtain ⟨cs,hc,eC,eK⟩:=ai eF
     rcases hC with ⟨rfl,rfl⟩ | ⟨cc,cc',rfl,rfl,hCC⟩
     ·simp only[BT.evs] at eC
      cases eC
      have eK:=(show BT.bnd _ BT.mC=_ from eK)
      obtain ⟨w,hB,eE,eL⟩:=ai eK
      refine wpAny_tests_nil ?_
      rw[if_pos rfl]
      have:∃ d,o=some d:=by
       unfold BT.mC at eL
       cases w with
       | p d'=>cases eL;exact ⟨_,rfl⟩
       | r _=>cases eL
       | k _=>cases eL
       | c _ _=>cases eL
       | x _=>cases eL
       | o _=>cases eL
      obtain ⟨d,rfl⟩:=this
      exact elem I8 (.refl _ _) R7 eE eL rfl
     ·simp only[BT.evs] at eC
      obtain ⟨wc,hc2,eC1,eC2⟩:=ai eC
      simp only[BT.jR,BT.bX,BT.iJ] at eC2
      cases eC2
      have hb:∃ b,wc=.p (.bl b):=by
       cases wc with
       | p d =>
        cases d<;>first | exact ⟨_,rfl⟩ | exact ay eK
       | r _=>exact ay eK
       | k _=>exact ay eK
       | c _ _=>exact ay eK
       | x _=>exact ay eK
       | o _=>exact ay eK
      obtain ⟨b,rfl⟩:=hb
      refine wpAny_tests_one (thn (hCC _ O' _ s8 σ8 H8 (fun b' Ha=>b'=b/\∃ ma,Ext m5 H8 ma Ha/\RH X.K ma Ha hc) I8 ⟨m5,_,hh,b,hc,R7,S8,eC1,fun Ha ma xa Ra=>⟨rfl,ma,xa,Ra⟩⟩) fun b' s9 zq=>?_)
      obtain ⟨H9,I9,hbb,m9,x9,R9⟩:=zq
      subst hbb
      cases b' with
      | false =>
       have eK:=(show some ((none:Option BT.D),hc)=some _ from eK)
       cases eK
       rw[if_neg (by decide)]
       obtain ⟨st9,fr9⟩:=kept I9
       have xt:Ext m5 H5 m9 H9:=x7.trans x9
       refine ⟨ds.length - (i+1),by lia,i+1,σ8,H9,m9,hA,out,rest',vs,us,nn,_,c,rfl,I9.iW,st9,fr9,x5.trans xt,R9,S8.ext x9,sq2,sq3,rv5,rd5.ext xt,eG,?_,cA⟩
       rw[← ou5,eR]
      | true =>
       have eK:=(show BT.bnd _ BT.mC=_ from eK)
       rw[if_pos rfl]
       obtain ⟨w,hB,eE,eL⟩:=ai eK
       have:∃ d,o=some d:=by
        unfold BT.mC at eL
        cases w with
        | p d'=>cases eL;exact ⟨_,rfl⟩
        | r _=>cases eL
        | k _=>cases eL
        | c _ _=>cases eL
        | x _=>cases eL
        | o _=>cases eL
       obtain ⟨d,rfl⟩:=this
       exact elem I9 x9 R9 eE eL rfl
    ·have ei:i=ds.length:=by lia
     subst ei
     rw[List.drop_length,BT.aV] at go5
     cases go5
     rw[PY] at ou5
     subst ou5
     refine thn (T.done (blk X (tg++fv.map (·.2)) s2 H1 scope H2.objs.size fp) rfl rfl rfl (O.calm hu) _ _ s5 σ5 H5 _ I5 (stat fr5) st5 (ito.stop m5 H5 _ x5 R5 cc5)) fun r s6 zq=>?_
     obtain ⟨hr,I6⟩:=zq
     subst hr
     obtain ⟨mm,hmm,_⟩:=I6.loc
     obtain ⟨pD,nD,neD,nfD,_⟩:=I6.pin (s2.heap.objs.size,lobj us nn) (by simp)
     have neD:s2.heap.objs.size≠H2.objs.size:=neD
     have hos:s6.os=s2.os:=I6.os
     have lus:=rv5.length
     have lvs:=rd5.length
     have lle:=cu
     have cl':out.length<=BT.lim:=cl
     have hok:HOk X.prog X.w (upd H5 s2.heap.objs.size (.lst vs)) s6.heap:=fun b u e=>by
      by_cases eb:b=s2.heap.objs.size
      ·subst eb
       rw[aJ] at e
       cases e
       exact ⟨by lia,us,nn,rv5,pD⟩
      ·rw[au eb] at e
       refine (I6.hok b u e).stay (fun c v hc q=>q) (fun c q=>?_) fun c l q=>?_
       ·rw[au (fun zz=>by rw[zz,nD] at q;cases q)];exact q
       ·rw[au (fun zz=>by rw[zz,nD] at q;cases q)];exact q
     have u7:Un (frs X.stack) fp H1 (upd H5 s2.heap.objs.size (.lst vs)) s2.heap s6.heap:=Un.behind (h1:=s6.heap) I6.base (fun b hb=>au (PL hb)) (fun b o e=>I1.hok.lt e) fun b o hb e=>e
     have I7:=I1.call (g':=s6.gens) (t':=s6.toks) (d':=s6.drawn) (ch:=fp) u7 hok I6.bare fun b hb=>⟨(hf b hb).2.2.2.1,(hf b hb).2.1,(hf b hb).2.2.2.2.1,(hf b hb).2.2.2.2.2⟩
     have fr6:H5 H2.objs.size=none:=I6.free
     have ltC:s2.heap.objs.size < H2.objs.size:=by rw[hCs];exact Rc _
     have ap:Apart X pins (upd H5 s2.heap.objs.size (.lst vs)) H2.objs.size:=by
      refine ⟨by rw[au (Qp neD)];exact fr6,?_,?_,fun x c e zz=>?_,fun p hp zz=>?_⟩
      ·exact R0 (T8 I1.lt ltC)
      ·exact PD I1.sz (QE ltC)
      ·obtain ⟨v,o,ho,_⟩:=I1.cell x c e
       have l:=O7 ho
       rw[zz] at l
       exact absurd (T8 l ltC) (PZ _)
      ·have l:=O7 (I1.pin p hp).1
       rw[zz] at l
       exact absurd (T8 l ltC) (PZ _)
     refine hfin s6 _ _ _ mm ?_ hmm ap (fS (mu:=mu) R5 nD rd5 (by rw[ez];exact fun v' H' m' xx RR rr=>post v' H' m' ((x1.trans x5).trans xx) RR rr))
     obtain ⟨hp6,g6,d6,t6,os6⟩:=s6
     have hos:os6=s2.os:=hos
     subst hos
     exact I7
   exact codeAny_compStart_list (loop _ rfl) (T.self _ 0 _ _ _ (T.keep 0 _ _ st (fun b hb o e=>old b o e)) (loop _ rfl))
theorem CM (O:Ok X F G sc N) (hu:bB N=true) {cond:BT.Es}
 (hk:iN sc N tg fv scope=true) (ht:qf (aW scope sc) tg te=true) (hset:iL iter=true) (hI:PI X te iter (iD X F G sr sa)) (hC:lI F G (aW scope sc) (tg++fv.map (·.2)) cond ifs)
 (hE:∀ X',Ok X' F G (aW scope sc) (tg++fv.map (·.2))->PE X' elt' (tD X' F G elt)):PE X (.ListComp elt' [⟨te,iter,ifs,0⟩] scope pos) (tD X F G (.comp mu sr sa tg fv cond elt)):=by
 intro pins s σ H Q I q
 rw[eval_ListComp]
 refine nk O hu hk ht hset hI hC hE pins s σ H Q none _ I q fun s6 H6 C D m I6 hn ap hq=>?_
 refine ⟨m,hn,fun h7 sb7=>?_⟩
 have sb7:Rh C s6.heap h7:=sb7
 exact ⟨.ref D,H6,Inv.turned (t':=s6.toks) I6 (fun b o hb e=>(sb7.2 b hb).trans e) ap.fr ap.lo (.inr ap.ab) ap.ce ap.pi,rfl,hq⟩
theorem CO (O:Ok X F G sc N) (hu:bB N=true) {cond:BT.Es}
 (hk:iN sc N tg fv scope=true) (ht:qf (aW scope sc) tg te=true) (hset:iL iter=true) (hI:PI X te iter (iD X F G sr sa)) (hC:lI F G (aW scope sc) (tg++fv.map (·.2)) cond ifs)
 (hE:∀ X',Ok X' F G (aW scope sc) (tg++fv.map (·.2))->PE X' elt' (tD X' F G elt)) (hy:N[i]?=some y) (hl:sc.names.lookup y=some .local)
 (hsw:Sb (.ListComp elt' [⟨te,iter,ifs,0⟩] scope pos) (some (.Name y py)) spos.line X.env=pure true) :
 PS X (.Assign [.Name y py] (.ListComp elt' [⟨te,iter,ifs,0⟩] scope pos) spos) (vh (tD X F G (.comp mu sr sa tg fv cond elt)) (pJ i)):=by
 intro pins s σ H D I q
 rw[exec_Assign_Name_used _ _ _ _ hsw]
 refine O0 (Ub (O0 ?_))
 show wpAny _ X.A (do let _ ← comprehension (.ListComp elt' [⟨te,iter,ifs,0⟩] scope pos) scope X.env _ (newList []) false (eval iter X.env) (some (UM (.Name y py) X.env))) _ _ s
 refine O0 (thn (nk O hu hk ht hset hI hC hE pins s σ H _ (some (UM (.Name y py) X.env)) (fun _ s'=>SP X pins D .next s') I q fun s6 H6 C D' m I6 hn ap hq=>?_) fun _ s' hq=>wpAny_pure (wpAny_pure hq))
 show wpAny _ X.A (UM (.Name y py) X.env (.ref D')) _ _ _
 refine wpAny_assign_Name (jw I6 O.nd (by rw[O.hN];exact hy) (.inl (by rw[O.hsc];exact hl)) (v:=.ref D') rfl (fun s7 I7 hs=>?_) (.inr (by rw[O.hsc];exact hl)))
 obtain ⟨a,sb,ha⟩:=hs
 have neC:C≠a:=by
  rcases ha with rfl | ha
  ·exact ap.lo
  ·exact fun z=>ap.ce y a ha z.symm
 refine ⟨m,hn.sameBut sb neC,fun h8 sb8=>?_⟩
 have sb8:Rh C s7.heap h8:=sb8
 exact ⟨_,H6,Inv.turned (t':=s7.toks) I7 (fun b o hb e=>(sb8.2 b hb).trans e) ap.fr ap.lo (.inr ap.ab) ap.ce ap.pi,hq⟩
end
theorem zE:typeLookup (.type "list_reverseiterator") "__len__"=pure none:=by rw[typeLookup_type,builtinLookup_eq_fast];kernel_rfl
theorem CP:typeLookup (.type "list_reverseiterator") "__length_hint__"=pure (some (.builtin "list_reverseiterator.__length_hint__")):=by rw[typeLookup_type,builtinLookup_eq_fast];kernel_rfl
section
variable {E:Value->O4->Prop}
theorem zF (hi:s.heap.IsRevIter J l i) (h:Q false s):wpAny (Pp prog w) A (SZ (.ref J)) Q E s:=by
 delta SZ
 refine O0 (wpAny_specialOf hi.typeIs zE ?_)
 show wpAny _ A (specialOf (Px J) (Pe "__length_hint__") >>= _) _ _ _
 refine O0 (wpAny_specialOf hi.typeIs CP ?_)
 generalize hid:("list_reverseiterator.__length_hint__":String)=id1
 wp_delta
 rw[show splitId id1=some ("list_reverseiterator","__length_hint__") from by subst hid;decide +kernel]
 subst hid
 exact O0 (wpAny_isInstance (b:=true) hi.typeIs (by rw[isSubtype_type];kernel_rfl) (wpAny_pure h))
theorem mG (hh:A.handled=none) (hi:s.heap.IsRevIter J l ((its.size:Int) - 1)) (hl:s.heap.IsList l its) (hne:l≠J) (hz:its.size<=sizeLine)
 (hQ:∀ h' tk acc c,(∀ b o,b≠J->s.heap.get? b=some o->h'.get? b=some o)->h'.get? s.heap.objs.size=some { cls:=.type "list",data:=.seq acc c }->ItemsOf (fun i v=>its[its.size - 1 - i]?=some v) acc its.size->Q (.ref s.heap.objs.size) { s with heap:=h',toks:=tk }) :
 wpAny (Pp prog w) A (call (.type "list") [.ref J]) Q E s:=by
 refine callType_codes (Q₁:=fun y t=>y=.ref s.heap.objs.size/\t={ s with heap:=s.heap.push { cls:=.type "list",data:=.seq #[] } }) F.called_list (F.typeCall_list_1 _) F.entry_list_init (code_list_new _ ⟨rfl,rfl⟩) fun y t q=>?_
 obtain ⟨rfl,rfl⟩:=q
 have nS:(s.heap.push { cls:=.type "list",data:=.seq #[] }).get? s.heap.objs.size=some { cls:=.type "list",data:=.seq #[] }:=Pf _ rfl
 have hiJ:J < s.heap.objs.size:=by obtain ⟨o,e,_⟩:=hi;exact O7 e
 have hlL:l < s.heap.objs.size:=by obtain ⟨o,e,_⟩:=hl;exact O7 e
 have SJ:s.heap.objs.size≠J:=fun e=>PZ _ (e ▸ hiJ)
 have Sl:s.heap.objs.size≠l:=fun e=>PZ _ (e ▸ hlL)
 have Sf:s.heap.objs.size∉[J,l]:=fun hm=>by
  rcases List.mem_cons.mp hm with e | e
  ·exact SJ e
  ·exact Sl (List.mem_singleton.mp e)
 refine ⟨⟨_,nS,rfl⟩,F.args_list_init_2 _ _,?_⟩
 show wpAny _ _ (T5 (.ref s.heap.objs.size) >>= fun old=>Builtin.List.listUpdate (.ref s.heap.objs.size) (fun _=>#[]) >>= fun _=>letGo old.toList.reverse >>= fun _=>Rp (.ref s.heap.objs.size) (.ref J) .none) _ _ _
 refine O0 ?_
 delta T5
 refine O0 (Sw nS rfl (wpAny_pure ?_))
 show wpAny _ _ (updateSeq s.heap.objs.size (fun _=>#[]) >>= fun _=>letGo (#[]:Array Value).toList.reverse >>= fun _=>Rp (.ref s.heap.objs.size) (.ref J) .none) _ _ _
 refine O0 (R8 nS rfl ?_)
 have nS2:=Rx (Ri (fun _=>(#[]:Array Value))) nS rfl
 have oth:∀ b o,s.heap.get? b=some o->((s.heap.push { cls:=.type "list",data:=.seq #[] }).update s.heap.objs.size (Ri (fun _=>(#[]:Array Value)))).get? b=some o :=
  fun b o e=>(P8 _ _ (fun z=>PZ _ (z ▸ O7 e))).trans (OZ _ e)
 refine O0 (TR ?_)
 have hi2:=hi.at (h':=(s.heap.push { cls:=.type "list",data:=.seq #[] }).update s.heap.objs.size (Ri (fun _=>(#[]:Array Value)))) (oth J)
 have hl2:=hl.at (h':=(s.heap.push { cls:=.type "list",data:=.seq #[] }).update s.heap.objs.size (Ri (fun _=>(#[]:Array Value)))) (oth l)
 delta Rp
 refine O0 (Uu (T:="list_reverseiterator") (let ⟨o,e,c,_⟩:=hi2;⟨o,e,c⟩) ?_)
 rw[if_neg (by rw[show TH (.ref s.heap.objs.size) (.ref J)=false by simp[TH,SJ]];decide)]
 refine O0 (Tu hi2 ?_)
 refine O0 (QI (zF hi2 ?_))
 rw[if_neg (by decide)]
 have W:=(Walks.listRev (prog:=prog) (w:=w) (A:=A.in1.in1) hh J l hne its).toS
 refine wpAny_pure ⟨plainId_quiet F.plain_extend_loop _,codeAny_extend_loopS W hz _ Sf _ its.size 0 _ _ _ rfl (QU _) ⟨QU _,by simpa using hi2,hl2⟩ nS2 (ItemsOf.nil _) fun s' acc c hm hS' hacc=>⟨rfl,?_⟩⟩
 rw[Moved.eq_with hm]
 refine hQ s'.heap s'.toks acc c (fun b o hb e=>hm.heap b o (fun hmem=>?_) (oth b o e)) hS' hacc
 rcases List.mem_cons.mp hmem with z | z
 ·exact PZ _ (z ▸ O7 e)
 ·exact hb (List.mem_singleton.mp z)
end
section
theorem zG (O:Ok X F G sc N) (hu:bB N=true) (hg:av sc "list"=true) (hg2:av sc "reversed"=true) (hs:noStar ex=true) (hA:PA X [ex] (tDs X F G sa)) :
 PE X (.Call (.Name "list" np) [.Call (.Name "reversed" zp) [ex] [] pos] [] p) (tD X F G (.lsr mu .rev sa)):=by
 intro pins s σ H Q I q
 have q:=fV (as:=sa) (k:=fun ws h=>BT.kLs mu .rev ws h) (fun s h=>by simp only[BT.ev]) q (R':=fun vs H1=>∃ m h ws z h',RH X.K m H1 h/\RWs X.prog X.w X.K m H1 vs ws/\BT.kLs mu .rev ws h=some (z,h')/\Post X.prog X.w X.K m H1 z h' Q) fun m h xs z h' vs H1 R r e post=>⟨m,h,xs,z,h',R,r,e,post⟩
 refine U8 (bR (u:=.type "list") I (aE O hg) (O.blt _ (by decide)) (by decide +kernel) (Pj ?_ (af rfl) rfl))
 rw[af (show noStar (.Call (.Name "reversed" zp) [ex] [] pos)=true from rfl)]
 show wpAny _ _ (RG ((false,eval (.Call (.Name "reversed" zp) [ex] [] pos) X.env) :: Qx p (Pu [] X.env))) _ _ s
 refine PU (U8 (bR (u:=.type "reversed") I (aE O hg2) (O.blt _ (by decide)) (by decide +kernel) (Pj (thn (hA pos pins s σ H _ I q) fun us s1 ⟨vs,H1,I1,r1,q1⟩=>?_) (af hs) rfl)))
 obtain ⟨m,h,ws,z,h',R,rws,e,post⟩:=q1
 unfold BT.kLs at e
 cases g1:(BT.rds ws h).bind (BT.dQ .rev) with
 | none=>rw[g1] at e;cases e
 | some ds =>
  rw[g1] at e
  simp only at e
  by_cases cl:ds.length<=BT.lim
  case neg=>rw[if_neg cl] at e;cases e
  rw[if_pos cl] at e
  have ez:BT.new mu ds h=(z,h'):=O5 e
  obtain ⟨xs,e1,e2⟩:=Option.bind_eq_some_iff.mp g1
  have rr:=cT R rws e1
  have hd:∃ ys:List BT.D,xs=[.lst ys]/\ds=ys.reverse:=by
   match xs,e2 with
   | [.lst ys],e2=>exact ⟨ys,rfl,(O5 e2).symm⟩
  obtain ⟨ys,rfl,ed⟩:=hd
  obtain ⟨v,rfl,r⟩:=rr.one
  obtain ⟨a,vt,rfl,ha,ra⟩:=r.lst
  obtain ⟨u,rfl,eu⟩:=vals1 r1
  cases eu
  obtain ⟨zz,its,nn,rv,hl,ee⟩:=rdL I1 ha
  have hL:s1.heap.IsList a its.toArray:=⟨_,ee,rfl,_,rfl⟩
  refine call_reversed_list hL (Qa ?_)
  have la:=O7 ee
  have hle:s1.heap.objs.size<=(s1.heap.push (revObj a ((its.toArray.size:Int) - 1))).objs.size:=by rw[QG];exact P9 _
  refine mG (s:={ s1 with heap:=s1.heap.push (revObj a ((its.toArray.size:Int) - 1)) }) (I1.ok.hd (O.calm hu)) ⟨_,Pf _ rfl,rfl,rfl⟩ (hL.at fun o e=>OZ _ e) (PL la) (by rw[O2,← hl];exact zz) fun h2 tk acc c hk hS hacc=>?_
  have hk':∀ b u,s1.heap.get? b=some u->h2.get? b=some u:=fun b u q=>hk b u (PL (O7 q)) (OZ _ q)
  have sz:its.toArray.size=vt.length:=by rw[O2,hl]
  have hv:ao vt.reverse acc.toList:=by
   refine kE (by simp[hacc.1,hl]) fun j x u e1 e2=>?_
   have jl:j < vt.length:=by
    have:=(List.getElem?_eq_some_iff.mp e1).1
    rwa [Vh] at this
   rw[UX jl] at e1
   have e3:=hacc.2 j u (by simpa using e2)
   rw[sz] at e3
   obtain ⟨u',e4,r4⟩:=rv.get e1
   have:its.toArray[vt.length - 1 - j]?=its[vt.length - 1 - j]?:=by simp
   rw[this,e4] at e3
   cases e3
   exact r4
  refine ⟨.ref _,_,I1.laid (h':=h2) (t':=tk) (o:=.lst vt.reverse) hk' hle ⟨by rw[Vh];exact zz,acc.toList,c,hv,by simpa using hS⟩,rfl,?_⟩
  refine fS (mu:=mu) R (I1.hok.fresh hle) ra.reverse ?_
  rw[← ed,ez]
  exact post
end
section
theorem wB {X:Cx}{v:V}{ds:List BT.D} (r:∀ m H,RW X.prog X.w X.K m H v (.p (.tup ds))):∃ a vs,v=.ref a/\KT X.K a vs:=by
 have z:=r [] (fun _=>none)
 cases z with
 | p z =>
  cases z with
  | @tup a vs _ h _ =>
   rcases h with ⟨h,_⟩ | h
   ·rcases h with h | ⟨o,h⟩<;>cases h
   ·exact ⟨a,vs,rfl,h⟩
theorem wC {X:Cx}{sc:Qc}{N:List Str} (O:Ok X F G sc N) {x:Str}{as:BT.Es}{es:List O3}{np apos cpos:Pos} (h2:av sc x=true) (h3:aA x=true) (hl:(apos.endLine==cpos.line)=true) (hlen:es.length < 20) (hc:CEs sc N as es) (ha:PA X es (tDs X F G as)) :
 PE X (.Call (.Attribute (.Name x np) "index" apos) es [] cpos) (tD X F G (.me .tindex (.glo x) as)):=by
 have hst:=cF hc
 intro pins s σ H Q I q
 obtain ⟨m,s',h,z,h',R,S,ee,post⟩:=q
 simp only[BT.ev] at ee
 obtain ⟨w,g,e1,e2⟩:=ai ee
 obtain ⟨_,e2⟩:=uq e2
 obtain ⟨ws,g2,e3,e4⟩:=ai e2
 obtain ⟨w',e5,e6⟩:=az e1
 cases e6
 obtain ⟨u,v0,hm,rv,rw0⟩:=O.glob _ _ e5
 have hT:∃ ds xs,BT.aK ws=some ds/\w=.p (.tup xs)/\ds≠[]:=by
  cases w with
  | r n=>cases ws<;>(first | (cases e4;done) | simp[BT.meW] at e4)
  | k q=>cases ws<;>(first | (cases e4;done) | simp[BT.meW] at e4)
  | c _ _=>cases ws<;>(first | (cases e4;done) | simp[BT.meW] at e4)
  | x _=>cases ws<;>(first | (cases e4;done) | simp[BT.meW] at e4)
  | o q=>cases ws<;>(first | (cases e4;done) | simp[BT.meW] at e4)
  | p d =>
   rw[BT.kX] at e4
   cases gp:BT.aK ws with
   | none=>rw[gp] at e4;cases e4
   | some ds =>
    rw[gp] at e4
    obtain ⟨b,e7,e8⟩:=az e4
    cases d with
    | tup xs=>refine ⟨ds,xs,rfl,rfl,fun z=>?_⟩;subst z;exact ay e7
    | _=>cases ds<;>exact ay e7
 obtain ⟨ds,xs,gp,rfl,hne⟩:=hT
 obtain ⟨a,vt,rfl,o,its,n,⟨k1,k2,k3,k4,k5⟩,k6⟩:=wB rw0
 cases es with
 | nil =>
  cases as with
  | cons a r=>exact (iP hc).elim
  | nil=>simp only[BT.evs] at e3;cases e3;simp[BT.aK] at gp;exact absurd gp hne
 | cons e es =>
  simp only[ak,OY] at hst
  have h30:decide ((e :: es).length+([]:List Ut).length+(if ([]:List Ut).isEmpty then 0 else 1) < 30)=true:=decide_eq_true (by
   simp only[Po,Qe,List.isEmpty_nil,if_true] at hlen ⊢;lia)
  refine (D9 PySem.F.plainAttrs_tuple PySem.F.slot_tuple_index PySem.F.type_tuple_index (vW O.hu) (ku (aE O h2) hm rv (bK h3).1) ha rfl (by
   rw[jf (es:=e :: es) (by simp only[ak,OY];exact hst),h30];rfl) hl (af hst.1) (aC hst.2)) pins s σ H Q I ?_
  refine ⟨.inr (.inl ⟨rfl,o,k1,k2,k6⟩),m,s',h,ws,g2,R,S,e3,fun vs H2 m2 x2 R2 r2=>?_⟩
  exact ⟨m2,g2,.p (.tup xs),ws,z,h',R2,rw0 m2 H2,r2,e4,fun v5 H5 m5 x5 R5 r5=>post v5 H5 m5 (x2.trans x5) R5 r5⟩
theorem GF {X:Cx}{me:BT.Me} (hm:me=.append\/me=.pop\/me=.extend) {o:BT.E}:∀ (m:List O9) (h h2:BT.HH) (H:Hp) (v:V) (x:BT.W) ws r,RH X.K m H h->RW X.prog X.w X.K m H v x->BT.mz x h=true->BT.meW me x ws h2=some r->(∃ σ s,RS X.prog X.w X.K m H σ s/\∃ h0,BT.ev F G o s h0=some (x,h))->tyV X.K "list" v H:=by
 intro m h h2 H v x ws r R rq ok e _
 obtain ⟨n,rfl⟩:=NG hm e
 exact ty_list R rq ok
theorem NH {X:Cx}{o:BT.E}:∀ (m:List O9) (h h2:BT.HH) (H:Hp) (v:V) (x:BT.W) ws r,RH X.K m H h->RW X.prog X.w X.K m H v x->BT.mz x h=true->BT.meW .sindex x ws h2=some r->(∃ σ s,RS X.prog X.w X.K m H σ s/\∃ h0,BT.ev F G o s h0=some (x,h))->tyV X.K "str" v H:=by
 intro m h h2 H v x ws r R rq _ e _
 cases x with
 | r n=>cases ws<;>(first | (cases e;done) | simp[BT.meW] at e)
 | k q=>cases ws<;>(first | (cases e;done) | simp[BT.meW] at e)
 | c _ _=>cases ws<;>(first | (cases e;done) | simp[BT.meW] at e)
 | x _=>cases ws<;>(first | (cases e;done) | simp[BT.meW] at e)
 | o q=>cases ws<;>(first | (cases e;done) | simp[BT.meW] at e)
 | p d =>
  rw[BT.kY] at e
  cases g:BT.aK ws with
  | none=>rw[g] at e;cases e
  | some ds =>
   rw[g] at e
   obtain ⟨b,e7,e8⟩:=az e
   cases d with
   | str y=>cases rq with | p r=>cases r;exact rfl
   | _=>cases ds<;>exact ay e7
theorem Ks {X:Cx}{me:BT.Me} (hm:me=.count\/me=.lindex) {o:BT.E}:∀ (m:List O9) (h h2:BT.HH) (H:Hp) (v:V) (x:BT.W) ws r,RH X.K m H h->RW X.prog X.w X.K m H v x->BT.mz x h=true->BT.meW me x ws h2=some r->(∃ σ s,RS X.prog X.w X.K m H σ s/\∃ h0,BT.ev F G o s h0=some (x,h))->tyV X.K "list" v H:=by
 intro m h h2 H v x ws r R rq _ e _
 have key:∃ xs,x=.p (.lst xs):=by
  cases x with
  | r n=>rcases hm with rfl | rfl<;>cases ws<;>(first | (cases e;done) | simp[BT.meW] at e)
  | k q=>rcases hm with rfl | rfl<;>cases ws<;>(first | (cases e;done) | simp[BT.meW] at e)
  | c _ _=>rcases hm with rfl | rfl<;>cases ws<;>(first | (cases e;done) | simp[BT.meW] at e)
  | x _=>rcases hm with rfl | rfl<;>cases ws<;>(first | (cases e;done) | simp[BT.meW] at e)
  | o q=>rcases hm with rfl | rfl<;>cases ws<;>(first | (cases e;done) | simp[BT.meW] at e)
  | p d =>
   rw[qi] at e
   cases g:BT.aK ws with
   | none=>rw[g] at e;cases e
   | some ds =>
    rw[g] at e
    obtain ⟨b,e7,e8⟩:=az e
    cases d with
    | lst y=>exact ⟨y,rfl⟩
    | _=>rcases hm with rfl | rfl<;>cases ds<;>exact ay e7
 obtain ⟨xs,rfl⟩:=key
 cases rq with
 | p r =>
  cases r with
  | @lst a vs _ h _=>exact .inl ⟨rfl,vs,LL.sq (h.elim (fun q=>.inl q.1) .inr)⟩
theorem NI (σ:L2.St) (H:Hp) (Q:Bool->Hp->Prop) (q:tDT X F G e σ H Q):tB (tD X F G e) σ H Q:=by
 obtain ⟨m,s,h0,b,h',R,S,ee,post⟩:=q
 refine ⟨m,s,h0,_,h',R,S,ee,fun v H' m' x R' r=>?_⟩
 exact ⟨b,jF r,post H' m' x R'⟩
noncomputable def XE (F:FT) (G:Str->Option BT.W) (X:Cx) (e':BT.E) (e:O3):Prop:=PE X e (tD X F G e')/\(tOK e'=true->PT X e (tDT X F G e')/\∀ op vs p,e=.BoolOp op vs p->PW X e (tDT X F G e'))
noncomputable def XO (F:FT) (G:Str->Option BT.W) (X:Cx) (es':BT.Es) (o:Option O3):Prop:=∃ t,PO X o t ∧
 ∀ σ H (Q:Option Int->Hp->Prop),(∃ m s h l zs h',RH X.K m H h/\RS X.prog X.w X.K m H σ s/\BT.evs F G es' s h=some (zs,h')/\(BT.aK zs).bind BT.nR=some l/\∀ H' m',Ext m H m' H'->RH X.K m' H' h'->Q l H')->t σ H Q
theorem bC (p:PE X e (tD X F G e')) (hb:∀ op vs q,e≠.BoolOp op vs q) (he:∀ whole,isTrue e X.env whole=(do let v ← whole;standAt e.pos;holding [v] (truthy v)):=by intro _;rfl):XE F G X e' e :=
 ⟨p,fun _=>⟨PT.weak (EJ p he) NI,fun op vs q z=>absurd z (hb op vs q)⟩⟩
theorem GG:XO F G X .nil none:=⟨_,Bs,fun σ H Q q=>by
 obtain ⟨m,s,h,l,zs,h',R,S,e1,e2,post⟩:=q
 simp only[BT.evs] at e1
 cases e1
 simp[BT.aK,BT.nR] at e2
 subst e2
 exact post H m (.refl _ _) R⟩
theorem GH (ha:PE X e (tD X F G a)):XO F G X (.cons a .nil) (some e):=by
 refine ⟨_,Bt ha,fun σ H Q q=>?_⟩
 obtain ⟨m,s,h,l,zs,h',R,S,e1,e2,post⟩:=q
 simp only[BT.evs] at e1
 obtain ⟨x,h1,e3,e4⟩:=ai e1
 simp only[BT.jR,BT.bX,BT.iJ] at e4
 cases e4
 refine ⟨m,s,h,x,h',R,S,e3,fun v H1 m1 x1 R1 r1=>?_⟩
 cases r1 with
 | r _=>simp[BT.aK] at e2
 | k _ _=>simp[BT.aK] at e2
 | kl _ _=>simp[BT.aK] at e2
 | c _ _=>simp[BT.aK] at e2
 | x _=>simp[BT.aK] at e2
 | g _ _=>simp[BT.aK] at e2
 | o _=>simp[BT.aK] at e2
 | p r =>
  cases r<;>simp[BT.aK,BT.nR] at e2
  subst e2
  exact ⟨_,rfl,post H1 m1 x1 R1⟩
theorem oK (ha:PE X e (tD X F G a)) (hs:noStar e=true):PA X [e] (tDs X F G (.cons a .nil)) :=
 PA.weak (bO ha iH (af hs)) fun σ H Q q=>by
  obtain ⟨m,s,h,z0,h',R,S,ee,post⟩:=cons_of σ H Q q
  exact ⟨m,s,h,z0,h',R,S,ee,fun v H1 m1 x1 R1 r1=>fW (post v H1 m1 x1 R1 r1)⟩
theorem oM (ha:PE X e (tD X F G a)) (hb:PE X f (tD X F G b)) (hs:noStar e=true) (hs2:noStar f=true):PA X [e,f] (tDs X F G (.cons a (.cons b .nil))) :=
 PA.weak (bO ha (oK hb hs2) (af hs)) cons_of
noncomputable def Ku (sc:Qc) (oe:O3) (o:BT.E):Prop:=∃ x p,o=.glo x/\oe=.Name x p/\av sc x=true/\aA x=true
noncomputable def NJ (sc:Qc):Tq->Prop
 | .e o oe=>r8 o=false\/Ku sc oe o
 | _=>True
theorem CU (h:CQ sc N t):NJ sc t:=by
 cases h with
 | glo hg hn=>exact .inr ⟨_,_,rfl,rfl,hg,hn⟩
 | _=>first | exact .inl rfl | exact Q4
theorem GI (h:CE' sc N o oe):r8 o=false\/Ku sc oe o:=CU h
theorem sMe (O:Ok X F G sc N) (h1:FP m o=true) (h2:name=yu m) (h3:aB oe=true) (h6:(apos.endLine==cpos.line)=true) (h7:es.length < 20) (ho:CE' sc N o oe) (ha:CEs sc N as es) (hO:PE X oe (tD X F G o)) (hA:PA X es (tDs X F G as)) :
 PE X (.Call (.Attribute oe name apos) es [] cpos) (tD X F G (.me m o as)):=by
 subst h2
 cases m with
 | append=>exact jG (sc:=sc) (N:=N) QN PySem.F.slot_list_append PySem.F.type_list_append vU h3 h6 h7 hO ha hA (GF (.inl rfl))
 | pop=>exact jG (sc:=sc) (N:=N) QN PySem.F.slot_list_pop PySem.F.type_list_pop F9 h3 h6 h7 hO ha hA (GF (.inr (.inl rfl)))
 | extend=>exact jG (sc:=sc) (N:=N) QN PySem.F.slot_list_extend PySem.F.type_list_extend vV h3 h6 h7 hO ha hA (GF (.inr (.inr rfl)))
 | sindex=>exact jG (sc:=sc) (N:=N) PySem.F.plainAttrs_str PySem.F.slot_str_index PySem.F.type_str_index vX h3 h6 h7 hO ha hA NH
 | tindex =>
  rcases GI ho with z | ⟨x,p,rfl,rfl,hg,hn⟩
  ·exact Bool.noConfusion (z.symm.trans h1)
  ·exact wC O hg hn h6 h7 ha hA
 | dget=>simp[FP] at h1
 | count=>exact jG (sc:=sc) (N:=N) QN PySem.F.slot_list_count PySem.F.type_list_count (zj O.hu) h3 h6 h7 hO ha hA (Ks (.inl rfl))
 | lindex=>exact jG (sc:=sc) (N:=N) QN PySem.F.slot_list_index PySem.F.type_list_index (wg O.hu) h3 h6 h7 hO ha hA (Ks (.inr rfl))
theorem Kv (pe:PE X (.BoolOp .And (x :: r) p) (tD X F G (.and a b))) (w:tOK (.and a b)=true->PW X (.BoolOp .And (x :: r) p) (tDT X F G (.and a b))):XE F G X (.and a b) (.BoolOp .And (x :: r) p) :=
 ⟨pe,fun ht=>⟨(w ht).pt,fun _ _ _ e=>by cases e;exact w ht⟩⟩
theorem sOr (pe:PE X (.BoolOp .Or (x :: r) p) (tD X F G (.or a b))) (w:tOK (.or a b)=true->PW X (.BoolOp .Or (x :: r) p) (tDT X F G (.or a b))):XE F G X (.or a b) (.BoolOp .Or (x :: r) p) :=
 ⟨pe,fun ht=>⟨(w ht).pt,fun _ _ _ e=>by cases e;exact w ht⟩⟩
theorem kG (h:tOK (.and a b)=true):tOK a=true/\tOK b=true:=by
 have h:(tOK a&&tOK b)=true:=h
 simpa only[OY] using h
theorem oN (h:tOK (.or a b)=true):tOK a=true/\tOK b=true:=by
 have h:(tOK a&&tOK b)=true:=h
 simpa only[OY] using h
noncomputable def MX (F:FT) (G:Str->Option BT.W) (sc:Qc) (N:List Str):Tq->Prop
 | .e e' e=>∀ (X:Cx),Ok X F G sc N->XE F G X e' e
 | .es as es=>∀ (X:Cx),Ok X F G sc N->PA X es (tDs X F G as)
 | .o es' o=>∀ (X:Cx),Ok X F G sc N->XO F G X es' o
 | .c cond ifs=>lI F G sc N cond ifs
 | .i sr sa iter=>∀ (X:Cx),Ok X F G sc N->∀ (tg:O3),qe sr tg=true->PI X tg iter (iD X F G sr sa)
theorem sQ (h:CQ sc N t):MX F G sc N t:=by
 refine @CQ.rec (fun sc N t _=>MX F G sc N t)
  (fun h1 h2 h3 X O=>bC (oB O h1 h2 h3) (fun _ _ _ z=>nomatch z))
  (fun h X O=>bC (Cd h) (fun _ _ _ z=>nomatch z))
  (fun h2 h3 X O=>bC (Ce O h2 h3) (fun _ _ _ z=>nomatch z))
  (fun h _ _ ia ib X O=>bC (PE.weak (D4 (opB h) (ia _ O).1 (ib _ O).1) (ly fun s h=>by simp only[BT.ev])) (fun _ _ _ z=>nomatch z))
  (fun _ ia X O=>bC (PE.weak (D5 xF (ia _ O).1) Gi) (fun _ _ _ z=>nomatch z))
  (fun _ ia X O=>⟨PE.weak (EM (ia _ O).1) Cj,fun ht=>⟨PT.weak (EL ((ia _ O).2 ht).1) Ci,fun _ _ _ e=>nomatch e⟩⟩)
  (fun _ _ ia ib X O=>Kv (PE.weak (xq (ia _ O).1 (xo (ib _ O).1)) uw) fun ht=>PW.weak (xm ((ia _ O).2 (kG ht).1).1 (Ba ((ib _ O).2 (kG ht).2).1)) ux)
  (fun _ _ ia ib X O=>Kv (PE.weak (xq (ia _ O).1 (ib _ O).1) uw) fun ht=>PW.weak (xm ((ia _ O).2 (kG ht).1).1 (((ib _ O).2 (kG ht).2).2 _ _ _ rfl)) ux)
  (fun _ _ ia ib X O=>sOr (PE.weak (D0 (ia _ O).1 (xo (ib _ O).1)) yT) fun ht=>PW.weak (DX ((ia _ O).2 (oN ht).1).1 (EK ((ib _ O).2 (oN ht).2).1)) yU)
  (fun _ _ ia ib X O=>sOr (PE.weak (D0 (ia _ O).1 (ib _ O).1) yT) fun ht=>PW.weak (DX ((ia _ O).2 (oN ht).1).1 (((ib _ O).2 (oN ht).2).2 _ _ _ rfl)) yU)
  (fun h _ _ hm ia ib X O=>⟨PE.weak (Bk (opC O h) (ia _ O).1 (ib _ O).1 hm) (ly fun s h=>by simp only[BT.ev]),fun _=>⟨PT.weak (Bl (opC O h) (ia _ O).1 (ib _ O).1 hm) (qk (ly fun s h=>by simp only[BT.ev])),fun _ _ _ e=>nomatch e⟩⟩)
  (fun h h' _ _ _ hm ia ib ic X O=>⟨PE.weak (xJ (opC O h) (opC O h') (ia _ O).1 (ib _ O).1 (ic _ O).1 hm) qm,fun _=>⟨PT.weak (xK (opC O h) (opC O h') (ia _ O).1 (ib _ O).1 (ic _ O).1 hm) (qk qm),fun _ _ _ e=>nomatch e⟩⟩)
  (fun h _ _ _ ic ia ib X O=>⟨PE.weak (xr ((ic _ O).2 h).1 (ia _ O).1 (ib _ O).1) Gg,fun ht=>nomatch ht⟩)
  (fun _ ia X O=>⟨PE.weak (E8 (ia _ O)) Gm,fun ht=>nomatch ht⟩)
  (fun _ ia X O=>⟨PE.weak (E9 (ia _ O)) Gn,fun ht=>nomatch ht⟩)
  (fun _ _ hs ia ii X O=>bC (PE.weak (Je F8 (ia _ O).1 (ii _ O).1 (yP hs)) (ly fun s h=>by simp only[BT.ev])) (fun _ _ _ z=>nomatch z))
  (fun _ _ _ ia il iu X O=>bC (by
   obtain ⟨tl,hl1,hl2⟩:=il _ O
   obtain ⟨tu,hu1,hu2⟩:=iu _ O
   exact PE.weak (xV osl (ia _ O).1 hl1 hu1) (Gj hl2 hu2)) (fun _ _ _ z=>nomatch z))
  (fun hg hn ha ia X O=>bC (yV O hg hn ha (ia _ O)) (fun _ _ _ z=>nomatch z))
  (fun hu hg hg2 hs _ ia X O=>bC (zG O hu hg hg2 hs (oK (ia _ O).1 hs)) (fun _ _ _ z=>nomatch z))
  (fun hu hb hg hs _ ia X O=>bC (Gk O hu hb hg (by simp[ak,hs]) (oK (ia _ O).1 hs)) (fun _ _ _ z=>nomatch z))
  (fun hb hg hg2 hs _ ia X O=>bC (yW O hb hg hg2 hs (ia _ O).1) (fun _ _ _ z=>nomatch z))
  (fun hx hn hg hg2 hs _ ia X O=>bC (Cv O hx hn hg hg2 hs (ia _ O).1) (fun _ _ _ z=>nomatch z))
  (fun h1 h2 h3 h6 h7 ho ha io ia X O=>bC (sMe O h1 h2 h3 h6 h7 ho ha (io _ O).1 (ia _ O)) (fun _ _ _ z=>nomatch z))
  (fun hu hk ht hz hs _ _ _ ii ic ie X O=>⟨CM O hu hk ht hs (ii _ O _ hz) ic fun X' O'=>(ie _ O').1,fun ht=>nomatch ht⟩)
  (fun hb hf _ ia X O=>bC (Cn (sc:=sc) (N:=N) hb hf (ia _ O).1) (fun _ _ _ z=>nomatch z))
  (fun h3 h6 h7 _ ha io ia X O=>bC (yY O h3 h6 h7 (io _ O).1 ha (ia _ O)) (fun _ _ _ z=>nomatch z))
  (fun hk _ ia X O=>bC (Co hk (ia _ O).1) (fun _ _ _ z=>nomatch z))
  (fun hu hb hg hs1 hs2 _ _ ia ib X O=>bC (Cq O hu hb hg (by simp[ak,hs1,hs2]) (oM (ia _ O).1 (ib _ O).1 hs1 hs2)) (fun _ _ _ z=>nomatch z))
  (fun hg hn ha ia X O=>bC (yZ O hg hn ha (ia _ O)) (fun _ _ _ z=>nomatch z))
  (fun h1 h2 h3 ha ia X O=>bC (zf O h1 h2 h3 ha (ia _ O)) (fun _ _ _ z=>nomatch z))
  (fun X O=>bC CD (fun _ _ _ z=>nomatch z))
  (fun hu hg h3 h6 _ io X O=>bC (GC O hu hg h3 h6 (io _ O).1) (fun _ _ _ z=>nomatch z))
  (fun _ _ ia ib X O=>bC (PE.weak (D4 FY (ia _ O).1 (ib _ O).1) (ly fun s h=>by simp only[BT.ev])) (fun _ _ _ z=>nomatch z))
  (fun hu hg hg2 hs hs2 _ _ ia ib X O=>bC (wm O hu hg hg2 hs hs2 (oM (ia _ O).1 (ib _ O).1 hs hs2)) (fun _ _ _ z=>nomatch z))
  (fun hu hg hs _ _ ia id X O=>bC (zB O hu hg hs (ia _ O).1 (id _ O).1) (fun _ _ _ z=>nomatch z))
  (fun hu hg hg2 hs hs2 hs3 _ _ _ ia ib ic X O=>bC (wo O hu hg hg2 hs hs2 hs3 (PA.weak (bO (ia _ O).1 (oM (ib _ O).1 (ic _ O).1 hs2 hs3) (af hs)) cons_of)) (fun _ _ _ z=>nomatch z))
  (fun X O=>PA.weak iH fun σ H Q q=>fW q)
  (fun hs _ _ ia ir X O=>PA.weak (bO (ia _ O).1 (ir _ O) (af hs)) cons_of)
  (fun X O=>GG)
  (fun _ ia X O=>GH (ia _ O).1)
  (.inl ⟨rfl,rfl⟩)
  (fun ht _ ia=>.inr ⟨_,_,rfl,rfl,fun X' O'=>((ia _ O').2 ht).1⟩)
  (fun hg hs _ ia X O _ _=>zw O hg hs (oK (ia _ O).1 hs))
  (fun hg hs hs2 _ _ ia ib X O _ _=>zx O hg hs hs2 (oM (ia _ O).1 (ib _ O).1 hs hs2))
  (fun hg hs _ ia X O _ _=>CB O hg hs (ia _ O).1)
  (fun _ ia X O _ _=>CA (ia _ O).1)
  sc N t h
theorem sE (h:CE' sc N e' e) (O:Ok X F G sc N):PE X e (tD X F G e'):=(sQ h X O).1
theorem sT (h:CE' sc N e' e) (O:Ok X F G sc N) (ht:tOK e'=true):PT X e (tDT X F G e')/\∀ op vs p,e=.BoolOp op vs p->PW X e (tDT X F G e'):=(sQ h X O).2 ht
theorem sCC {cond:BT.Es} (h:CC sc N cond ifs):lI F G sc N cond ifs:=sQ h
theorem sCI (h:CI sc N sr sa iter) (O:Ok X F G sc N) (hz:qe sr tg=true):PI X tg iter (iD X F G sr sa):=sQ h X O tg hz
end
noncomputable def mk3 (H:Hp) (P c f:O9) (t c0 f0:HO):Hp:=upd (upd (upd H P t) c c0) f f0
theorem cg (hP:H P=some (.tbl ps)) (hc:H c=none) (hf:H f=none) (e:H a=some u) (n:yC u=false):mk3 H P c f t c0 f0 a=some u:=by
 unfold mk3
 rw[au (aD e hf),au (aD e hc),au (fun z=>by subst z;rw[hP] at e;cases e;cases n)];exact e
theorem sF (l:List Value) (h:TriplesOk l) (e:Sg pos (l++[Sd a,Sd b,v0])=some v):Sg pos l=some v\/v=v0:=by
 fun_induction TriplesOk l with
 | case1 =>
  simp only[Rk,Sd,Sg] at e
  split at e
  ·cases e;exact .inr rfl
  ·cases e
 | case2 a' t b' u x rest ih =>
  simp only[List.cons_append,Sg] at e ⊢
  split at e
  ·rename_i hc;rw[if_pos hc];exact .inl e
  ·rename_i hc;rw[if_neg hc];exact ih h e
 | case3 l h1 h2=>exact h.elim
structure Made (X:Cx) (pins:List (O9×Obj)) (σ:L2.St) (m:List O9) (H:Hp) (h:BT.HH) (q:Str) (pa:Uk) (be:O3) (sc:Qc) (cl:List (Str×O9)) (f:O9) (H3:Hp) (s3:O4):Prop where
 inv:Inv X pins σ H3 s3
 ext:Ext m H m H3
 rh:RH X.K m H3 h
 ex:∃ pm ctv c' oc os t,Tr m H3 f (Sx "<lambda>" q pa be sc cl pm c' ctv)/\Tr m H3 c' oc/\oc.data=.fields os/\os[1]?=some (.str q t)
theorem CV (I:Inv X pins σ H s) (R:RH X.K m H h) (lx:LX X x) (tc:Qj X.K x=some (c,P)) (hP:H P=some (.tbl ps))
 (ht:TriplesOk ps.toList) (hall:∀ pos v,Sg pos ps.toList=some v->∃ c' oc os t,v=.ref c'/\H c'=some (.frz oc (.own 0))/\oc.data=.fields os/\os[1]?=some (.str (vM x) t))
 (uniq:∀ y∈BT.dG,∀ c2,Qj X.K y=some (c2,P)->y=x)
 (hn:Sg pos ps.toList=none) {f:O9} (hfo:fo.isFreed=false) {os:Array Value} (hx:Heap.ExtBut P s.heap h') (hge:s.heap.objs.size<=c') (hlt:c' < h'.objs.size) (ho:h'.get? c'=some oc) (hd:oc.data=.fields os) (hq:os[1]?=some (.str (vM x) t))
 (hT:h'.get? P=some (Q7 (ps++#[Sd pos.line,Sd pos.col,.ref c']))) :
 Inv X pins σ (mk3 H P c' h'.objs.size (.tbl (ps++#[Sd pos.line,Sd pos.col,.ref c'])) (.frz oc (.own 0)) (.frz fo (.own 0))) { s with heap:=h'.push fo,toks:=tk }/\Ext m H m (mk3 H P c' h'.objs.size (.tbl (ps++#[Sd pos.line,Sd pos.col,.ref c'])) (.frz oc (.own 0)) (.frz fo (.own 0))) ∧
 RH X.K m (mk3 H P c' h'.objs.size (.tbl (ps++#[Sd pos.line,Sd pos.col,.ref c'])) (.frz oc (.own 0)) (.frz fo (.own 0))) h:=by
 have hPs:s.heap.get? P=some (Q7 ps):=I.hok _ _ hP
 have szP:P < s.heap.objs.size:=O7 hPs
 have cP:c'≠P:=fun z=>by rw[z] at hge;exact absurd szP (Nat.not_lt.mpr hge)
 have fP:h'.objs.size≠P:=fun z=>by rw[← z] at szP;exact absurd (Pw szP hge) (Nat.not_lt.mpr (QE hlt))
 have fc:h'.objs.size≠c':=R0 hlt
 have fr:∀ a,s.heap.objs.size<=a->H a=none:=fun a ha=>I.hok.fresh ha
 have hc:=fr c' hge
 have hf:=fr h'.objs.size (QE (TF hge hlt))
 have at1:∀ t c0 f0,mk3 H P c' h'.objs.size t c0 f0 h'.objs.size=some f0:=fun _ _ _=>aJ
 have at2:∀ t c0 f0,mk3 H P c' h'.objs.size t c0 f0 c'=some c0:=fun _ _ _=>by unfold mk3;rw[au (Qp fc),aJ]
 have at3:∀ t c0 f0,mk3 H P c' h'.objs.size t c0 f0 P=some t:=fun _ _ _=>by unfold mk3;rw[au (Qp fP),au (Qp cP),aJ]
 have at4:∀ t c0 f0 b,b≠P->b≠c'->b≠h'.objs.size->mk3 H P c' h'.objs.size t c0 f0 b=H b:=fun _ _ _ b n1 n2 n3=>by unfold mk3;rw[au n3,au n2,au n1]
 have nP:∀ b,H b=none->b≠P:=fun b e z=>by rw[z,hP] at e;cases e
 have lt:∀ b o,s.heap.get? b=some o->b≠c'/\b≠h'.objs.size:=fun b o e=>by
  have l:=O7 e
  exact ⟨fun z=>by rw[z] at l;exact absurd l (Nat.not_lt.mpr hge),fun z=>by rw[z] at l;exact absurd (Pw l hge) (Nat.not_lt.mpr (QE hlt))⟩
 have kp:∀ b o,b≠P->s.heap.get? b=some o->(h'.push fo).get? b=some o:=fun b o n e=>OZ _ (hx b o n e)
 refine ⟨I.un ⟨fun b o e n _ _=>kp b o (nP b n) e,fun b o e n _ _=>⟨o.slots,kp b o (nP b n) e⟩,fun b o e n _=>?_,fun b o e _=>?_,fun b xs e=>cg hP hc hf e rfl,fun b o u e=>cg hP hc hf e rfl,fun b qs e=>?_⟩ fun b u e=>?_,?_,?_⟩
 ·rw[at4 _ _ _ b (nP b n) (lt b o e).1 (lt b o e).2];exact n
 ·by_cases z:b=P
  ·exact ⟨_,by rw[z];exact OZ _ hT⟩
  ·exact ⟨o,kp b o z e⟩
 ·by_cases z:b=P
  ·subst z;rw[hP] at e;cases e;exact ⟨_,at3 _ _ _⟩
  ·exact ⟨#[],by rw[at4 _ _ _ b z (aD e hc) (aD e hf),e];simp⟩
 ·by_cases z1:b=h'.objs.size
  ·subst z1;rw[at1] at e;cases e;exact ⟨Pf _ hfo,_,Pf _ hfo⟩
  by_cases z2:b=c'
  ·subst z2;rw[at2] at e;cases e;exact ⟨OZ _ ho,_,OZ _ ho⟩
  by_cases z3:b=P
  ·subst z3;rw[at3] at e;cases e;exact OZ _ hT
  rw[at4 _ _ _ b z3 z2 z1] at e
  refine (I.hok b u e).stay (fun d o hd q=>kp d o ?_ q) (fun d q=>cg hP hc hf q rfl) fun d xs q=>cg hP hc hf q rfl
  rcases hd with rfl | hd
  ·exact z3
  ·rintro rfl;rw[hP] at hd;cases hd
 ·refine ⟨⟨[],by simp,by simp⟩,fun a o e n t=>cg hP hc hf e t,fun a e=>?_⟩
  by_cases z1:a=h'.objs.size
  ·rw[z1];exact hf
  by_cases z2:a=c'
  ·rw[z2];exact hc
  by_cases z3:a=P
  ·subst z3;rw[at3] at e;cases e
  rw[at4 _ _ _ a z3 z2 z1] at e;exact e
 ·have sq:lA H (mk3 H P c' h'.objs.size (.tbl (ps++#[Sd pos.line,Sd pos.col,.ref c'])) (.frz oc (.own 0)) (.frz fo (.own 0))) :=
   ⟨fun a vs r=>r.elim (fun z=>.inl (cg hP hc hf z rfl)) fun ⟨o,z⟩=>.inr ⟨o,cg hP hc hf z rfl⟩,fun a vs r=>r.elim (fun z=>.inl (cg hP hc hf z rfl)) fun ⟨o,z⟩=>.inr ⟨o,cg hP hc hf z rfl⟩⟩
  refine R.tr sq (fun a ha=>?_) fun y hy c2 P2 e2=>?_
  ·obtain ⟨o,e,z⟩:=R.mu ha
   rw[e];exact cg hP hc hf e (by cases o<;>first | rfl | cases z)
  ·by_cases z:P2=P
   ·subst z
    obtain rfl:=uniq y hy c2 e2
    refine ⟨_,at3 _ _ _,?_,fun pos' v e=>?_⟩
    ·have:=TriplesOk_snoc pos.line pos.col (.ref c') ps.toList ht
     simpa using this
    ·have e':Sg pos' (ps.toList++[Sd pos.line,Sd pos.col,.ref c'])=some v:=by simpa using e
     rcases sF _ ht e' with q | q
     ·obtain ⟨c3,oc3,os3,t3,q1,q2,q3⟩:=hall pos' v q
      exact ⟨c3,oc3,os3,t3,q1,cg hP hc hf q2 rfl,q3⟩
     ·subst q
      exact ⟨c',oc,os,t,rfl,at2 _ _ _,hd,hq⟩
   ·obtain ⟨qs,e3,e4,e5⟩:=R.tb y hy c2 P2 e2
    refine ⟨qs,by rw[at4 _ _ _ P2 z (aD e3 hc) (aD e3 hf)];exact e3,e4,fun pos' v e=>?_⟩
    obtain ⟨c3,oc3,os3,t3,q1,q2,q3⟩:=e5 pos' v e
    exact ⟨c3,oc3,os3,t3,q1,cg hP hc hf q2 rfl,q3⟩
theorem zH (I:Inv X pins σ H s) (R:RH X.K m H h) (lx:LX X x) (hp:LPa pa ps)
 (hfree:∀ y∈scope.names,y.2=.free->X.env.scope.names.lookup y.1=some .cell) {E:Value->O4->Prop}
 (hQ:∀ f H3 s3,Made X pins σ m H h (vM x) pa be scope (BC.cy X.env.cells scope.names []) f H3 s3->Q (.ref f) s3):wpAny (Pp X.prog X.w) X.A (eval (.Lambda pa be scope lp) X.env) Q E s:=by
 obtain ⟨c,P,tc,hcode,chd,uniq⟩:=lx.ex
 obtain ⟨ts,hP,ht,hall⟩:=R.tb x lx.mem c P tc
 have hPs:s.heap.get? P=some (Q7 ts):=I.hok _ _ hP
 have hg:=I.ok.mod.glob.keeps I.bk
 obtain ⟨bm,ob,b1,b2,b3,b4,b5,b6⟩:=lx.bm
 have b3':=I.bk _ _ b3
 have hgP:Pd≠P:=fun q=>by
  obtain ⟨o,es,ep,e,hd,_⟩:=hg
  rw[q,hPs] at e;cases e;cases hd
 have hbP:bm≠P:=fun q=>by
  rw[q,hPs] at b3';cases b3';cases b4
 have hbG:bm≠Pd:=fun q=>by
  obtain ⟨o,es,ep,e,hd,_⟩:=hg
  rw[q,e] at b3';cases b3';rw[hd] at b6;cases b6
 have hcl:closureFor scope X.env=pure (BC.cy X.env.cells scope.names []):=BC.lF fun y hy e=>I.ok.has y.1 (.inl (hfree y hy e))
 have hB:s.heap.BuiltinsAt X.mg P:=⟨bm,ob,b1,b2,hbG,hbP,b3',b4,b5,b6⟩
 refine PySem.W.kla_eval (by cases hp<;>rfl) ?_
 rw[lx.ql]
 cases hq:Sg lp ts.toList with
 | none =>
  refine PySem.W.kla_makeFunction (mg:=X.mg) hcl I.ok.glob hg hcode (chd.keeps I.bk) hPs ht hq hgP hB fun c' ctv h' tk hx hge hlt hrec htb=>?_
  obtain ⟨c2,oc,vs,t,e2,hoc,hd,hv⟩:=hrec
  cases e2
  obtain ⟨z1,z2,z3⟩:=CV (tk:=tk) (fo:=Sx "<lambda>" (vM x) pa be scope (BC.cy X.env.cells scope.names []) ((X.mg "__name__").getD .none) c' ctv) I R lx tc hP ht hall uniq (f:=h'.objs.size) hq rfl hx hge hlt hoc hd hv htb
  have nf:h'.objs.size≠c':=R0 hlt
  have e1:=I.hok.fresh (QE (TF hge hlt))
  have e2:=I.hok.fresh hge
  exact hQ _ _ _ ⟨z1,z2,z3,_,ctv,c',oc,vs,t,⟨aJ,R.c9 e1⟩,⟨by unfold mk3;rw[au (Qp nf),aJ],R.c9 e2⟩,hd,hv⟩
 | some cv =>
  obtain ⟨c',oc,os,t,rfl,q2,q3,q4⟩:=hall _ _ hq
  refine PySem.W.kla_makeFunctionHit (mg:=X.mg) hcl I.ok.glob hg hcode (chd.keeps I.bk) hPs ht hq hB fun ctv h' tk hk hsz=>?_
  have e1:=I.hok.fresh hsz
  refine hQ _ _ _ ⟨I.laid (o:=.frz (Sx "<lambda>" (vM x) pa be scope (BC.cy X.env.cells scope.names []) ((X.mg "__name__").getD .none) c' ctv) (.own 0)) (t':=tk) (fun b u e=>OZ _ (hk b u e)) hsz ⟨Pf _ rfl,_,Pf _ rfl⟩,fR e1,R.new e1,_,ctv,c',oc,os,t,⟨aJ,R.c9 e1⟩,⟨yD e1 _ _ q2,R.nin q2 rfl⟩,q3,q4⟩
end BS
end
section
namespace BS
open PySem PySem.Spec PyProof.Rows L2
open Classical in
noncomputable def dB (cl:List (Str×O9)) (h:Heap) (H:Hp):Hp:=fun b=>if ∃ x,cl.lookup x=some b then some (.frz ((h.get? b).getD default) (.own 0)) else H b
section
theorem fX (e:cl.lookup x=some b) (g:h.get? b=some o):dB cl h H b=some (.frz o (.own 0)):=by
 unfold dB;rw[if_pos ⟨x,e⟩,g];rfl
theorem dh (e:¬ ∃ x,cl.lookup x=some b):dB cl h H b=H b:=if_neg e
theorem CW (N:∀ x c,cl.lookup x=some c->H c=none):Le H (dB cl h H):=fun a u e=>by
 rw[dh (fun ⟨x,q⟩=>by rw[N x a q] at e;cases e)];exact e
end
theorem kH:∀ {names:List (Str×Rj)}{acc:List (Str×O9)},(BC.cy cells names acc).lookup y=some d->acc.lookup y=some d\/(y,P6)∈names
 | [],acc,e=>.inl e
 | (n,k) :: r,acc,e=>by
  rw[BC.cy] at e
  split at e
  ·rename_i hk
   have hk:k=.free:=eq_of_beq hk
   split at e
   ·rename_i a ea
    rcases kH e with q | q
    ·rw[Qg] at q
     split at q
     ·rename_i hy
      have:y=n:=by simpa using hy
      subst this;subst hk
      exact .inr Pq
     ·exact .inl q
    ·exact .inr (Pc _ q)
   ·rcases kH e with q | q
    ·exact .inl q
    ·exact .inr (Pc _ q)
  ·rcases kH e with q | q
   ·exact .inl q
   ·exact .inr (Pc _ q)
theorem GJ (e:(BC.cy cells names []).lookup y=some d):(y,P6)∈names:=by
 rcases kH e with q | q
 ·simp at q
 ·exact q
theorem RWs.le {K:OX} (q:Le H H') (r:RWs P w K m H vs ws):RWs P w K m H' vs ws:=by
 induction r with
 | nil=>exact .nil
 | cons r t ih=>exact .cons (r.le q) ih
section
variable {F:FT}{G:Str->Option BT.W}
theorem GK {K:OX} (r:RW P w K m H v x) (e:BT.pW x=some cp):RA K m H v cp.w:=by
 cases r with
 | p r=>cases e;exact .p r
 | o h=>cases e;exact .o h
 | r h=>cases e
 | k _ _=>cases e
 | kl _ _=>cases e
 | c _ _=>cases e
 | x _=>cases e
 | g _ _=>cases e
theorem qu (I:Inv X pins σ H s) (R:RH X.K m H g) (hsc:X.env.scope=sc) (hN:X.N=N) (S:RS X.prog X.w X.K m H σ sl)
 (hsub:∀ x c,cl.lookup x=some c->X.env.cells.lookup x=some c):∀ (fv:List (Nat×Str)) (cs:List BT.Cp),r9 sc N fv=true->(∀ q∈fv,∃ c,cl.lookup q.2=some c)->BT.caps sl fv=some cs->∃ cvs,gq m (dB cl s.heap H) cl (fv.map (·.2)) cvs/\RCs X.K m H cvs cs
 | [],cs,_,_,e=>by cases e;exact ⟨[],.nil,.nil⟩
 | q :: r,cs,hv,hc,e=>by
  simp only[r9,UI,OY] at hv
  rw[BT.vK] at e
  split at e
  ·rename_i w g1
   obtain ⟨cp,e1,e2⟩:=Option.bind_eq_some_iff.mp e
   obtain ⟨cs',e3,rfl⟩:=az e2
   obtain ⟨cvs,c1,c2⟩:=qu I R hsc hN S hsub r cs' hv.2 (fun q hq=>hc q (Pc _ hq)) e3
   obtain ⟨v,s1,rv⟩:=S.get _ _ g1
   obtain ⟨c,hcc⟩:=hc q Pq
   have hce:=hsub _ _ hcc
   obtain ⟨mm,hn,hl⟩:=I.loc
   have kc:X.env.scope.names.lookup q.2=some .cell:=by rw[hsc];exact eq_of_beq hv.1.2
   obtain ⟨u,ru,lk⟩:=hl q.1 q.2 v (by rw[hN];exact eq_of_beq hv.1.1) s1 (.inr (.inl kc))
   rcases lk with ⟨k,_⟩ | ⟨k,c',ec,o,ho,hd⟩
   ·have:X.env.scope.names.lookup q.2=some .local:=k
    rw[kc] at this;cases this
   ·rw[hce] at ec
    cases ec
    exact ⟨v :: cvs,.cons hcc ⟨fX hcc ho,R.c9 (I.freeC _ _ hce)⟩ hd ru c1,.cons (GK rv e1) c2⟩
  ·cases e
theorem wD (e:BT.rX F m ea L ocs x h=some r) :
 ∃ n c fs ws g cs,x=.o n/\BT.oat h n=some (c,fs)/\(BT.aN m fs).isNone=true/\ea h=some (ws,g)/\ocs=some cs/\F (.m c m) (.o n :: (ws++[.c (.l L) cs])) g=some r/\BT.noC [r.1]=true:=by
 cases x with
 | o n =>
  rw[BT.yi] at e
  cases g:BT.oat h n with
  | none=>rw[g] at e;cases e
  | some q =>
   obtain ⟨c,fs⟩:=q
   rw[g] at e
   simp only at e
   split at e
   ·rename_i c1
    obtain ⟨ws,g2,e1,e2⟩:=ai e
    cases ocs with
    | none=>cases e2
    | some cs =>
     rw[BT.vL] at e2
     obtain ⟨z,h2,e3,e4⟩:=ai e2
     refine ⟨n,c,fs,ws,g2,cs,rfl,g,c1,e1,rfl,?_⟩
     cases z with
     | c _ _=>cases e4
     | x _=>cases e4
     | p _=>cases e4;exact ⟨e3,rfl⟩
     | r _=>cases e4;exact ⟨e3,rfl⟩
     | k _=>cases e4
     | o _=>cases e4;exact ⟨e3,rfl⟩
   ·cases e
 | p d=>cases e
 | r n=>cases e
 | k q=>cases e
 | c _ _=>cases e
 | x _=>cases e
noncomputable def zI (X:Cx) (F:FT) (G:Str->Option BT.W) (as:BT.Es) (args:List O3) (lam:O3):Prop :=
 ∀ (pos:Pos) (pins:List (O9×Obj)) (s:O4) (σ:L2.St) (H:Hp) (m:List O9) (sl:BT.Sl) (h:BT.HH) (ws:List BT.W) (g:BT.HH) (Q:List Value->O4->Prop),Inv X pins σ H s->RH X.K m H h->RS X.prog X.w X.K m H σ sl->BT.evs F G as sl h=some (ws,g) →
  (∀ vs us H1 s1 m1,Inv X pins σ H1 s1->ao vs us->Ext m H m1 H1->RH X.K m1 H1 g->RWs X.prog X.w X.K m1 H1 vs ws->wpAny (Pp X.prog X.w) X.A (eval lam X.env) (fun u s2=>Q (us++[u]) s2) X.xe s1) →
  wpAny (Pp X.prog X.w) X.A (RG (Qx pos (Pu args X.env))) Q X.xe s
theorem Eo:zI X F G .nil [.Lambda pa be scope lp] (.Lambda pa be scope lp):=by
 intro pos pins s σ H m sl h ws g Q I R S e k
 simp only[BT.evs] at e
 cases e
 show wpAny _ _ (RG ((false,eval (.Lambda pa be scope lp) X.env) :: Qx pos (Pu [] X.env))) _ _ s
 exact PU (thn (k [] [] H s m I .nil (.refl _ _) R .nil) fun u s2 q=>Qa q)
theorem Ep (hs:noStar e=true) (ha:PE X e (tD X F G a)):zI X F G (.cons a .nil) [e,.Lambda pa be scope lp] (.Lambda pa be scope lp):=by
 intro pos pins s σ H m sl h ws g Q I R S ee k
 simp only[BT.evs] at ee
 obtain ⟨z,g1,e1,e2⟩:=ai ee
 simp only[BT.jR,BT.bX,BT.iJ] at e2
 cases e2
 rw[af hs]
 show wpAny _ _ (RG ((false,eval e X.env) :: Qx pos (Pu [.Lambda pa be scope lp] X.env))) _ _ s
 refine PU (thn (ha pins s σ H (fun v H1=>∃ m1,Ext m H m1 H1/\RH X.K m1 H1 g/\RW X.prog X.w X.K m1 H1 v z) I ⟨m,sl,h,z,g,R,S,e1,fun v H1 m1 x1 R1 r1=>⟨m1,x1,R1,r1⟩⟩) fun u s1 zq=>?_)
 obtain ⟨v,H1,I1,r1,m1,x1,R1,w1⟩:=zq
 show wpAny _ _ (RG ((false,eval (.Lambda pa be scope lp) X.env) :: Qx pos (Pu [] X.env))) _ _ s1
 exact PU (thn (k [v] [u] H1 s1 m1 I1 (.cons r1 .nil) x1 R1 (.cons w1 .nil)) fun u s2 q=>Qa q)
inductive zJ (X:Cx) (pins:List (O9×Obj)) (σ:L2.St) (m0:List O9) (H:Hp) (n:Nat) (ws:List BT.W) (g:BT.HH) (L:Nat) (cs:List BT.Cp) (a f:O9) (us:List Value) (vs:List V) (m2:List O9) (H3:Hp) (s3:O4) (cl:List (Str×O9)):Prop where
 | mk (I3:Inv X pins σ H3 s3) (hnone:∀ y d,cl.lookup y=some d->H3 d=none) (hobj:∀ y d,cl.lookup y=some d->∃ o u,s3.heap.get? d=some o/\o.data=.cell u) (hfrm:∀ y d,cl.lookup y=some d->d∉frs X.stack) (le:Le H3 (dB cl s3.heap H3)) (R4:RH X.K m2 (dB cl s3.heap H3) g)
  (w4:RWs X.prog X.w X.K m2 (dB cl s3.heap H3) (.ref a :: (vs++[.ref f])) (.o n :: (ws++[.c (.l L) cs]))) (e04:kP X.prog X.w X.K X.mg X.base X.A X.stack s3 (dB cl s3.heap H3)) (rv4:ao (V.ref a :: (vs++[.ref f])) (Px a :: (us++[.ref f]))) (x:Ext m0 H m2 H3) (rh:RH X.K m2 H3 g):zJ X pins σ m0 H n ws g L cs a f us vs m2 H3 s3 cl
theorem nq (O:Ok X F G sc N) (hf:∀ x,X.fn x=true) {rest:List O3}
 (hl:BT.mD L=some ⟨ns,ns,.ret bt⟩) (hp:LPa pa ps) (hn:ns=ps++fv.map (·.2)) (hk:jU ps (fv.map (·.2)) scope=true) (hv:r9 sc N fv=true) (ht:N.contains (BT.bU (BT.qc L))=true) (hc:CE' scope ns bt be) (h3:aB oe=true) (h6:(apos.endLine==cpos.line)=true)
 (hO:PE X oe (tD X F G o)) (hst:ak (e0 :: rest)=true) (hlen:(e0 :: rest).length < 20) (hS:zI X F G as (e0 :: rest) (.Lambda pa be scope lp))
 (I:Inv X pins σ H s) (R:RH X.K m0 H h) (S:RS X.prog X.w X.K m0 H σ s') (hC:iB X.K c C) (hM:nL X.K C m ga)
 (e1:BT.ev F G o s' h=some (.o n,h1)) (e3:BT.oat h1 n=some (c,fs)) (e4:(BT.aN m fs).isNone=true) (e5:BT.evs F G as s' h1=some (ws,g)) (e6:BT.caps s' fv=some cs)
 (kk:∀ (a f:O9) (us:List Value) (vs:List V) (m2:List O9) (H3:Hp) (s3:O4) (cl:List (Str×O9)),zJ X pins σ m0 H n ws g L cs a f us vs m2 H3 s3 cl->wpAny (Pp X.prog X.w) X.A (call (.ref ga) (Px a :: (us++[Px f]))) Q X.xe s3) :
 wpAny (Pp X.prog X.w) X.A (eval (.Call (.Attribute oe m apos) (e0 :: rest) [] cpos) X.env) Q X.xe s:=by
 have lx:=O.lamx hf _ ht
 have lf:=Kn hk
 subst hn
 refine Rn (thn (hO pins s σ H (fun v H1=>∃ m1,Ext m0 H m1 H1/\RH X.K m1 H1 h1/\RW X.prog X.w X.K m1 H1 v (.o n)) I ⟨m0,s',h,_,h1,R,S,e1,fun v H1 m1 x1 R1 r1=>⟨m1,x1,R1,r1⟩⟩) fun u s1 ⟨v,H1,I1,rv,m1,x1,R1,w1⟩=>?_) (fH h3 hst hlen h6)
 cases w1 with
 | @o a _ ha =>
 obtain rfl:u=.ref a:=rv
 obtain ⟨C',dx,vs0,q1,q2,q3⟩:=R1.k8 _ _ _ _ ha e3
 cases q2.cn.inj hC.cn
 refine fO I1 q1 hC.cls hM (q3.none e4) ?_
 have hst':=hst
 simp only[ak,OY] at hst'
 refine QW (first:=[.ref a]) (h₀:=X.base) I.ok.mod.kin hM.kp (hS cpos pins s1 σ H1 m1 s' h1 ws g _ I1 R1 (S.ext x1) e5 fun vs us H2 s2 m2 I2 rvs x2 R2 w2=>?_) (af hst'.1) (aC hst'.2)
 have hfree:∀ y∈scope.names,y.2=.free->X.env.scope.names.lookup y.1=some .cell:=fun y hy e=>by
  have hm:=lf.all y hy e
  obtain ⟨p,hp1,hp2⟩:=List.mem_map.mp hm
  have:=List.all_eq_true.mp hv p hp1
  simp only[OY] at this
  rw[O.hsc,← hp2];exact eq_of_beq this.2
 refine zH I2 R2 lx hp hfree fun f H3 s3 M=>?_
 have I3:=M.inv
 have hsub:∀ y d,(BC.cy X.env.cells scope.names []).lookup y=some d->X.env.cells.lookup y=some d:=fun y d e=>BC.lG (fun _ _ z=>by simp at z) y d e
 have hfr:∀ y d,(BC.cy X.env.cells scope.names []).lookup y=some d->y∈fv.map (·.2):=fun y d e=>lf.all (y,.free) (GJ e) rfl
 have hhas:∀ p∈fv,∃ d,(BC.cy X.env.cells scope.names []).lookup p.2=some d:=fun p hp'=>by
  have hm:=(lf.fre p.2 (Vg hp')).2
  exact BC.lH hm (I3.ok.has p.2 (.inl (hfree _ hm rfl)))
 generalize BC.cy X.env.cells scope.names []=cl at M hsub hfr hhas
 have hcel:∀ y d,cl.lookup y=some d->X.s₀.heap.objs.size<=d:=fun y d e=>I3.ok.cab y d (hf y) (hsub y d e)
 have hnone:∀ y d,cl.lookup y=some d->H3 d=none:=fun y d e=>I3.freeC y d (hsub y d e)
 have hobj:∀ y d,cl.lookup y=some d->∃ o u,s3.heap.get? d=some o/\o.data=.cell u:=fun y d e=>by
  obtain ⟨u,ob,g1,g2⟩:=I3.cell y d (hsub y d e)
  exact ⟨ob,u,g1,g2⟩
 have hfrm:∀ y d,cl.lookup y=some d->d∉frs X.stack:=fun y d e hb=>by
  rcases List.mem_cons.mp (I3.iG d hb) with q | q
  ·exact I3.cne y d (hsub y d e) q
  ·obtain ⟨_,ob,g1,_⟩:=I3.ok.fL.mem q
   exact absurd (O7 g1) (Nat.not_lt.mpr (hcel y d e))
 obtain ⟨cvs,cp,rc⟩:=qu I3 M.rh O.hsc O.hN ((S.ext x1).ext (x2.trans M.ext)) hsub fv cs hv hhas e6
 have le:Le H3 (dB cl s3.heap H3):=CW hnone
 obtain ⟨pm,ctv,c',oc,os,t,t1,t2,t3,t4⟩:=M.ex
 have la:gk m2 (dB cl s3.heap H3) f L cvs:=⟨bt,ps,fv.map (·.2),pa,be,scope,cl,pm,ctv,c',oc,os,t,_,hl,hp,hk,hc,fun y y' d e e'=>I3.ok.inj _ _ _ (hsub _ _ e) (hsub _ _ e'),hfr,⟨le _ _ t1.1,t1.2⟩,⟨le _ _ t2.1,t2.2⟩,t3,t4,cp⟩
 have R4:RH X.K m2 (dB cl s3.heap H3) g:=M.rh.le le
 have w4:RWs X.prog X.w X.K m2 (dB cl s3.heap H3) (.ref a :: (vs++[.ref f])) (.o n :: (ws++[.c (.l L) cs])):=.cons (.o (x2.ix ha)) (RWs.app ((w2.ext M.ext).le le) (.cons (.c la (rc.tr le.sq)) .nil))
 have out:∀ b ob,X.base.get? b=some ob->¬ ∃ y,cl.lookup y=some b:=fun b ob e ⟨y,q⟩=>absurd (O7 (I3.ok.bs b ob e).1) (Nat.not_lt.mpr (hcel y b q))
 have e04:kP X.prog X.w X.K X.mg X.base X.A X.stack s3 (dB cl s3.heap H3):=by
  refine ⟨I3.ok.frames,I3.ok.mod,fun b ob e=>⟨(I3.bs b ob e).1,by rw[dh (out b ob e)];exact (I3.bs b ob e).2⟩,PD I3.ok.bsz I3.sz,I3.stack,fun b hb=>?_,fun b u e=>?_,I3.bare⟩
  ·rw[dh (fun ⟨y,q⟩=>hfrm y b q hb)];exact I3.kq b hb
  ·by_cases cc:∃ y,cl.lookup y=some b
   ·obtain ⟨y,q⟩:=cc
    obtain ⟨ob,uu,g1,g2⟩:=hobj y b q
    rw[fX q g1] at e
    cases e
    exact ⟨g1,_,g1⟩
   ·rw[dh cc] at e
    exact (I3.hok b u e).stay (fun _ _ _ z=>z) (fun d z=>le _ _ z) fun d xs z=>le _ _ z
 have rv4:ao (V.ref a :: (vs++[.ref f])) (Px a :: (us++[.ref f])):=.cons rfl (rvs.append (.cons rfl .nil))
 exact ⟨I3.kIn,kk a f us vs m2 H3 s3 cl ⟨I3,hnone,hobj,hfrm,le,R4,w4,e04,rv4,x1.trans (x2.trans M.ext),M.rh⟩⟩
section
variable {X:Cx}{cl:List (Str×O9)}{H3 H5:Hp}{s3 s5:O4}{m2 m5:List O9}
theorem zK (hnone:∀ y d,cl.lookup y=some d->H3 d=none) (b:O9) (uu:HO) (e:H3 b=some uu):¬ ∃ y,cl.lookup y=some b:=fun ⟨y,q⟩=>by rw[hnone y b q] at e;cases e
theorem zL (hnone:∀ y d,cl.lookup y=some d->H3 d=none) (hobj:∀ y d,cl.lookup y=some d->∃ o u,s3.heap.get? d=some o/\o.data=.cell u) (hfrm:∀ y d,cl.lookup y=some d->d∉frs X.stack) (le:Le H3 (dB cl s3.heap H3))
 (un:Un (frs X.stack) [] (dB cl s3.heap H3) H5 s3.heap s5.heap) (hok5:HOk P w H5 s5.heap):Un (frs X.stack) [] H3 (hid cl H5) s3.heap s5.heap:=by
 have nc:=zK hnone
 refine ⟨fun b ob e nn hb hx=>?_,fun b ob e nn hb hx=>?_,fun b ob e nn hx=>?_,fun b ob e hx=>un.there b ob e hx,fun b xs e=>?_,fun b ob uu e=>?_,fun b qs e=>?_⟩
 ·by_cases cc:∃ y,cl.lookup y=some b
  ·obtain ⟨y,q⟩:=cc
   exact (hok5 _ _ (un.frzs _ _ _ (fX q e))).1
  ·exact un.keep b ob e (by rw[dh cc];exact nn) hb hx
 ·exact un.slot b ob e (by rw[dh (fun ⟨y,q⟩=>hfrm y b q hb)];exact nn) hb hx
 ·by_cases cc:∃ y,cl.lookup y=some b
  ·obtain ⟨y,q⟩:=cc;exact sA q
  ·exact dg (un.free b ob e (by rw[dh cc];exact nn) hx)
 ·rw[cW (nc _ _ e)];exact un.tups b xs (le _ _ e)
 ·rw[cW (nc _ _ e)];exact un.frzs b ob uu (le _ _ e)
 ·rw[cW (nc _ _ e)];exact un.tbls b qs (le _ _ e)
theorem uG (hnone:∀ y d,cl.lookup y=some d->H3 d=none) (le:Le H3 (dB cl h0 H3)) (x5:Ext m2 (dB cl h0 H3) m5 H5):Ext m2 H3 m5 (hid cl H5):=by
 have nc:=zK hnone
 obtain ⟨ex,hm,he⟩:=x5.pre
 have lno:∀ b,dB cl h0 H3 b=none->H3 b=none:=fun b e=>by
  cases gg:H3 b with
  | none=>rfl
  | some uu=>rw[le _ _ gg] at e;cases e
 refine ⟨⟨ex,hm,fun b hb=>lno b (he b hb)⟩,fun b ob e nn tt=>?_,fun b e=>?_⟩
 ·rw[cW (nc _ _ e)];exact x5.keep b ob (le _ _ e) nn tt
 ·by_cases cc:∃ y,cl.lookup y=some b
  ·obtain ⟨y,q⟩:=cc;exact hnone y b q
  ·rw[cW cc] at e;exact lno b (x5.live b e)
end
theorem qv (O:Ok X F G sc N) (hf:∀ x,X.fn x=true) {rest:List O3}
 (hl:BT.mD L=some ⟨ns,ns,.ret bt⟩) (hp:LPa pa ps) (hn:ns=ps++fv.map (·.2)) (hk:jU ps (fv.map (·.2)) scope=true) (hv:r9 sc N fv=true) (ht:N.contains (BT.bU (BT.qc L))=true) (hc:CE' scope ns bt be) (h3:aB oe=true) (h6:(apos.endLine==cpos.line)=true)
 (hO:PE X oe (tD X F G o)) (hst:ak (e0 :: rest)=true) (hlen:(e0 :: rest).length < 20) (hS:zI X F G as (e0 :: rest) (.Lambda pa be scope lp)) :
 PE X (.Call (.Attribute oe m apos) (e0 :: rest) [] cpos) (tD X F G (.methL o m as L fv)):=by
 intro pins s σ H Q I q
 obtain ⟨m0,s',h,z,h',R,S,ee,post⟩:=q
 simp only[BT.ev] at ee
 obtain ⟨x,h1,e1,e2⟩:=ai ee
 obtain ⟨n,c,fs,ws,g,cs,rfl,e3,e4,e5,e6,e7,e8⟩:=wD e2
 obtain ⟨C,ga,fd,ps',k,hC,hM,hB,hR,ok⟩:=O.meth _ _ _ _ _ e7
 refine nq O hf hl hp hn hk hv ht hc h3 h6 hO hst hlen hS I R S hC hM e1 e3 e4 e5 e6 fun a f us vs m2 H3 s3 cl P=>?_
 obtain ⟨I3,hnone,hobj,hfrm,le,R4,w4,e04,rv4,xx,rh⟩:=P
 have sp4:spF X.prog X.w X.K (F (.m c m)) (V.ref a :: (vs++[.ref f])) (dB cl s3.heap H3) (fun v5 H5=>∃ m5,Ext m2 (dB cl s3.heap H3) m5 H5/\RH X.K m5 H5 h'/\RW X.prog X.w X.K m5 H5 v5 z) E0:=⟨m2,_,g,z,h',R4,w4,e7,fun v5 H5 m5 x5 R5 r5=>⟨m5,x5,R5,r5⟩⟩
 have hl4:(Px a :: (us++[.ref f])).length=ps'.length:=by rw[← rv4.length];exact ok.len _ _ _ _ sp4
 have hb4:=hB s3 (Px a :: (us++[.ref f])) I3.kIn (by rw[PY];exact hl4)
 rw[PY] at hb4
 have run4:=ok.run X.A X.stack s3 (dB cl s3.heap H3) ⟨Px a :: (us++[Px f]),[]⟩ (Px a :: (us++[Px f])) _ _ E0 hR e04 hb4 rv4 sp4
 refine Th (RM run4 fun r s' hq=>?_)
 cases r with
 | error e=>exact PN hq
 | ok fl =>
  cases fl with
  | next=>exact PN hq
  | brk=>exact PN hq
  | cont=>exact PN hq
  | ret u =>
   obtain ⟨v5,H5,os5,bare5,un,hok5,rv5,m5,x5,R5,r5⟩:=hq
   have C5:bL cl H5:=fun y d e=>by
    obtain ⟨ob,uu,g1,g2⟩:=hobj y d e
    exact ⟨ob,uu,un.frzs _ _ _ (fX e g1),g2⟩
   have un6:=zL hnone hobj hfrm le un hok5
   have I6:=I3.xj os5 un6 (kD C5 hok5 fun _ _ e=>e) bare5 (fun b zz=>absurd zz (by simp))
   have x6:=uG hnone le x5
   have r6:RW X.prog X.w X.K m5 (hid cl H5) v5 z:=by
    have:=RWs.tr C5.sq (.cons r5 .nil) e8
    cases this with
    | cons r _=>exact r
   exact ⟨v5,hid cl H5,I6,rv5,post v5 _ m5 (xx.trans x6) (C5.rh R5) r6⟩
end
end BS
end
section
namespace BS
open PySem PySem.Spec PyProof.Rows L2
noncomputable def fY:O3->Bool
 | .ListComp _ _ _ _=>false
 | .SetComp _ _ _ _=>false
 | .DictComp _ _ _ _ _=>false
 | _=>true
noncomputable def swB (sc scope:Qc) (x:Str) (np pos:Pos):Bool :=
 (if sc.kind.isAnnotationScope then ScopeKind.function else sc.kind)==.function&&sc.names.lookup x==some .local&&np.line==pos.line&&!(scope.names.any fun (n,k)=>n==x&&(k==.local||k==.cell))
mutual
inductive CS (sc:Qc) (N:List Str):BT.S->Pk->Prop where
 | setL {i:Nat}{x m:Str}{o:BT.E}{as:BT.Es}{L:Nat}{fv:List (Nat×Str)}{call:O3}{np p:Pos} (h1:N[i]?=some x) (h2:j9 sc x=true) (hl:CL sc N o m as L fv call):CS sc N (.set i (.methL o m as L fv)) (.Assign [.Name x np] call p)
 | retL {m:Str}{o:BT.E}{as:BT.Es}{L:Nat}{fv:List (Nat×Str)}{call:O3}{p:Pos} (hl:CL sc N o m as L fv call):CS sc N (.ret (.methL o m as L fv)) (.Return (some call) p)
 | setc {i:Nat}{x:Str}{mu:Bool}{sr:BT.Sr}{sa:BT.Es}{tg:List Str}{fv:List (Nat×Str)}{cond:BT.Es}{elt:BT.E}{te iter elt':O3}{ifs:List O3}{scope:Qc}{pos np p:Pos} (hu:bB N=true) (h1:N[i]?=some x) (h3:(sc.names.lookup x==some .cell||swB sc scope x np pos)=true)
  (hk:iN sc N tg fv scope=true) (ht:qf (aW scope sc) tg te=true) (hz:qe sr te=true) (hs:iL iter=true) (hi:CI sc N sr sa iter) (hc:CC (aW scope sc) (tg++fv.map (·.2)) cond ifs) (he:CE' (aW scope sc) (tg++fv.map (·.2)) elt elt') :
  CS sc N (.set i (.comp mu sr sa tg fv cond elt)) (.Assign [.Name x np] (.ListComp elt' [⟨te,iter,ifs,0⟩] scope pos) p)
 | set {i:Nat}{x:Str}{e:BT.E}{v:O3}{np p:Pos} (h1:N[i]?=some x) (h2:j9 sc x=true) (h3:fY v=true) (he:CE' sc N e v):CS sc N (.set i e) (.Assign [.Name x np] v p)
 | put {i:Nat}{x:Str}{k e:BT.E}{ke v:O3}{np sp p:Pos} (h1:N[i]?=some x) (h2:jT sc x=true) (h3:aA x=true) (h4:fY v=true) (h5:i8 ke=true) (hk:CE' sc N k ke) (he:CE' sc N e v):CS sc N (.put i k e) (.Assign [.Subscript (.Name x np) ke sp] v p)
 | putd {i:Nat}{x:Str}{k e:BT.E}{ke v:O3}{np sp p:Pos} (h1:N[i]?=some x) (h2:jT sc x=true) (h3:aA x=true) (h4:fY v=true) (h5:i8 ke=true) (hk:CE' sc N k ke) (he:CE' sc N e v):CS sc N (.putd i k e) (.Assign [.Subscript (.Name x np) ke sp] v p)
 | aug {i:Nat}{x:Str}{o:BT.Bin}{op:Tt}{e:BT.E}{v:O3}{np p:Pos} (h1:N[i]?=some x) (h2:j9 sc x=true) (h3:za o op=true) (he:CE' sc N e v):CS sc N (.aug i o e) (.AugAssign (.Name x np) op v p)
 | setf {o e:BT.E}{f:Str}{oe v:O3}{np p:Pos} (h1:attrName f=true) (h2:fY v=true) (ho:CE' sc N o oe) (he:CE' sc N e v):CS sc N (.setf o f e) (.Assign [.Attribute oe f np] v p)
 | augf {o e:BT.E}{f:Str}{b:BT.Bin}{op:Tt}{oe v:O3}{np p:Pos} (h1:attrName f=true) (h3:za b op=true) (ho:CE' sc N o oe) (he:CE' sc N e v):CS sc N (.augf o f b e) (.AugAssign (.Attribute oe f np) op v p)
 | ex {e:BT.E}{v:O3}{p:Pos} (h:fY v=true) (he:CE' sc N e v):CS sc N (.ex e) (.Expr v p)
 | ret {e:BT.E}{v:O3}{p:Pos} (he:CE' sc N e v):CS sc N (.ret e) (.Return (some v) p)
 | ife {c:BT.E}{a b:BT.S}{t:O3}{xs ys:List Pk}{p:Pos} (h:tOK c=true) (hc:CE' sc N c t) (ha:CSs sc N a xs) (hb:CSs sc N b ys):CS sc N (.ife c a b) (.If t xs ys p)
 | whl {c:BT.E}{b:BT.S}{t:O3}{xs:List Pk}{p:Pos} (h:tOK c=true) (hc:CE' sc N c t) (hb:CSs sc N b xs):CS sc N (.whl c b) (.While t xs [] p)
 | for {tg:List (Nat×Str)}{sr:BT.Sr}{sa:BT.Es}{b:BT.S}{te iter:O3}{xs:List Pk}{p:Pos} (hu:bB N=true) (ht:CT sc N tg te) (hi:CI sc N sr sa iter) (hz:qe sr te=true) (hs:iL iter=true) (hb:CSs sc N b xs):CS sc N (.for tg sr sa b) (.For te iter xs [] p)
 | brk {p:Pos}:CS sc N .brk (.Break p)
 | cnt {p:Pos}:CS sc N .cnt (.Continue p)
 | bad {st:Pk}:CS sc N .bad st
inductive CSs (sc:Qc) (N:List Str):BT.S->List Pk->Prop where
 | nil:CSs sc N .nil []
 | one {s:BT.S}{st:Pk} (h:CS sc N s st):CSs sc N s [st]
 | cons {a b:BT.S}{st st2:Pk}{r:List Pk} (h:CS sc N a st) (hr:CSs sc N b (st2 :: r)):CSs sc N (.seq a b) (st :: st2 :: r)
end
noncomputable def jh (X:Cx) (m:List O9) (H:Hp) (fl:BT.Fl) (D:Ends):Prop:=match fl with
 | .nx s' h'=>∀ σ' H' m',Ext m H m' H'->RH X.K m' H' h'->RS X.prog X.w X.K m' H' σ' s'->D.nx σ' H'
 | .rt z h'=>∀ v H' m',Ext m H m' H'->RH X.K m' H' h'->RW X.prog X.w X.K m' H' v z->D.rt v H'
 | .bk s' h'=>∀ σ' H' m',Ext m H m' H'->RH X.K m' H' h'->RS X.prog X.w X.K m' H' σ' s'->D.bk σ' H'
 | .ct s' h'=>∀ σ' H' m',Ext m H m' H'->RH X.K m' H' h'->RS X.prog X.w X.K m' H' σ' s'->D.ct σ' H'
theorem jh.ext {D:Ends} (x:Ext m H m' H') (p:jh X m H fl D):jh X m' H' fl D:=by
 cases fl<;>exact fun a b c y=>p a b c (x.trans y)
inductive tDS (X:Cx) (F:FT) (G:Str->Option BT.W) (S:BT.S) (D:Ends) (σ:L2.St) (H:Hp):Prop where
 | mk (m:List O9) (s:BT.Sl) (h:BT.HH) (fl:BT.Fl) (R:RH X.K m H h) (r:RS X.prog X.w X.K m H σ s) (e:BT.evS F G S s h=some fl) (p:jh X m H fl D):tDS X F G S D σ H
theorem PS.weak {st:Pk} (h:PS X st t) (q:∀ D σ H,t' D σ H->t D σ H):PS X st t':=fun pins s σ H D I hw=>h pins s σ H D I (q _ _ _ hw)
theorem PSs.weak {st:List Pk} (h:PSs X st t) (q:∀ D σ H,t' D σ H->t D σ H):PSs X st t':=fun pins s σ H D I hw=>h pins s σ H D I (q _ _ _ hw)
section
theorem zM (D:Ends) (σ:L2.St) (H:Hp) (q:tDS X F G (.seq a b) D σ H):II (tDS X F G a) (tDS X F G b) D σ H:=by
 obtain ⟨m,s,h,fl,R,S,e,post⟩:=q
 simp only[BT.evS] at e
 cases g:BT.evS F G a s h with
 | none=>rw[g] at e;cases e
 | some f1 =>
  rw[g] at e
  refine ⟨m,s,h,f1,R,S,g,?_⟩
  cases f1 with
  | nx s1 h1=>exact fun σ1 H1 m1 x1 R1 S1=>⟨m1,s1,h1,fl,R1,S1,e,post.ext x1⟩
  | rt z h1=>cases e;exact post
  | bk s1 h1=>cases e;exact post
  | ct s1 h1=>cases e;exact post
theorem iC {X:Cx}{S0:BT.S}{a:BT.E}{k:BT.Sl->BT.W->BT.HH->Option BT.Fl} (he:∀ s h,BT.evS F G S0 s h=BT.bnd (BT.ev F G a s h) (k s)) {D:Ends}{σ:L2.St}{H:Hp} (q:tDS X F G S0 D σ H) {R':V->Hp->Prop}
 (h1:∀ m s h x fl v H1,RH X.K m H1 h->RS X.prog X.w X.K m H1 σ s->RW X.prog X.w X.K m H1 v x->k s x h=some fl->jh X m H1 fl D->R' v H1):tD X F G a σ H R':=by
 obtain ⟨m,s,h,fl,R,S,ee,post⟩:=q
 rw[he] at ee
 obtain ⟨x,g,e1,e2⟩:=ai ee
 exact ⟨m,s,h,x,g,R,S,e1,fun v H1 m1 x1 R1 r1=>h1 m1 s g x fl v H1 R1 (S.ext x1) r1 e2 (post.ext x1)⟩
theorem uH (h:BT.tst x k=some fl):∃ b g,x=some (.p (.bl b),g)/\k b g=some fl:=by
 unfold BT.tst at h
 obtain ⟨w,g,e1,e2⟩:=ai h
 unfold BT.JP at e2
 cases w with
 | p d =>
  cases d<;>simp only at e2<;>try contradiction
  exact ⟨_,g,e1,e2⟩
 | r n=>cases e2
 | k q=>cases e2
 | c _ _=>cases e2
 | x _=>cases e2
 | o q=>cases e2
theorem gZ (h:fY e=true):Sb e t l env=pure false:=by
 cases e<;>first | rfl | cases h
theorem uI (h:fY e=true):swapsWithSole [t] e l env=pure false:=gZ h
theorem lJ (h:i8 i=true):∀ v,UM (.Subscript o i pos) env v=(do
 let ov ← holding [v] (eval o env)
 let iv ← holding [v,ov] (eval i env)
 standAt pos
 holding [v,ov,iv] (setItem ov iv v)
 release [v,ov,iv] []):=by
 intro v
 cases i<;>first | rfl | cases h
theorem GL (D:Ends) (σ:L2.St) (H:Hp) (q:tDS X F G (.whl c b) D σ H):xA (tDT X F G c) (tDS X F G b) D σ H:=by
 obtain ⟨m0,s,h,fl,R,S,e,post⟩:=q
 simp only[BT.evS] at e
 refine ⟨fun n σ H=>∃ m s h,RH X.K m H h/\RS X.prog X.w X.K m H σ s/\BT.cE (BT.ev F G c) (BT.evS F G b) n s h=some fl/\jh X m H fl D,⟨BT.turns,m0,s,h,R,S,e,post⟩,?_⟩
 rintro n σ1 H1 ⟨m,s,h,R,S,e,post⟩
 cases n with
 | zero=>cases e
 | succ n =>
  rw[BT.cE] at e
  obtain ⟨t,g,e1,e2⟩:=uH e
  refine ⟨m,s,h,t,g,R,S,e1,fun H2 m2 x2 R2=>?_⟩
  cases t with
  | false =>
   rw[BT.n8] at e2
   cases e2
   rw[if_neg (by decide)]
   exact post σ1 H2 m2 x2 R2 (S.ext x2)
  | true =>
   rw[BT.kZ] at e2
   rw[if_pos rfl]
   refine ⟨fun σ' H'=>∃ m' s' h',RH X.K m' H' h'/\RS X.prog X.w X.K m' H' σ' s'/\BT.cE (BT.ev F G c) (BT.evS F G b) n s' h'=some fl/\jh X m' H' fl D,fun σ' H' ⟨m',s',h',a1,a2,a3,a4⟩=>⟨n,Rc n,m',s',h',a1,a2,a3,a4⟩,?_⟩
   cases gb:BT.evS F G b s g with
   | none=>rw[gb] at e2;cases e2
   | some f1 =>
    rw[gb] at e2
    refine ⟨m2,s,g,f1,R2,S.ext x2,gb,?_⟩
    cases f1 with
    | nx s1 h1=>exact fun σ3 H3 m3 x3 R3 S3=>⟨m3,s1,h1,R3,S3,e2,(post.ext x2).ext x3⟩
    | ct s1 h1=>exact fun σ3 H3 m3 x3 R3 S3=>⟨m3,s1,h1,R3,S3,e2,(post.ext x2).ext x3⟩
    | bk s1 h1=>cases e2;exact fun σ3 H3 m3 x3 R3 S3=>post σ3 H3 m3 (x2.trans x3) R3 S3
    | rt z h1=>cases e2;exact fun v H3 m3 x3 R3 r3=>post v H3 m3 (x2.trans x3) R3 r3
theorem GM (D:Ends) (σ:L2.St) (H:Hp) (q:tDS X F G (.aug i o e) D σ H):IP i (tD X F G e) (Gp o) D σ H:=by
 obtain ⟨m,s,h,fl,R,S,ee,post⟩:=q
 simp only[BT.evS] at ee
 obtain ⟨y,g,e1,e2⟩:=ai ee
 unfold BT.JW at e2
 have hs:∃ d d' z,s[i]?=some (some (.p d))/\y=.p d'/\BT.kW o d d'=some z/\fl=.nx (s.set i (some (.p z))) g:=by
  cases g1:s[i]? with
  | none=>rw[g1] at e2;cases y<;>cases e2
  | some ow =>
   cases ow with
   | none=>rw[g1] at e2;cases y<;>cases e2
   | some w0 =>
    rw[g1] at e2
    cases w0<;>cases y<;>simp only at e2<;>try contradiction
    obtain ⟨z,e3,e4⟩:=az e2
    exact ⟨_,_,z,rfl,rfl,e3,e4.symm⟩
 obtain ⟨d,d',z,g1,rfl,e3,rfl⟩:=hs
 obtain ⟨a,b,k,rfl,rfl,rfl⟩:=uA e3
 obtain ⟨v,hv,rv⟩:=S.get i _ g1
 have ev:v=.int a:=by cases rv with | p rv=>cases rv;rfl
 subst ev
 refine ⟨_,hv,m,s,h,_,g,R,S,e1,fun u H1 m1 x1 R1 r1=>?_⟩
 cases r1 with
 | p r1 =>
  cases r1
  exact ⟨a,b,k,rfl,rfl,e3,post _ H1 m1 x1 R1 ((S.ext x1).set (.p (.int k)))⟩
theorem wF (e:BT.n9 s f v x h=some fl):∃ n c fs,x=.o n/\BT.oat h n=some (c,fs)/\BT.attrOk v=true/\fs.length < 1000/\fl=.nx s (h.set n (.o c (BT.aY f v fs))):=by
 cases x with
 | o n =>
  rw[BT.yl] at e
  cases g:BT.oat h n with
  | none=>rw[g] at e;cases e
  | some q =>
   obtain ⟨c,fs⟩:=q
   rw[g] at e
   simp only at e
   split at e
   ·rename_i c1
    cases e
    simp only[OY,decide_eq_true_eq] at c1
    exact ⟨n,c,fs,rfl,g,c1.1,c1.2,rfl⟩
   ·cases e
 | p d=>cases e
 | r n=>cases e
 | k q=>cases e
 | c _ _=>cases e
 | x _=>cases e
theorem qw {D:Ends} (R:RH X.K m H h) (S:RS X.prog X.w X.K m H σ s) (hn:m[n]?=some a) (h1:H a=some (.ins C dx vs)) (h2:iB X.K c C) (h3:RFs X.K m H vs fs) (ra:RA X.K m H v y)
 (post:jh X m H (.nx s (h.set n (.o c (BT.aY f y fs)))) D):D.nx σ (upd H a (.ins C dx (L2.aY f v vs))):=by
 have x:Ext m H m (upd H a (.ins C dx (L2.aY f v vs))):=i9 (Pb hn)
 exact post σ _ m x (R.setC hn ⟨C,dx,_,aJ,h2,(RFs.put ra h3).ext x⟩) (S.ext x)
theorem CY {X:Cx}{o e:BT.E}{f:Str} (hf:attrName f=true) (D:Ends) (σ:L2.St) (H:Hp) (q:tDS X F G (.setf o f e) D σ H):I0 X.K (tD X F G o) (tD X F G e) f D σ H:=by
 refine iC (k:=fun s=>BT.ym (BT.ev F G o s) s f) (fun s h=>by simp only[BT.evS]) q fun m s h y fl v H1 R S r e1 post=>?_
 rw[BT.yo] at e1
 obtain ⟨x,g,e2,e3⟩:=ai e1
 obtain ⟨n,c,fs,rfl,g1,ok,hl,rfl⟩:=wF e3
 refine ⟨m,s,h,.o n,g,R,S,e2,fun u H2 m2 x2 R2 r2=>?_⟩
 cases r2 with
 | @o a _ hn =>
  obtain ⟨C,dx,vs,q1,q2,q3⟩:=R2.k8 _ _ _ _ hn g1
  exact ⟨a,C,dx,vs,rfl,q1,q2.cls,q2.no f hf,by rw[q3.length];exact hl,qw R2 (S.ext x2) hn q1 q2 q3 ((r.ext x2).ra ok) (post.ext x2)⟩
theorem zN (e:BT.ue ee s f op x h=some fl):∃ n c fs d y g fs' z,x=.o n/\BT.oat h n=some (c,fs)/\BT.aN f fs=some (.p d)/\ee h=some (.p y,g)/\BT.oat g n=some (c,fs')/\BT.kW op d y=some z/\fs'.length < 1000/\fl=.nx s (g.set n (.o c (BT.aY f (.p z) fs'))):=by
 cases x with
 | o n =>
  rw[BT.BZ] at e
  cases g1:BT.oat h n with
  | none=>rw[g1] at e;cases e
  | some q =>
   obtain ⟨c,fs⟩:=q
   rw[g1] at e
   simp only at e
   cases g2:BT.aN f fs with
   | none=>rw[g2] at e;cases e
   | some w0 =>
    rw[g2] at e
    cases w0 with
    | p d =>
     simp only at e
     obtain ⟨y,g,e1,e2⟩:=ai e
     cases y with
     | p y =>
      rw[BT.yp] at e2
      cases g3:BT.oat g n with
      | none=>rw[g3] at e2;cases e2
      | some q =>
       obtain ⟨c',fs'⟩:=q
       rw[g3] at e2
       simp only at e2
       cases g4:BT.kW op d y with
       | none=>rw[g4] at e2;cases e2
       | some z =>
        rw[g4] at e2
        simp only at e2
        split at e2
        ·rename_i c1
         cases e2
         obtain ⟨rfl,c1⟩:=c1
         exact ⟨n,c',fs,d,y,g,fs',z,rfl,g1,g2,e1,g3,g4,c1,rfl⟩
        ·cases e2
     | r n=>cases e2
     | k q=>cases e2
     | c _ _=>cases e2
     | x _=>cases e2
     | o n=>cases e2
    | r n=>cases e
    | k q=>cases e
    | c _ _=>cases e
    | x _=>cases e
    | o n=>cases e
 | p d=>cases e
 | r n=>cases e
 | k q=>cases e
 | c _ _=>cases e
 | x _=>cases e
theorem CZ {X:Cx}{o e:BT.E}{f:Str}{b:BT.Bin} (hf:attrName f=true) (D:Ends) (σ:L2.St) (H:Hp) (q:tDS X F G (.augf o f b e) D σ H):tO X.K (tD X F G o) (tD X F G e) (Gp b) f D σ H:=by
 refine iC (k:=fun s=>BT.ue (BT.ev F G e s) s f b) (fun s h=>by simp only[BT.evS]) q fun m s h y fl v H1 R S r e1 post=>?_
 obtain ⟨n,c,fs,d,y,g,fs',z,rfl,g1,g2,e2,g3,g4,hl,rfl⟩:=zN e1
 obtain ⟨i,j,k,rfl,rfl,rfl⟩:=uA g4
 cases r with
 | @o a _ hn =>
  obtain ⟨C,dx,vs,q1,q2,q3⟩:=R.k8 _ _ _ _ hn g1
  obtain ⟨u,l,ra⟩:=q3.get g2
  have eu:u=.int i:=by cases ra with | p ra=>cases ra;rfl
  subst eu
  refine ⟨a,C,dx,vs,_,rfl,q1,q2.cls,q2.no f hf,l,m,s,h,_,g,R,S,e2,fun u2 H2 m2 x2 R2 r2=>?_⟩
  cases r2 with
  | p r2 =>
   cases r2
   obtain ⟨C',dx',vs',p1,p2,p3⟩:=R2.k8 _ _ _ _ (x2.ix hn) g3
   cases p2.cn.inj q2.cn
   exact ⟨i,j,k,rfl,rfl,g4,dx',vs',p1,by rw[p3.length];exact hl,qw R2 (S.ext x2) (x2.ix hn) p1 p2 p3 (.p (.int k)) (post.ext x2)⟩
theorem GN {X:Cx}{i:Nat}{k e:BT.E} (D:Ends) (σ:L2.St) (H:Hp) (q:tDS X F G (.put i k e) D σ H):vh (tD X F G e) (ET (tD X F G (.var i)) (tD X F G k) D8) D σ H:=by
 refine iC (k:=fun s=>BT.FO (BT.ev F G k s) s i) (fun s h=>by simp only[BT.evS]) q fun m s h y fl v H1 R S r e1 post=>?_
 unfold BT.FO at e1
 cases y with
 | r n=>cases e1
 | k q=>cases e1
 | c _ _=>cases e1
 | x _=>cases e1
 | o q=>cases e1
 | p d =>
  cases g:s[i]? with
  | none=>rw[g] at e1;cases e1
  | some o =>
   cases o with
   | none=>rw[g] at e1;cases e1
   | some wz =>
    cases wz with
    | p _=>rw[g] at e1;cases e1
    | k _=>rw[g] at e1;cases e1
    | c _ _=>rw[g] at e1;cases e1
    | x _=>rw[g] at e1;cases e1
    | o _=>rw[g] at e1;cases e1
    | r n =>
     rw[g] at e1
     simp only at e1
     obtain ⟨q,h2,e2,e3⟩:=ai e1
     refine ⟨m,s,h,.r n,h,R,S,by simp only[BT.ev,g],fun o H2 m2 x2 R2 r2=>⟨m2,s,h,q,h2,R2,S.ext x2,e2,fun ki H3 m3 x3 R3 r3=>?_⟩⟩
     unfold BT.Eg at e3
     cases q with
     | r _=>cases e3
     | k _=>cases e3
     | c _ _=>cases e3
     | x _=>cases e3
     | o _=>cases e3
     | p dk =>
      cases g2:BT.lat h2 n with
      | none=>rw[g2] at e3;cases dk<;>cases e3
      | some xs =>
       rw[g2] at e3
       cases dk with
       | int j =>
        simp only at e3
        cases g3:BT.place xs.length j with
        | none=>rw[g3] at e3;cases e3
        | some mm =>
         rw[g3] at e3
         cases e3
         have r2':=r2.ext x3
         cases r2' with
         | @r a _ hn =>
          cases r3 with
          | p r3 =>
           cases r3
           obtain ⟨us,hH,ru⟩:=R3.cell n a xs hn g2
           refine ⟨a,us,j,mm,rfl,rfl,hH,by rw[ru.length];exact g3,?_⟩
           have x4:Ext m3 H3 m3 (upd H3 a (.lst (us.set mm v))):=fF (Pb hn) hH
           cases r with
           | p r=>exact post σ _ m3 ((x2.trans x3).trans x4) (R3.set hn hH (RDs.set ((r.ext x2).ext x3) mm ru)) (((S.ext x2).ext x3).ext x4)
       | _=>cases e3
theorem C1 {X:Cx}{i:Nat}{k e:BT.E} (D:Ends) (σ:L2.St) (H:Hp) (q:tDS X F G (.putd i k e) D σ H):vh (tD X F G e) (ET (tD X F G (.var i)) (tD X F G k) En) D σ H:=by
 refine iC (k:=fun s=>BT.ud (BT.ev F G k s) s i) (fun s h=>by simp only[BT.evS]) q fun m s h y fl v H1 R S r e1 post=>?_
 cases y with
 | r n=>cases e1
 | k q=>cases e1
 | c _ _=>cases e1
 | x _=>cases e1
 | o q=>cases e1
 | p d =>
  rw[BT.BY] at e1
  cases g:s[i]? with
  | none=>rw[g] at e1;cases e1
  | some o =>
   cases o with
   | none=>rw[g] at e1;cases e1
   | some wz =>
    cases wz with
    | p _=>rw[g] at e1;cases e1
    | k _=>rw[g] at e1;cases e1
    | c _ _=>rw[g] at e1;cases e1
    | x _=>rw[g] at e1;cases e1
    | o _=>rw[g] at e1;cases e1
    | r n =>
     rw[g] at e1
     simp only at e1
     obtain ⟨q,h2,e2,e3⟩:=ai e1
     refine ⟨m,s,h,.r n,h,R,S,by simp only[BT.ev,g],fun o H2 m2 x2 R2 r2=>⟨m2,s,h,q,h2,R2,S.ext x2,e2,fun ki H3 m3 x3 R3 r3=>?_⟩⟩
     cases q with
     | r _=>cases e3
     | k _=>cases e3
     | c _ _=>cases e3
     | x _=>cases e3
     | o _=>cases e3
     | p dk =>
      rw[BT.yk] at e3
      obtain ⟨kvs,e4,e5⟩:=Option.bind_eq_some_iff.mp e3
      obtain ⟨ky,e6,e7⟩:=Option.bind_eq_some_iff.mp e5
      split at e7
      case isFalse=>cases e7
      rename_i c
      cases e7
      have r2':=r2.ext x3
      cases r2' with
      | @r a _ hn =>
       cases r3 with
       | p r3 =>
        obtain ⟨us,hH,ru⟩:=R3.Ek n a kvs hn e4
        have:=cu
        have hl:=ru.length
        refine ⟨a,us,ky,rfl,su r3 e6,hH,by lia,?_⟩
        have x4:Ext m3 H3 m3 (upd H3 a (.dK (putK us ky v))):=i9 (Pb hn)
        cases r with
        | p r=>exact post σ _ m3 ((x2.trans x3).trans x4) (R3.setC hn ⟨_,aJ,(ru.put ky (F7 r3 e6) ((r.ext x2).ext x3)).ext x4⟩) (((S.ext x2).ext x3).ext x4)
end
section
theorem GO (hg:GOk X tg g) (D:Ends) (σ:L2.St) (H:Hp) (q:tDS X F G (.for tg sr sa b) D σ H):IT (iD X F G sr sa) g (tDS X F G b) D σ H:=by
 obtain ⟨m,s,h,fl,R,S,e,post⟩:=q
 simp only[BT.evS] at e
 obtain ⟨ws,h1,e1,e2⟩:=ai e
 unfold BT.kFor at e2
 cases g1:(BT.rds ws h1).bind (BT.dQ sr) with
 | none=>rw[g1] at e2;cases e2
 | some ds =>
  rw[g1] at e2
  simp only at e2
  split at e2
  ·rename_i ca
   refine ⟨m,s,h,ws,h1,ds,R,S,e1,g1,.inl ca,fun H1 m1 J x1 R1 it=>?_⟩
   refine ⟨fun i n σ H=>i<=ds.length/\n=ds.length - i/\∃ m s h,Ext m1 H1 m H/\RH X.K m H h/\RS X.prog X.w X.K m H σ s/\BT.fE (BT.evS F G b) tg (ds.drop i) s h=some fl/\jh X m H fl D,
    ⟨ds.length,QU _,rfl,m1,s,h1,.refl _ _,R1,S.ext x1,by rw[SS];exact e2,post.ext x1⟩,?_⟩
   rintro i n σ2 H2 ⟨hi,rfl,m2,s2,h2,x2,R2,S2,e3,post2⟩
   by_cases c:i < ds.length
   ·refine .inr ⟨it.go m2 H2 h2 i x2 R2 (lD ca) c,_,fun σ' H' z=>⟨ds.length - (i+1),by lia,c,rfl,z⟩,fun x H3 y=>?_⟩
    obtain ⟨x3,k3,r3⟩:=it.yld m2 H2 h2 i x H3 ds[i] x2 R2 (lD ca) (Ph c) y
    rw[Uz c,BT.fE] at e3
    cases g2:BT.target tg.length ds[i] with
    | none=>rw[g2] at e3;cases e3
    | some dd =>
     rw[g2] at e3
     simp only at e3
     have R3:=R2.ext x3 k3
     refine hg m2 H3 σ2 s2 x ds[i] dd _ (S2.ext x3) r3 g2 fun σ4 S4=>?_
     cases g3:BT.evS F G b (BT.sets tg dd s2) h2 with
     | none=>rw[g3] at e3;cases e3
     | some f1 =>
      rw[g3] at e3
      refine ⟨m2,_,h2,f1,R3,S4,g3,?_⟩
      cases f1 with
      | nx s5 h5=>exact fun σ5 H5 m5 x5 R5 S5=>⟨m5,s5,h5,(x2.trans x3).trans x5,R5,S5,e3,(post2.ext x3).ext x5⟩
      | ct s5 h5=>exact fun σ5 H5 m5 x5 R5 S5=>⟨m5,s5,h5,(x2.trans x3).trans x5,R5,S5,e3,(post2.ext x3).ext x5⟩
      | bk s5 h5=>cases e3;exact fun σ5 H5 m5 x5 R5 S5=>post2 σ5 H5 m5 (x3.trans x5) R5 S5
      | rt z h5=>cases e3;exact fun v H5 m5 x5 R5 r5=>post2 v H5 m5 (x3.trans x5) R5 r5
   ·have ei:i=ds.length:=by lia
    subst ei
    refine .inl ⟨it.stop m2 H2 h2 x2 R2 (lD ca),?_⟩
    rw[List.drop_length,BT.fE] at e3
    cases e3
    exact post2 σ2 H2 m2 (.refl _ _) R2 S2
  ·cases e2
theorem Kw {X:Cx}{sc:Qc}{N:List Str} (O:Ok X F G sc N) {x:Str}{np pos p:Pos}{elt':O3}{gs:List Comprehension}{scope:Qc} (h:swB sc scope x np pos=true):Sb (.ListComp elt' gs scope pos) (some (.Name x np)) p.line X.env=pure true:=by
 have e:Sb (.ListComp elt' gs scope pos) (some (.Name x np)) p.line X.env=pure (swB X.env.scope scope x np pos):=rfl
 rw[e,O.hsc,h]
theorem C2 (c:(sc.names.lookup x==some .cell)=true):j9 sc x=true:=by
 unfold j9
 rw[eq_of_beq c]
theorem zO (h:swB sc scope x np pos=true):sc.names.lookup x=some .local:=by
 unfold swB at h
 simp only[OY] at h
 exact eq_of_beq h.1.1.2
theorem Kx {X:Cx}{sc:Qc}{N:List Str} (O:Ok X F G sc N) {x:Str}{np pos p:Pos}{elt':O3}{gs:List Comprehension}{scope:Qc} (c:(sc.names.lookup x==some .cell)=true):Sb (.ListComp elt' gs scope pos) (some (.Name x np)) p.line X.env=pure false:=by
 have e:Sb (.ListComp elt' gs scope pos) (some (.Name x np)) p.line X.env=pure (swB X.env.scope scope x np pos):=rfl
 have z:swB sc scope x np pos=false:=by
  cases h:swB sc scope x np pos with
  | false=>rfl
  | true =>
   have:=zO h
   rw[eq_of_beq c] at this
   cases this
 rw[e,O.hsc,z]
theorem sCL (O:Ok X F G sc N) (hf:∀ x,X.fn x=true) {call:O3} (h:CL sc N o m as L fv call):PE X call (tD X F G (.methL o m as L fv))/\fY call=true:=by
 cases h with
 | zero hl hp hn hk hv ht hc h3 h6 ho=>exact ⟨qv O hf hl hp hn hk hv ht hc h3 h6 (sE ho O) rfl (by simp) Eo,rfl⟩
 | one hl hp hn hk hv ht hc h3 h6 ho hs ha=>exact ⟨qv O hf hl hp hn hk hv ht hc h3 h6 (sE ho O) (by simp only[ak,hs];rfl) (by simp) (Ep hs (sE ha O)),rfl⟩
theorem zP:PSs X [] (tDS X F G .nil):=PSs.weak Bb fun D σ H q=>by
 obtain ⟨m,s,h,fl,R,S,e,post⟩:=q
 simp only[BT.evS] at e
 cases e
 exact post σ H m (.refl _ _) R S
theorem sS (O:Ok X F G sc N) (hf:∀ x,X.fn x=true) {st:Pk} (hh:CS sc N s st):PS X st (tDS X F G s) :=
 CS.rec (motive_1:=fun s st _=>PS X st (tDS X F G s)) (motive_2:=fun s sts _=>PSs X sts (tDS X F G s))
  (@fun i x m o as L fv call np p h1 h2 hl=>PS.weak (rA (i:=i) O.nd (by rw[O.hN];exact h1) (iQ O h2) (sCL O hf hl).1 (gZ (sCL O hf hl).2) (.inl (hf x))) fun D σ H q =>
   iC (k:=fun s=>BT.rY s i) (fun s h=>by simp only[BT.evS]) q fun m s h y fl v H1 R S r e1 post=>by
    simp only[BT.rY] at e1
    cases e1
    exact post _ H1 m (.refl _ _) R (S.set r))
  (fun hl=>PS.weak (rm (sCL O hf hl).1) fun D σ H q =>
   iC (k:=fun s=>BT.yq) (fun s h=>by simp only[BT.evS]) q fun m s h y fl v H1 R S r e1 post=>by
    simp only[BT.yq] at e1
    cases e1
    exact post v H1 m (.refl _ _) R r)
  (@fun i x mu sr sa tg fv cond elt te iter elt' ifs scope pos np p hu h1 h3 hk ht hz hs hi hc he=>by
   have K:∀ (D:Ends) (σ:L2.St) (H:Hp),tDS X F G (.set i (.comp mu sr sa tg fv cond elt)) D σ H->vh (tD X F G (.comp mu sr sa tg fv cond elt)) (pJ i) D σ H:=fun D σ H q =>
    iC (k:=fun s=>BT.rY s i) (fun s h=>by rw[BT.evS]) q fun m s h y fl v H1 R S r e1 post=>by
     simp only[BT.rY] at e1
     cases e1
     exact post _ H1 m (.refl _ _) R (S.set r)
   by_cases c:(sc.names.lookup x==some .cell)=true
   ·exact PS.weak (rA (i:=i) O.nd (by rw[O.hN];exact h1) (iQ O (C2 c)) (sE (CQ.comp hu hk ht hz hs hi hc he) O) (Kx O c) (.inl (hf x))) K
   ·have h4:swB sc scope x np pos=true:=by
     rw[QL] at h3
     exact h3.resolve_left c
    exact PS.weak (CO O hu hk ht hs (sCI hi O hz) (sCC hc) (fun X' O'=>sE he O') h1 (zO h4) (Kw O h4)) K)
  (@fun i x e v np p h1 h2 h3 he=>PS.weak (rA (i:=i) O.nd (by rw[O.hN];exact h1) (iQ O h2) (sE he O) (gZ h3) (.inl (hf x))) fun D σ H q =>
   iC (k:=fun s=>BT.rY s i) (fun s h=>by simp only[BT.evS]) q fun m s h y fl v H1 R S r e1 post=>by
    simp only[BT.rY] at e1
    cases e1
    exact post _ H1 m (.refl _ _) R (S.set r))
  (fun h1 h2 h3 h4 h5 hk he=>PS.weak (xy (sE he O) (xw (oB O h1 h2 h3) (sE hk O) set_list (lJ h5)) (uI h4) rfl) GN)
  (fun h1 h2 h3 h4 h5 hk he=>PS.weak (xy (sE he O) (xw (oB O h1 h2 h3) (sE hk O) set_dict (lJ h5)) (uI h4) rfl) C1)
  (fun h1 h2 h3 he=>PS.weak (EU O.nd (by rw[O.hN];exact h1) (iQ O h2) (sE he O) (uz h3) (.inl (hf _))) GM)
  (fun h1 h2 ho he=>PS.weak (E7 (sE ho O) (sE he O) (gZ h2)) (CY h1))
  (fun h1 h3 ho he=>PS.weak (vA (sE ho O) (sE he O) (uz h3)) (CZ h1))
  (fun h he=>PS.weak (Bc (sE he O) (gZ h)) fun D σ H q =>
   iC (k:=fun s=>BT.kEx s) (fun s h=>by simp only[BT.evS]) q fun m s h y fl v H1 R S r e1 post=>by
    simp only[BT.kEx] at e1
    cases e1
    exact post σ H1 m (.refl _ _) R S)
  (fun he=>PS.weak (rm (sE he O)) fun D σ H q =>
   iC (k:=fun s=>BT.yq) (fun s h=>by simp only[BT.evS]) q fun m s h y fl v H1 R S r e1 post=>by
    simp only[BT.yq] at e1
    cases e1
    exact post v H1 m (.refl _ _) R r)
  (fun h hc ha hb ia ib=>PS.weak (IL (sT hc O h).1 ia ib) fun D σ H q=>by
   obtain ⟨m,s,h,fl,R,S,e,post⟩:=q
   simp only[BT.evS] at e
   obtain ⟨t,g,e1,e2⟩:=uH e
   refine ⟨m,s,h,t,g,R,S,e1,fun H1 m1 x1 R1=>?_⟩
   simp only[BT.kIf] at e2
   cases t with
   | true=>exact ⟨m1,s,g,fl,R1,S.ext x1,e2,post.ext x1⟩
   | false=>exact ⟨m1,s,g,fl,R1,S.ext x1,e2,post.ext x1⟩)
  (fun h hc hb ib=>PS.weak (xE O.own (sT hc O h).1 ib) GL)
  (fun hu ht hi hz hs hb ib=>by
   obtain ⟨g,hg1,hg2⟩:=sCT O (O.calm hu) ht (fun q _=>.inl (hf q.2))
   exact PS.weak (EW O.own (O.calm hu) (sCI hi O hz) hg1 ib (uE hs)) (GO hg2))
  (PS.weak xu fun D σ H q=>by
   obtain ⟨m,s,h,fl,R,S,e,post⟩:=q
   simp only[BT.evS] at e
   cases e
   exact post σ H m (.refl _ _) R S)
  (PS.weak pI fun D σ H q=>by
   obtain ⟨m,s,h,fl,R,S,e,post⟩:=q
   simp only[BT.evS] at e
   cases e
   exact post σ H m (.refl _ _) R S)
  (fun pins s σ H D I q=>by
   obtain ⟨m,s,h,fl,R,S,e,post⟩:=q
   simp only[BT.evS] at e
   cases e)
  zP
  (fun _ ih=>kB ih)
  (fun _ _ ih ir=>PSs.weak (pH ih ir) zM)
  hh
theorem sSs (O:Ok X F G sc N) (hf:∀ x,X.fn x=true) {sts:List Pk} (hh:CSs sc N s sts):PSs X sts (tDS X F G s):=by
 refine CSs.rec (motive_1:=fun _ _ _=>True) (motive_2:=fun s sts _=>PSs X sts (tDS X F G s)) ?_ ?_ ?_ ?_ ?_ ?_ ?_ ?_ ?_ ?_ ?_ ?_ ?_ ?_ ?_ ?_ ?_ zP (fun h _=>kB (sS O hf h)) (fun h _ _ ir=>PSs.weak (pH (sS O hf h) ir) zM) hh<;>(intros;trivial)
end
section
variable {K:OX}
mutual
theorem RD.shrink (x:∀ a∈m,a∈m'):∀ {v:V}{d:BT.D},RD K m' H v d->RD K m H v d
 | _,_,.non=>.non
 | _,_,.bl b=>.bl b
 | _,_,.int i=>.int i
 | _,_,.str y h=>.str y h
 | _,_,.tup h r=>.tup (h.elim (fun q=>.inl ⟨q.1,fun z=>q.2 (x _ z)⟩) .inr) (RDs.shrink x r)
 | _,_,.lst h r=>.lst (h.elim (fun q=>.inl ⟨q.1,fun z=>q.2 (x _ z)⟩) .inr) (RDs.shrink x r)
theorem RDs.shrink (x:∀ a∈m,a∈m'):∀ {vs:List V}{ds:List BT.D},RDs K m' H vs ds->RDs K m H vs ds
 | _,_,.nil=>.nil
 | _,_,.cons r t=>.cons (RD.shrink x r) (RDs.shrink x t)
end
end
theorem RFs.shrink {K:OX}:∀ {vs0 vs:List (Str×V)}{fs:List (Str×BT.W)},RFs K m H vs0 fs->RFs K (m++ex) H' vs fs->RFs K m H' vs fs
 | _,_,_,.nil,.nil=>.nil
 | _,_,_,.cons r0 t0,.cons r t=>by
  refine .cons ?_ (RFs.shrink t0 t)
  have back:∀ {n:Nat}{a b:O9},m[n]?=some b->(m++ex)[n]?=some a->m[n]?=some a:=fun {n a b} h1 h2=>by
   rw[O6 (getD_some h1)] at h2
   exact h2
  cases r with
  | p r=>exact .p (r.shrink fun a ha=>Q8 _ ha)
  | r h=>cases r0 with | r h0=>exact .r (back h0 h)
  | o h=>cases r0 with | o h0=>exact .o (back h0 h)
theorem RKs.shrink {K:OX} (sub:∀ a∈m,a∈m') (r:RKs K m' H vs kvs):RKs K m H vs kvs:=by
 induction r with
 | nil=>exact .nil
 | cons hk r t ih=>exact .cons (hk.shrink sub) (r.shrink sub) ih
theorem cU {K:OX} (e:BT.fin h y g=some (z,h')) (R:RH K m H h) (x:Ext m H m' H') (R':RH K m' H' g) (r:RW P w K m' H' v y) :
 ∃ m2,Ext m H m2 H'/\RH K m2 H' h'/\RW P w K m2 H' v z:=by
 unfold BT.fin at e
 split at e
 ·cases e;exact ⟨m',x,R',r⟩
 ·split at e
  ·rename_i c1 c2
   obtain ⟨ex,rfl,hx⟩:=x.pre
   have sub:∀ a∈m,a∈m++ex:=fun a ha=>Q8 _ ha
   have x2:Ext m H m H':=⟨⟨[],by simp,by simp⟩,x.keep,x.live⟩
   have R2:RH K m H' h:=by
    refine ⟨R.nd,R.len,fun i a xs e1 e2=>?_,R'.tb⟩
    have hi:i < m.length:=getD_some e1
    have hi2:i < h.length:=by rw[← R.len];exact hi
    have e3:g[i]?=some xs:=by
     rw[← c2,Rg hi2] at e2
     exact e2
    have z:=R'.cl i a xs (by rw[O6 hi];exact e1) e3
    cases xs with
    | l ys=>obtain ⟨vs,q1,q2⟩:=z;exact ⟨vs,q1,q2.shrink sub⟩
    | o c fs =>
     obtain ⟨C0,dx0,vs0,_,_,q0⟩:=R.cl i a _ e1 e2
     obtain ⟨C,dx,vs,q1,q2,q3⟩:=z
     exact ⟨C,dx,vs,q1,q2,q0.shrink q3⟩
    | d kvs=>obtain ⟨vs,q1,q2⟩:=z;exact ⟨vs,q1,q2.shrink sub⟩
   cases r with
   | p r=>cases e;exact ⟨m,x2,R2,.p (r.shrink sub)⟩
   | k _ _=>cases e
   | kl _ _=>cases e
   | c _ _=>cases e
   | x _=>cases e
   | g _ _=>cases e
   | @o a n hn =>
    simp only at e
    split at e
    ·rename_i c3
     cases e
     refine ⟨m,x2,R2,.o ?_⟩
     rw[O6 (by rw[R.len];exact c3)] at hn
     exact hn
    ·cases e;exact ⟨m++ex,x,R',.o hn⟩
   | @r a n hn =>
    simp only at e
    split at e
    ·rename_i c3
     cases e
     refine ⟨m,x2,R2,.r ?_⟩
     rw[O6 (by rw[R.len];exact c3)] at hn
     exact hn
    ·rename_i c3
     obtain ⟨xs,e4,e5⟩:=az e
     cases e5
     obtain ⟨vs,q1,q2⟩:=R'.cell n a xs hn e4
     refine ⟨m,x2,R2,.p (.lst (.inl ⟨.inl q1,fun z=>?_⟩) (q2.shrink sub))⟩
     obtain ⟨j,hj⟩:=QJ z
     have hjl:=getD_some hj
     have ej:(m++ex)[j]?=some a:=by rw[O6 hjl];exact hj
     have:=ng R'.nd ej hn
     rw[R.len] at hjl
     lia
  ·cases e;exact ⟨m',x,R',r⟩
theorem dR {K:OX} (r:RWs P w K m H vs ws):RS P w K m H (L2.start N vs) (BT.aL N.length ws):=by
 have hl:=r.length
 refine ⟨by simp[L2.start,BT.aL,hl],fun i y e=>?_⟩
 simp only[BT.aL] at e
 by_cases c:i < ws.length
 ·rw[O6 (by simpa using c),PR] at e
  obtain ⟨z,e1,e2⟩:=az e
  cases e2
  have:∀ {vs:List V}{ws:List BT.W}{i:Nat},RWs P w K m H vs ws->ws[i]?=some y->∃ v,vs[i]?=some v/\RW P w K m H v y:=by
   intro vs ws i r
   induction r generalizing i with
   | nil=>intro e;simp at e
   | cons r t ih =>
    intro e
    cases i with
    | zero=>simp at e;subst e;exact ⟨_,rfl,r⟩
    | succ i=>simpa using ih (by simpa using e)
  obtain ⟨v,h1,h2⟩:=this r e1
  refine ⟨v,?_,h2⟩
  unfold L2.start
  rw[O6 (by simp;lia),PR,h1];rfl
 ·rw[Py (by simpa using c),QS] at e
  split at e<;>cases e
theorem GP {K:OX} (hT:BT.mD L=some ⟨ns,ns,.ret bt⟩)
 (hg:∀ ws h r,g ws h=some r->ws.length=ns.length/\BT.iy (BT.evS F G (.ret bt) (BT.aL ns.length ws) h) (BT.fin h)=some r)
 (hO:∀ (q:Str) (sc:Qc) (cl:List (Str×O9)) (f c':O9) (A:QV) (outer:List Env) (s:O4) (H:Hp),ns.Nodup->bA k (A.deeper (RP q sc s.heap.objs.size f (.ref c') cl))->Ok (ze P w K mg base ns q sc cl f c' A outer s H) F G sc ns):qj P w K mg base (k+1) L g:=by
 intro A outer s H f us vs cvs m ws cs h z h' Q E hr e0 rv R rw nc la rc e post
 obtain ⟨bt',ps,fs,pa,be,sc,cl,pm,ctv,c',oc,os,t,q,l0,l1,l2,l3,l4,l5,l6,l7,l8,l9,l10⟩:=la
 rw[hT] at l0
 cases l0
 have lf:=Kn l2
 obtain ⟨hwl,e1⟩:=hg _ _ _ e
 have C:=l10.cells l5
 have DM:=rv.length
 have AV:=rw.length
 have w5:=l10.len
 have AW:cvs.length=cs.length:=by
  clear e e1 hwl l10 w5
  induction rc with
  | nil=>rfl
  | cons _ _ ih=>simp[ih]
 have hu:us.length=ps.length:=by
  simp only[PJ,Pr] at hwl
  lia
 refine PySem.W.kla_callFunE hr.depth (e0.hok _ _ l6.1).1 rfl lf.co lf.ge rfl ⟨c',oc,os,t,rfl,(e0.hok _ _ l7.1).1,l8,l9⟩ ?_
 rw[Cr l1 hu]
 refine wpAny_pure (wpAny_newFunctionEnv lf.cell (fun y hy=>lf.loc y.1 (SE hy).1) (fun h1 hns hsb=>?_) lf.kd)
 have hk1:∀ b o,s.heap.get? b=some o->h1.get? b=some o:=fun b o e=>hsb.extBut b o (PL (O7 e)) (OZ _ e)
 refine ⟨e0.mod.nolimit.keeps fun b o e=>hk1 b o (e0.bs b o e).1,?_⟩
 show codeAny _ _ (.expr be (RP q sc s.heap.objs.size f (.ref c') cl)) _ _
 refine PySem.W.kla_codeExpr ?_
 have I:=Cs (q:=q) (f:=f) (c':=c') (tk:=s.toks+(ps.zip us).length) l1 lf l4 l5 l10 hr.hd e0 rv hu hns hk1
 have hr1:bA k (A.deeper (RP q sc s.heap.objs.size f (.ref c') cl)):=hr.deeper _
 have O:=hO q sc cl f c' A outer s H lf.nd hr1
 simp only[BT.evS] at e1
 cases g1:BT.ev F G bt (BT.aL (ps++fs).length (ws++cs.map BT.Cp.w)) h with
 | none=>rw[g1] at e1;cases e1
 | some yg =>
  obtain ⟨y,gh⟩:=yg
  rw[g1] at e1
  have e2:BT.fin h y gh=some (z,h'):=e1
  have hs:RS P w K m (hid cl H) (vs.map some++cvs.map some) (BT.aL (ps++fs).length (ws++cs.map BT.Cp.w)):=by
   have r0:=dR (N:=ps++fs) ((rw.tr C.sq nc).app (RCs.ws (P:=P) (w:=w) (rc.tr C.sq)))
   have e3:L2.start (ps++fs) (vs++cvs)=vs.map some++cvs.map some:=by
    unfold L2.start
    simp only[PJ]
    rw[show ps.length+fs.length - (vs.length+cvs.length)=0 by lia]
    simp
   rw[e3] at r0;exact r0
  refine wpAny_mono (sE l3 O [] _ _ _ (fun v H'=>∃ m',Ext m (hid cl H) m' H'/\RH K m' H' gh/\RW P w K m' H' v y) I ⟨m,_,h,y,gh,C.rh R,hs,g1,fun v H' m' x' R' r'=>⟨m',x',R',r'⟩⟩) (fun u s' ⟨v,H',I',rv',m',x',R',r'⟩=>?_) (fun e s' hx=>PN hx)
  have N':∀ x c,cl.lookup x=some c->H' c=none:=fun x c e=>I'.freeC x c e
  have le:Le H' (ret cl H H'):=Gu N'
  obtain ⟨m2,x2,R2,r2⟩:=cU e2 (C.rh R) x' R' r'
  have B:Un (frs outer) [] (hid cl H) H' s.heap s'.heap:=I'.base
  have nc':∀ b,H b=none->¬ ∃ y,cl.lookup y=some b:=fun b n ⟨y,qq⟩=>by
   obtain ⟨o,uu,k1,_⟩:=C y b qq
   rw[n] at k1;cases k1
  refine ⟨v,ret cl H H',I'.os,I'.bare,⟨fun b o e n hb hx=>B.keep b o e (dg n) hb hx,fun b o e n hb hx=>B.slot b o e (dg n) hb hx,fun b o e n hx=>?_,fun b o e hx=>B.there b o e hx,fun b xs e=>?_,fun b o uu e=>?_,fun b qs e=>?_⟩,fun b uu e=>?_,rv',post v _ m2 (C.Gv N' x2 R2) (R2.le le) (r2.le le)⟩
  ·rw[eS (nc' b n)];exact B.free b o e (dg n) hx
  ·rw[eS (C.out e rfl)];exact B.tups b xs (C.hid e rfl)
  ·by_cases cc:∃ y,cl.lookup y=some b
   ·obtain ⟨y,qq⟩:=cc;rw[oF qq];exact e
   ·rw[eS cc];exact B.frzs b o uu (by rw[cW cc];exact e)
  ·rw[eS (C.out e rfl)];exact B.tbls b qs (C.hid e rfl)
  ·by_cases cc:∃ y,cl.lookup y=some b
   ·obtain ⟨y,qq⟩:=cc
    rw[oF qq] at e
    obtain ⟨o,u2,k1,k2⟩:=C y b qq
    rw[k1] at e
    cases e
    have k3:=B.keep b o (e0.hok _ _ k1).1 (sA qq) (fun hb=>by rw[e0.frf b hb] at k1;cases k1) (by simp)
    exact ⟨k3,_,k3⟩
   ·rw[eS cc] at e
    exact (I'.hok b uu e).stay (fun _ _ _ q=>q) (fun d q=>le _ _ q) fun d xs q=>le _ _ q
noncomputable def fJ (K:OX) (q:Str) (fd:Qm) (fn:BT.Fn):Prop:=∀ y,fn.ns.contains (BT.bU y)=true->q=y/\y∈BT.dG ∧
 (∃ c P,Qj K y=some (c,P)/\fd.code=.ref c/\Tw K c P=true/\∀ z∈BT.dG,∀ c2,Qj K z=some (c2,P)->z=y) ∧
 ∃ bm ob,P1 K Pd "__builtins__"=some (some (.ref bm))/\bm≠Rm/\K.lookup bm=some ob/\ob.cls=.type "module"/\ob.dict=some Rm/\ob.data=.plain
inductive Kz (K:OX) (mg:Str->Option Value) (x:Str) (fn:BT.Fn):Prop where
 | mk (f:O9) (fd:Qm) (st:Pk) (h1:mg x=some (.ref f)) (h2:Fun K x x st f fd) (h3:aM fn.ns fn.ps (aa st)) (h4:Binds K fd fn.ps []) (h5:CSs (aa st) fn.ns fn.body (aq st)) (h6:fJ K x fd fn):Kz K mg x fn
structure Def (K:OX) (mg:Str->Option Value) (x:Str) (fn:BT.Fn):Prop where
 ex:Kz K mg x fn
inductive Er (K:OX) (mg:Str->Option Value) (c m:Str) (fn:BT.Fn):Prop where
 | mk (C f:O9) (fd:Qm) (x qual:Str) (st:Pk) (h1:iB K c C) (h2:mg c=some (.ref C)) (h3:nL K C m f) (h4:(m="__init__"->Mk K C f)) (h5:Fun K x qual st f fd) (h6:aM fn.ns fn.ps (aa st)) (h7:Binds K fd fn.ps []) (h8:CSs (aa st) fn.ns fn.body (aq st)) (h9:fJ K qual fd fn):Er K mg c m fn
structure zQ (K:OX) (mg:Str->Option Value) (c m:Str) (fn:BT.Fn):Prop where
 ex:Er K mg c m fn
structure Txt (P:Pv) (w:P0) (K:OX) (mg:Str->Option Value) (T:BT.FK->Option BT.Fn) (G:Str->Option BT.W):Prop where
 defs:∀ x fn,T (.f x)=some fn->Def K mg x fn
 meths:∀ c m fn,T (.m c m)=some fn->zQ K mg c m fn
 lams:∀ L fn,T (.l L)=some fn->BT.mD L=some fn/\∃ ns bt,fn=⟨ns,ns,.ret bt⟩/\∀ y,ns.contains (BT.bU y)=false
 glob:∀ x z,G x=some z->∃ u v,mg x=some u/\RelV v u/\∀ m H,RW P w K m H v z
 blt:∀ x∈Gd,mg x=none
theorem uJ (e:BT.runN T G k x ws h=some r):∃ fn,T x=some fn:=by
 cases k with
 | zero=>cases e
 | succ k =>
  rw[BT.runN] at e
  cases q:T x with
  | none=>rw[q] at e;cases e
  | some fn=>exact ⟨fn,rfl⟩
theorem oO {K:OX}{st:Pk} (F:Fun K x qual st f fd) (S:aM N ps (aa st)) (len:∀ vs H Q E,sp vs H Q E->vs.length=ps.length)
 (hbody:∀ (cdv:Value) (A:QV) (outer:List Env) (s:O4) (H:Hp) (vs:List V) (Q:VK) (E:XK),fd.code=cdv->bA k (A.deeper (Rr qual (aa st) s.heap.objs.size f cdv))->Mod K mg base->sp vs H Q E →
  ∃ t,PSs (aI CX0 P w K mg base N qual (aa st) f cdv A outer s H E).nox (aq st) t/\t { nx:=fun _ H'=>Q .non H',rt:=Q } (L2.start N vs) H):bS P w K mg base CX0 (k+1) f fd ps sp:=by
 obtain ⟨oc,od,kV,doc,pm,an,cdv,ct,osl,rfl,lk,hcd⟩:=F.ex
 refine ⟨len,fun A outer s H args us vs Q E hr e0 hb r hs=>?_⟩
 have F1:bS P w K mg base CX0 (k+1) f (Qo x qual (b8 st) (aq st) (aa st) .none kV doc pm an cdv ct) ps sp:=xT lk hcd S len fun A outer s H vs Q E hr hsp=>by
  obtain ⟨t,h,q⟩:=hbody cdv A outer s H vs Q E rfl hr e0.mod hsp
  exact ⟨t,h.nox,q⟩
 exact F1.run A outer s H args us vs Q E hr e0 hb r hs
theorem qx {K:OX} (X:Txt P w K mg T G)
 (ih:∀ (x:BT.FK) (fn:BT.Fn),T x=some fn->∀ (f:O9) (fd:Qm) (nm qual:Str) (st:Pk),Fun K nm qual st f fd->aM fn.ns fn.ps (aa st)->CSs (aa st) fn.ns fn.body (aq st)->fJ K qual fd fn->bS P w K mg base CX0 (2*k) f fd fn.ps (spF P w K (BT.runN T G k x)))
 (il:∀ L,(∃ fn,T (.l L)=some fn)->qj P w K mg base (2*k) L (BT.runN T G k (.l L)))
 (e1:Y.prog=P) (e2:Y.w=w) (e3:Y.K=K) (e4:Y.mg=mg) (e5:Y.base=base) (hsc:Y.env.scope=sc) (hN:Y.N=N) (nd:Y.N.Nodup) (ca:Y.calm=true) (hr:bA (2*k+1) Y.A) (own:UQ (Pp Y.prog Y.w) Y.A Y.env Y.xe)
 (lx:(∀ x,Y.fn x=true)->∀ x,N.contains (BT.bU x)=true->LX Y x):Ok Y (BT.runN T G k) G sc N:=by
 subst e1 e2 e3 e4 e5
 refine ⟨hsc,hN,nd,fun _=>ca,?_,own,X.glob,fun g ws h r e=>?_,fun c g ws h r e=>?_,fun c ws h r e=>?_,X.blt,fun L ws h r e=>⟨2*k,hr.mono (P9 _),il L (uJ e)⟩,lx⟩
 ·have:=hr.un
  lia
 ·obtain ⟨fn',hTg⟩:=uJ e
  obtain ⟨f',fd',st',a1,a2,a3,a4,a5,a6⟩:=(X.defs g fn' hTg).ex
  exact ⟨f',fd',fn'.ps,2*k,a1,a2.kp,a4,hr.mono (P9 _),ih _ fn' hTg f' fd' g g st' a2 a3 a5 a6⟩
 ·obtain ⟨fn',hTg⟩:=uJ e
  obtain ⟨C,f',fd',x',q',st',b1,b2,b3,b4,a2,a3,a4,a5,a6⟩:=(X.meths c g fn' hTg).ex
  exact ⟨C,f',fd',fn'.ps,2*k,b1,b3,a4,hr.mono (P9 _),ih _ fn' hTg f' fd' x' q' st' a2 a3 a5 a6⟩
 ·obtain ⟨fn',hTg⟩:=uJ e
  obtain ⟨C,f',fd',x',q',st',b1,b2,b3,b4,a2,a3,a4,a5,a6⟩:=(X.meths c _ fn' hTg).ex
  exact ⟨C,f',fd',fn'.ps,2*k,b1,b2,b4 rfl,a4,hr,ih _ fn' hTg f' fd' x' q' st' a2 a3 a5 a6⟩
theorem g9 {K:OX} (X:Txt P w K mg T G) :
 ∀ (k:Nat),(∀ (x:BT.FK) (fn:BT.Fn),T x=some fn->∀ (f:O9) (fd:Qm) (nm qual:Str) (st:Pk),Fun K nm qual st f fd->aM fn.ns fn.ps (aa st)->CSs (aa st) fn.ns fn.body (aq st)->fJ K qual fd fn->bS P w K mg base CX0 (2*k) f fd fn.ps (spF P w K (BT.runN T G k x))) ∧
  ∀ L,(∃ fn,T (.l L)=some fn)->qj P w K mg base (2*k) L (BT.runN T G k (.l L)):=by
 intro k
 induction k with
 | zero =>
  refine ⟨fun x fn hT f fd nm qual st h2 h3 h5 h6=>?_,fun L hL=>?_⟩
  ·have no:∀ vs H Q E,¬ spF P w K (BT.runN T G 0 x) vs H Q E:=fun vs H Q E h=>by
    obtain ⟨m,ws,h,z,h',_,_,e,_⟩:=h
    cases e
   exact ⟨fun vs H Q E h=>absurd h (no vs H Q E),fun A outer s H args us vs Q E _ _ _ _ h=>absurd h (no vs H Q E)⟩
  ·intro A outer s H f us vs cvs m ws cs h z h' Q E hr e0 rv R rw nc la rc e post
   cases e
 | succ k ihk =>
  obtain ⟨ih,il⟩:=ihk
  refine ⟨fun x fn hT f fd nm qual st h2 h3 h5 h6=>?_,fun L hL=>?_⟩
  ·show bS P w K mg base CX0 (2*k+1+1) f fd fn.ps (spF P w K (BT.runN T G (k+1) x))
   refine oO h2 h3 (fun vs H Q E h=>?_) fun cdv A outer s H vs Q E hcd hr hM h=>?_
   ·obtain ⟨m,ws,h,z,h',R,r,e,post⟩:=h
    rw[BT.runN,hT] at e
    simp only at e
    split at e
    ·rename_i c;rw[r.length];exact c
    ·cases e
   ·obtain ⟨m,ws,h,z,h',R,r,e,post⟩:=h
    rw[BT.runN,hT] at e
    simp only at e
    split at e
    ·have O:Ok (aI CX0 P w K mg base fn.ns qual (aa st) f cdv A outer s H E).nox (BT.runN T G k) G (aa st) fn.ns:=by
      refine qx X ih il rfl rfl rfl rfl rfl rfl rfl h3.nd rfl hr Sn fun _ y hy=>?_
      obtain ⟨t1,t2,⟨c,Pt,t3,t4,t5,t6⟩,bm,ob,t7,t8,t9,t10,t11,t12⟩:=h6 y hy
      exact ⟨t2,⟨c,Pt,t3,hcd.symm.trans t4,RK hM.kin t5,t6⟩,by show qual++".<locals>."=_;rw[t1],bm,ob,P5 hM.kin hM.glob t7,t8,hM.kin _ _ t9,t10,t11,t12⟩
     refine ⟨_,sSs O (fun _=>rfl) h5,?_⟩
     cases gg:BT.evS (BT.runN T G k) G fn.body (BT.aL fn.ns.length ws) h with
     | none=>rw[gg] at e;cases e
     | some fl =>
      rw[gg] at e
      refine ⟨m,_,h,fl,R,dR r,gg,?_⟩
      cases fl with
      | rt y g =>
       intro v H' m' x' R' r'
       obtain ⟨m2,y1,y2,y3⟩:=cU e R x' R' r'
       exact post v H' m2 y1 y2 y3
      | nx s' g =>
       intro σ' H' m' x' R' _
       obtain ⟨m2,y1,y2,y3⟩:=cU (v:=.non) e R x' R' (.p .non)
       exact post .non H' m2 y1 y2 y3
      | bk s' g=>cases e
      | ct s' g=>cases e
    ·cases e
  ·obtain ⟨fn,hT⟩:=hL
   obtain ⟨hl,ns,bt,rfl,nt⟩:=X.lams L fn hT
   show qj P w K mg base (2*k+1+1) L (BT.runN T G (k+1) (.l L))
   refine GP (F:=BT.runN T G k) (G:=G) hl (fun ws h r e=>?_) fun q sc cl f c' A outer s H nd hr=>qx X ih il rfl rfl rfl rfl rfl rfl rfl nd rfl hr Sn fun _ y hy=>absurd hy (by rw[nt y];decide)
   rw[BT.runN,hT] at e
   simp only at e
   split at e
   ·rename_i c;exact ⟨c,e⟩
   ·cases e
end BS
end
section
end
section
namespace BS
open PySem PySem.Spec PyProof.Rows L2
inductive CX1 (P:Pv) (w:P0) (outer:List Env) (H:Hp) (s:O4) (E:XK) (e:Value) (s':O4):Prop where
 | mk (x C:O9) (H':Hp) (B G:Heap) (a0:Value) (he:e=.ref x) (os:s'.os=s.os) (bare:T7 s'.gens) (un:Un (frs outer) [] H H' s.heap s'.heap) (hk:HOk P w H' s'.heap) (fl:Heap.FlyingW B outer x (.ref C) a0 s'.heap)
  (cov:∀ b o,s.heap.get? b=some o->b∉frs outer->∃ o',B.get? b=some o'/\(H b=none->o'=o)) (hg:HOk P w H' G) (cv:∀ b o,H' b≠none->G.get? b=some o->B.get? b=some o) (q:E (.ref C) none H'):CX1 P w outer H s E e s'
theorem sG {P:Pv}{w:P0}{H:Hp}{G B h:Heap} (x:HOk P w H G) (k:∀ b o,H b≠none->G.get? b=some o->B.get? b=some o) (st:B.StaysIn h):HOk P w H h:=fun b u e =>
 (x b u e).stay (fun c v hc q=>st c v (k c v (by rcases hc with rfl | hc<;>simp[*]) q)) (fun _ q=>q) fun _ _ q=>q
section
variable {K:OX}{E:XK}
theorem sH {pins:List (O9×Obj)}{σ:L2.St}{H1:Hp}{s1:O4}{B h':Heap} (I:Inv (aI CX P w K mg base N qual scope f cd A outer s H E) pins σ H1 s1)
 (cov:∀ b o,s.heap.get? b=some o->b∉frs outer->∃ o',B.get? b=some o'/\(H b=none->o'=o)) (st:B.StaysIn h') (up:s1.heap.UpToSlots h'):Un (frs outer) [] H H1 s.heap h':=by
 have fr:∀ b o,s.heap.get? b=some o->H b=none->b∈frs outer->∃ sl,h'.get? b=some { o with slots:=sl }:=fun b o e n hb=>by
  obtain ⟨sl,q⟩:=I.base.slot b o e n hb (by simp[aI])
  obtain ⟨_,o2,ho,hd⟩:=I.ok.fL.mem hb
  have ho:s.heap.get? b=some o2:=ho
  rw[e] at ho
  cases ho
  obtain ⟨sl2,q2⟩:=up b _ q hd
  exact ⟨sl2,q2⟩
 refine ⟨fun b o e n hb _=>?_,fun b o e n hb _=>fr b o e n hb,fun b o e n _=>I.base.free b o e n (by simp[aI]),fun b o e _=>?_,I.base.tups,I.base.frzs,I.base.tbls⟩
 ·obtain ⟨o',q,r⟩:=cov b o e hb
  rw[r n] at q
  exact st b o q
 ·by_cases hb:b∈frs outer
  ·obtain ⟨sl,q⟩:=fr b o e (I.ok.frf b hb) hb
   exact ⟨_,q⟩
  ·obtain ⟨o',q,_⟩:=cov b o e hb
   exact ⟨o',st b o' q⟩
theorem gJ (I:Inv (aI CX P w K mg base N qual scope f cd A outer s H E) pins σ H1 s1) (e:s.heap.get? b=some o) (hb:b∉frs outer) :
 b∉frs (aI CX P w K mg base N qual scope f cd A outer s H E).stack:=fun z=>by
 rcases List.mem_cons.mp (I.iG b z) with q | q
 ·have:s.heap.objs.size<=b:=by rw[q];exact I.ok.above
  exact absurd (O7 e) (Nat.not_lt.mpr this)
 ·exact hb q
end
section
variable {K:OX}{E:XK}
theorem C3 (I:Inv (aI (CX1 P w) P w K mg base N qual scope f cd A outer s H E) pins σ H1 s1)
 (hx:SV s1.heap h2 x (.ref C) args) (hE:E (.ref C) none H1):(aI (CX1 P w) P w K mg base N qual scope f cd A outer s H E).xe (.ref x) { s1 with heap:=h2 }:=by
 show wpAny (Pp P w) (A.deeper (Rr qual scope s.heap.objs.size f cd)) (leaving (Rr qual scope s.heap.objs.size f cd) (.ref x)) _ _ _
 have hin:∀ env∈(Rr qual scope s.heap.objs.size f cd :: outer),∀ b,env.frame=some b->b∈frs (Rr qual scope s.heap.objs.size f cd :: outer):=fun env he b hb=>List.mem_filterMap.mpr ⟨env,he,hb⟩
 refine wpAny_leaves_madeW (s:={ s1 with heap:=h2 }) (base:=Sy s1.heap (frs (Rr qual scope s.heap.objs.size f cd :: outer))) (h:=s1.heap) I.ok.frames rfl (fun b o q=>UV _ q) (PySem.W.funFrames_hide I.stack hin) hx fun h' t x1 x2 x3 x4=>?_
 have cov:∀ b o,s.heap.get? b=some o->b∉frs outer->∃ o',(Sy s1.heap (frs (Rr qual scope s.heap.objs.size f cd :: outer))).get? b=some o'/\(H b=none->o'=o):=fun b o e hb=>by
  obtain ⟨o',q⟩:=I.base.there b o e (by simp[aI])
  refine ⟨o',SL _ q (gJ I e hb),fun n=>?_⟩
  have:=I.base.keep b o e n hb (by simp[aI])
  rw[q] at this
  exact O5 this
 have cv2:∀ b o,H1 b≠none->s1.heap.get? b=some o->(Sy s1.heap (frs (Rr qual scope s.heap.objs.size f cd :: outer))).get? b=some o:=fun b o n e=>SL _ e fun z=>n (I.kq b z)
 exact ⟨x,C,H1,_,s1.heap,.ref t,rfl,I.os,I.bare,sH I cov x1.1 ((Heap.UpToSlots.of_keeps hx.keeps).trans x4),sG I.hok cv2 x1.1,x1,cov,I.hok,cv2,hE⟩
theorem KA (hE:∀ C H',E1 (.ref C) none H'->E (.ref C) none H'):dw (CX1 P w) (aI (CX1 P w) P w K mg base N qual scope f cd A outer s H E) E1:=by
 intro pins σ H1 s1 e s' I h
 obtain ⟨x,C,H',B,G,a0,rfl,e1,e2,un,ho,fl,cov,hg,cv2,hE1⟩:=h
 show wpAny (Pp P w) (A.deeper (Rr qual scope s.heap.objs.size f cd)) (leaving (Rr qual scope s.heap.objs.size f cd) (.ref x)) _ _ _
 have J:Inv (aI (CX1 P w) P w K mg base N qual scope f cd A outer s H E) pins σ H' s':=I.xj (ch:=[]) e1 un ho e2 (fun b z=>absurd z (by simp))
 refine wpAny_leaves_onW (Q:=fun _ s''=>CX1 P w outer H s E (.ref x) s'') I.ok.frames rfl fl fun h' x1 x2=>?_
 have cov':∀ b o,s.heap.get? b=some o->b∉frs outer->∃ o',B.get? b=some o'/\(H b=none->o'=o):=fun b o e hb=>by
  obtain ⟨o1,q⟩:=I.base.there b o e (by simp[aI])
  obtain ⟨o2,q2,r2⟩:=cov b o1 q (gJ I e hb)
  refine ⟨o2,q2,fun n=>?_⟩
  have k:=I.base.keep b o e n hb (by simp[aI])
  rw[q] at k
  rw[r2 (I.base.free b o e n (by simp[aI]))]
  exact O5 k
 exact ⟨x,C,H',B,G,a0,rfl,J.os,J.bare,sH J cov' x1.1 x2,sG hg cv2 x1.1,x1,cov',hg,cv2,hE C H' hE1⟩
end
theorem nu {i:Int} (h:i.natAbs < 2 ^ 64):i.natAbs.log2 < 1920:=by
 by_cases z:i.natAbs=0
 ·rw[z];decide
 ·have:=(Nat.log2_lt z).mpr h
  lia
structure kg (K:OX) (C:O9):Prop where
 ok:Uq K C [.type "ValueError",.type "Exception",.type "BaseException",.type "object"] "ValueError.__new__"=true
inductive KB (K:OX) (C:O9) (h:Heap):Prop where
 | mk (bm:List Value) (N:O9) (nm qn:Str) (bs:List Value) (hdct:Bool) (sn:List Str) (sub:List Value) (ab:Bool) (col:Option Bool) (dd:Option O9) (k0 k1 k2 k3 k5:Option Value) (mN:Str->Option Value) (hC:h.get? C=some (TU nm qn C N bs bm hdct sn sub ab col dd k0 k1 k2 k3 k5 "ValueError.__new__"))
  (hN:h.Ns N mN) (hni:mN "__init__"=none) (T:OwnTail h [.type "ValueError",.type "Exception",.type "BaseException",.type "object"] bm) (lC:K.lookup C=some (TU nm qn C N bs bm hdct sn sub ab col dd k0 k1 k2 k3 k5 "ValueError.__new__")):KB K C h
theorem kg.obj {K:OX} (X:K.In h) (q:kg K C):KB K C h:=by
 have q:=q.ok
 unfold Uq at q
 split at q
 ·rename_i dd cd sl ho
  split at q
  ·rename_i C' bm k0 k1 k2 k3 n k5 hm hs
   simp only[OY,beq_iff_eq,Q6] at q
   obtain ⟨⟨⟨⟨⟨rfl,rfl⟩,hdel⟩,ht⟩,hok⟩,hni⟩:=q
   obtain ⟨nm,bs,mro,ns,qn,hd,sn,sub,ab,col,del⟩:=cd
   dsimp only at hm hdel hok hni
   subst hm hdel
   have hsl:sl=#[k0,k1,k2,k3,some (.builtin "ValueError.__new__"),k5]:=by
    obtain ⟨l⟩:=sl
    simp only at hs
    rw[hs]
   subst hsl
   exact ⟨bm,ns,nm,qn,bs,hd,sn,sub,ab,col,dd,k0,k1,k2,k3,k5,_,X _ _ ho,.of_isNs (PySem.W.isNs_of_in X hok),PySem.W.nsMap_none_of_in X hok hni,PySem.W.tail_of_in X ht,ho⟩
  ·cases q
 ·cases q
inductive wG:V->Prop where
 | int {i:Int} (h:i.natAbs < 2 ^ 64):wG (.int i)
 | str {x:Str} (h:(reprText x).length<=1921):wG (.str x)
 | non:wG .non
 | bl {b:Bool}:wG (.bl b)
theorem GQ (h:wG v) (r:RelV v u):∃ x:Str,x.length<=1921/\∀ {A:QV}{E:Value->O4->Prop}{s:O4}{Q:Value->O4->Prop},Q (.str x s.toks) { s with toks:=s.toks+1 }->wpAny (Pp P w) A (pyReprObj u) Q E s:=by
 have lz:(1921:Nat)<=sizeLine:=by decide
 cases h with
 | @int i hi =>
  obtain ⟨tk,rfl⟩:=r
  have li:(Pe (toString i)).length<=1921:=by
   rw[PySem.ofString_length]
   exact int_text_length_le (by decide) (nu hi)
  exact ⟨_,li,fun q=>S6 (T:="int") rfl PySem.F.slot_int_repr PySem.F.entry_int_repr (PySem.F.args_int_repr_1 _) (gives_int_repr i tk (nu hi)) q rfl (PD li lz)⟩
 | @str x hx =>
  obtain ⟨tk,rfl⟩:=r
  exact ⟨_,hx,fun q=>wpAny_pyReprObj_str q (PD hx lz)⟩
 | non =>
  obtain rfl:=r
  exact ⟨_,by decide,fun q=>S6 (T:="NoneType") rfl PySem.F.slot_NoneType_repr PySem.F.entry_NoneType_repr (PySem.F.args_NoneType_repr_1 _) gives_none_repr q rfl (by decide)⟩
 | @bl b =>
  obtain rfl:=r
  exact ⟨_,by cases b<;>decide,fun q=>S6 (T:="bool") rfl PySem.F.slot_bool_repr PySem.F.entry_bool_repr (PySem.F.args_bool_repr_1 _) (gives_bool_repr b) q rfl (by cases b<;>decide)⟩
theorem zR (hg:Gl X x) (hn:aA x=true) (hm:X.mg x=some (.ref C)) (hq:kg X.K C) (hc:X.calm=true) (hl:c.length<=1000) (he:PE X e t)
 (I:Inv X pins σ H s)
 (h:t σ H fun v H1=>wG v/\∀ s1 h2 a args,Inv X pins σ H1 s1->SV s1.heap h2 a (.ref C) args->X.xe (.ref a) { s1 with heap:=h2 }) :
 wpAny (Pp X.prog X.w) X.A (exec (.Raise (some (.Call (.Name x np) [.JoinedStr [.Constant (.str c) j p1,.FormattedValue e 114 none p2] p3] [] cpos)) none pos) X.env) Q X.xe s:=by
 obtain ⟨bm,N,nm,qn,bs,hdct,sn,sub,ab,col,dd,k0,k1,k2,k3,k5,mN,hC,hN,hni,T,_⟩:=hq.obj I.mod.kin
 have hdb:(x==("__debug__":Str))=false:=by
  unfold aA at hn
  simp only[OY] at hn
  simpa using hn.1.1
 refine wpAny_Raise_call_subT (C:=C) (nm:=nm) (q:=qn) (N:=N) (bs:=bs) (bm:=bm) (hdct:=hdct) (sn:=sn) (sub:=sub) (ab:=ab) (col:=col) (dd:=dd) (k0:=k0) (k1:=k1) (k2:=k2) (k3:=k3) (k5:=k5)
  PySem.F.excBase_ValueError (mN:=mN) (T.hasType PySem.F.excBase_ValueError.hasBase) (I.ok.hd hc) rfl hni (fM I hg hm ⟨rfl,?_⟩ hdb)
 refine UZ (PU (wpAny_JoinedStr (pos:=p3) ?_))
 show wpAny _ _ (eval (.Constant (.str c) j p1) X.env) _ _ s
 have lz:(1000:Nat)+1921<=sizeLine:=by decide
 have l0:(Tv++c).length<=1000:=by rw[strLen_append];show 0+c.length<=1000;lia
 refine Vj ⟨_,_,rfl,PD l0 (by lia),?_⟩
 show wpAny _ _ (eval (.FormattedValue e 114 none p2) X.env) _ _ _
 refine wpAny_FormattedValue_repr (thn (he pins _ σ H _ (I.tok _) h) fun u s1 zq=>?_)
 obtain ⟨v,H1,I1,r1,hv,post⟩:=zq
 obtain ⟨tx,li,wr⟩:=GQ (P:=X.prog) (w:=X.w) hv r1
 refine wr ?_
 have l1:((Tv++c)++tx).length<=sizeLine:=by rw[strLen_append];lia
 have fin:∀ (tt:Tok) (s2:O4),Inv X pins σ H1 s2->∃ y t,(Sh (tx) tt)=.str y t/\(Tv++c++y).length<=sizeLine/\Joins (Pp X.prog X.w) X.A X.xe [] (Tv++c++y) (fun out s₁=>out.length<=sizeLine/\wpAny (Pp X.prog X.w) X.A (RG (Qx cpos (Pu [] X.env))) (fun vs s₂=>(⟨Sh out s₁.toks :: vs,[]⟩:Args).kw=[]/\(⟨Sh out s₁.toks :: vs,[]⟩:Args).pos.length<=sizeLine/\s₂.heap.get? C=some (TU nm qn C N bs bm hdct sn sub ab col dd k0 k1 k2 k3 k5 "ValueError.__new__")/\s₂.heap.Ns N mN/\OwnTail s₂.heap [.type "ValueError",.type "Exception",.type "BaseException",.type "object"] bm ∧
  ∀ h' e,SV s₂.heap h' e (.ref C) (⟨Sh out s₁.toks :: vs,[]⟩:Args).pos->X.xe (.ref e) { s₂ with heap:=h' }) X.xe { s₁ with toks:=s₁.toks+1 }) s2:=fun tt s2 J=>by
  refine ⟨_,tt,rfl,l1,l1,Qa ?_⟩
  exact ⟨rfl,by show 1<=sizeLine;decide,J.bk _ _ hC,hN.keeps J.bk,T.keeps J.bk,fun h' a hx=>post _ h' a _ (J.tok _) hx⟩
 refine wpAny_formatField_str (fin _ _ (I1.tok _)) (fin _ _ ((I1.tok _).tok _)) (PD li (by lia))
section
variable {K:OX}{E:XK}
theorem uK {h h':Heap}{c:O9}{v:Option Value} (x:h.IsCell c v) (u:h.UpToSlots h'):h'.IsCell c v:=by
 obtain ⟨o,ho,hd⟩:=x
 obtain ⟨sl,q⟩:=u c o ho fun vs z=>by rw[hd] at z;cases z
 exact ⟨_,q,hd⟩
theorem uL {pins:List (O9×Obj)}{σ:L2.St}{H1 H2:Hp}{s1 s2:O4}{B G h':Heap} (I:Inv (aI CX P w K mg base N qual scope f cd A outer s H E) pins σ H1 s1) (J:Inv (aI CX P w K mg base N qual scope f cd A outer s H E) pins σ H2 s2)
 (cov:∀ b o,s1.heap.get? b=some o->b∉frs (aI CX P w K mg base N qual scope f cd A outer s H E).stack->∃ o',B.get? b=some o'/\(H1 b=none->o'=o)) (hg:HOk P w H2 G) (cv2:∀ b o,H2 b≠none->G.get? b=some o->B.get? b=some o)
 (st:B.StaysIn h') (up:s2.heap.UpToSlots h'):Inv (aI CX P w K mg base N qual scope f cd A outer s H E) pins σ H2 { s2 with heap:=h' }:=by
 have cov':∀ b o,s.heap.get? b=some o->b∉frs outer->∃ o',B.get? b=some o'/\(H b=none->o'=o):=fun b o e hb=>by
  obtain ⟨o1,q⟩:=I.base.there b o e (by simp[aI])
  obtain ⟨o2,q2,r2⟩:=cov b o1 q (gJ I e hb)
  refine ⟨o2,q2,fun n=>?_⟩
  have k:=I.base.keep b o e n hb (by simp[aI])
  rw[q] at k
  rw[r2 (I.base.free b o e n (by simp[aI]))]
  exact O5 k
 refine ⟨J.ok,J.os,J.bare,sH J cov' st up,?_,fun x c e=>?_,J.free,J.freeC,fun p hp=>?_,sG hg cv2 st,J.len⟩
 ·obtain ⟨m,hn,hl⟩:=J.loc
  refine ⟨m,up.ns hn,fun i x v h1 h2 h3=>?_⟩
  obtain ⟨u,r,q⟩:=hl i x v h1 h2 h3
  refine ⟨u,r,?_⟩
  rcases q with q | ⟨k,c,e,z⟩
  ·exact .inl q
  ·exact .inr ⟨k,c,e,uK z up⟩
 ·obtain ⟨v,z⟩:=J.cell x c e
  exact ⟨v,uK z up⟩
 ·obtain ⟨e,n,ne,nf,d⟩:=J.pin p hp
  obtain ⟨e1,n1,ne1,nf1,d1⟩:=I.pin p hp
  have ns:p.1∉frs (aI CX P w K mg base N qual scope f cd A outer s H E).stack:=fun z=>by
   rcases List.mem_cons.mp (I.iG p.1 z) with q | q
   ·exact ne1 q
   ·exact nf1 q
  obtain ⟨o',q,r⟩:=cov p.1 p.2 e1 ns
  rw[r n1] at q
  exact ⟨st _ _ q,n,ne,nf,d⟩
end
section
variable {E:Value->O4->Prop}
variable {D:O9}{hdct hdct2:Bool}{ab ab2:Bool}{dd:Option O9}{k2:Option Value}
theorem lK {os:OsState}
 (hC:h.get? C=some (TU nm q C N bs bm hdct sn sub ab col dd k0 k1 k2 k3 k5 newId)) (hD:h.get? D=some (TU nm2 q2 D N2 bs2 bm2 hdct2 sn2 sub2 ab2 col2 dd2 j0 j1 j2 j3 j5 newId2)) (he:h.get? e=some oe) (hcls:oe.cls=.ref C) (hbase:bm2.contains (.type "BaseException")=true)
 (hcD:(Px C :: bm).contains (.ref D)=true) (hq:Q true ⟨h,g,d,t,os⟩):wpAny M A (excMatches (.ref e) (.ref D)) Q E ⟨h,g,d,t,os⟩:=by
 have hcB:(Px D :: bm2).contains (.type "BaseException")=true:=by rw[VC,hbase,Bool.or_true]
 have f:=tc_notTuple
 unfold excMatches
 repeat (first | (with_reducible refine wpAny_loadPart_at he ?_;rw[hcls]) | with_reducible refine wpAny_loadPart_at hD ?_ | (with_reducible refine wpAny_isSubtype_exc hD ?_;rw[hcB]) | (with_reducible refine wpAny_isSubtype_exc hC ?_;rw[hcD]) | wp_step)
 exact hq
end
noncomputable def cxH (X:Cx) (x:O9) (oe:Obj) (xe':Value->O4->Prop):Cx:={ X with A:=X.A.mark (some (.ref x)),calm:=false,pn:=(x,oe) :: X.pn,xe:=xe' }
theorem GR (I:Inv X pins σ H s) (hx:s.heap.get? x=some oe) (hH:H x=none) (hl:x≠X.env.locals) (hf:x∉X.fs) (hd:∀ v,oe.data≠.cell v) :
 Inv (cxH X x oe xe') pins σ H s:=by
 refine ⟨⟨I.ok.mod,I.ok.kind,I.ok.glob,I.ok.blt,I.ok.above,I.ok.inj,I.ok.has,I.ok.cab,fun z=>(by cases z),I.ok.frames,I.ok.stk,I.ok.exf,I.ok.bs,I.ok.bsz,I.ok.noex,I.ok.exfs,I.ok.fL,I.ok.frf⟩,
  I.os,I.bare,I.base,I.loc,I.cell,I.free,I.freeC,fun p hp=>?_,I.hok,I.len⟩
 have hp:p∈(x,oe) :: (X.pn++pins):=hp
 rcases List.mem_cons.mp hp with rfl | hp
 ·exact ⟨hx,hH,hl,hf,hd⟩
 ·exact I.pin p hp
theorem zS (ok:X.Ok) (I:Inv (cxH X x oe xe') pins σ H s):Inv X pins σ H s :=
 ⟨ok,I.os,I.bare,I.base,I.loc,I.cell,I.free,I.freeC,fun p hp=>I.pin p (Pc _ hp),I.hok,I.len⟩
theorem zT (I:Inv X pins σ H s) (hn:h'.Ns X.env.locals m') (sb:Rh X.env.locals s.heap h') :
 Inv X pins (Pi X.N.length none) H { s with heap:=h',toks:=tk }:=by
 have ne:∀ b o,X.s₀.heap.get? b=some o->b≠X.env.locals:=fun b o e z=>by
  have:=I.ok.above
  rw[← z] at this
  exact absurd (O7 e) (Nat.not_lt.mpr this)
 have nf:∀ b u,H b=some u->b≠X.env.locals:=fun b u e z=>by rw[z,I.free] at e;cases e
 refine ⟨I.ok,I.os,I.bare,⟨fun b o e n hb hx=>(sb.2 b (ne b o e)).trans (I.base.keep b o e n hb hx),fun b o e n hb hx=>?_,I.base.free,fun b o e hx=>?_,I.base.tups,I.base.frzs,I.base.tbls⟩,⟨m',hn,fun i x v h1 h2 h3=>?_⟩,fun x c e=>?_,I.free,I.freeC,fun p hp=>?_,fun b u e=>?_,by simp⟩
 ·obtain ⟨sl,q⟩:=I.base.slot b o e n hb hx
  exact ⟨sl,(sb.2 b (ne b o e)).trans q⟩
 ·obtain ⟨o',q⟩:=I.base.there b o e hx
  exact ⟨o',(sb.2 b (ne b o e)).trans q⟩
 ·rw[QS] at h2
  split at h2<;>cases h2
 ·obtain ⟨v,o,ho,hd⟩:=I.cell x c e
  exact ⟨v,o,(sb.2 c (I.cne x c e)).trans ho,hd⟩
 ·obtain ⟨e,n,n1,n2,d⟩:=I.pin p hp
  exact ⟨(sb.2 p.1 n1).trans e,n,n1,n2,d⟩
 ·exact (I.hok b u e).stay (fun c v hc q=>(sb.2 c (by rcases hc with rfl | hc;exact nf _ _ e;exact nf _ _ hc)).trans q) (fun _ q=>q) fun _ _ q=>q
theorem wH (hx:h.get? x=some oe):PySem.W.Looks M h (typeOf (.ref x)) oe.cls:=fun A Q E s k q=>by
 unfold typeOf
 show wpAny M A (loadPart x (some headPart) >>= fun o=>pure o.cls) Q E s
 exact O0 (U0 (k _ _ hx) (wpAny_pure q))
noncomputable def oQ (K:OX) (C D:O9):Bool:=match K.lookup C with
 | some ⟨_,_,.cls cd,_⟩=>cd.mro.contains (.ref D)
 | _=>false
theorem obj_some (x:bV P w H h a o):∃ q,h.get? a=some q:=by
 cases o with
 | lst xs=>obtain ⟨_,_,_,_,e⟩:=x;exact ⟨_,e⟩
 | tup xs=>obtain ⟨_,_,_,ob,e,_⟩:=x;exact ⟨_,e⟩
 | dK kvs=>obtain ⟨_,_,_,_,o,_,_,e,_⟩:=x;exact ⟨_,e⟩
 | dT kvs=>obtain ⟨_,_,_,_,o,_,_,e,_⟩:=x;exact ⟨_,e⟩
 | set S n=>obtain ⟨o,_,_,_,e,_⟩:=x;exact ⟨_,e⟩
 | ins C dx fs=>obtain ⟨_,_,_,e,_⟩:=x;exact ⟨_,e⟩
 | own y=>exact x
 | xd fs=>obtain ⟨_,⟨_,_,_,e,_⟩,_⟩:=x;exact ⟨_,e⟩
 | rng lo hi=>obtain ⟨_,_,_,e⟩:=x;exact ⟨_,e⟩
 | frz ob u=>obtain ⟨e,_⟩:=x;exact ⟨_,e⟩
 | tbl ps=>exact ⟨_,show h.get? a=some _ from x⟩
 | met f y=>exact ⟨_,show h.get? a=some _ from x⟩
 | ext φ=>exact x.2.1
section
variable {K:OX}{E:XK}
theorem zU {pins:List (O9×Obj)}{σ:L2.St}{H1:Hp}{s1 s':O4}{e:Value}{tn n cn:Str}{C D:O9}{i:Nat}{p1 p2 p3 p4 p5 p6 hp:Pos}{Wn:Hp->Prop}{Q:Flow->O4->Prop}
 (I:Inv (aI CX P w K mg base N qual scope f cd A outer s0 H0 E) pins σ H1 s1) (h:CX1 P w (aI CX P w K mg base N qual scope f cd A outer s0 H0 E).stack H1 s1 E1 e s') (hE1:∀ C' d H',E1 (.ref C') d H'->C'=C/\Wn H')
 (nd:N.Nodup) (hi:N[i]?=some n) (hln:scope.names.lookup n=some .local) (okn:aA n=true) (hgD:Gl (aI CX P w K mg base N qual scope f cd A outer s0 H0 E) tn) (okD:aA tn=true) (hmD:mg tn=some (.ref D)) (hgC:Gl (aI CX P w K mg base N qual scope f cd A outer s0 H0 E) cn) (okC:aA cn=true) (hmC:mg cn=some (.ref C))
 (hgI:Gl (aI CX P w K mg base N qual scope f cd A outer s0 H0 E) "isinstance") (hmI:mg "isinstance"=none) (xC:kg K C) (xD:kg K D) (hsub:oQ K C D=true)
 (hQ:∀ σ' H' s'',Wn H'->Inv (aI CX P w K mg base N qual scope f cd A outer s0 H0 E) pins σ' H' s''->Q (.ret (.bool true)) s'') :
 wpAny (Pp P w) (aI CX P w K mg base N qual scope f cd A outer s0 H0 E).A (noteFrame e (aI CX P w K mg base N qual scope f cd A outer s0 H0 E).env) (fun _ s2=>wpAny (Pp P w) (aI CX P w K mg base N qual scope f cd A outer s0 H0 E).A (setFlight e none) (fun _ s3 =>
  wpAny (Pp P w) (aI CX P w K mg base N qual scope f cd A outer s0 H0 E).A (handleBy e (aI CX P w K mg base N qual scope f cd A outer s0 H0 E).env [.ExceptHandler (some (.Name tn p1)) (some n) [.Return (some (.Call (.Name "isinstance" p2) [.Name n p3,.Name cn p4] [] p5)) p6] hp]) Q
   (aI CX P w K mg base N qual scope f cd A outer s0 H0 E).xe s3) (aI CX P w K mg base N qual scope f cd A outer s0 H0 E).xe s2) (aI CX P w K mg base N qual scope f cd A outer s0 H0 E).xe s':=by
 obtain ⟨x,C',H',B,G,a0,rfl,e1,e2,un,ho,fl,cov,hg,cv2,hE⟩:=h
 obtain ⟨rfl,wn⟩:=hE1 _ _ _ hE
 have J:Inv (aI CX P w K mg base N qual scope f cd A outer s0 H0 E) pins σ H' s':=I.xj (ch:=[]) e1 un ho e2 (fun b z=>absurd z (by simp))
 have dbg:∀ {y:Str},aA y=true->(y==("__debug__":Str))=false:=fun {y} q=>by
  unfold aA at q
  simp only[OY] at q
  simpa using q.1.1
 refine wpAny_looks_onW I.ok.frames rfl fl fun h4 held4 sm4=>?_
 refine wpAny_landsW held4 fun h5 fl5 sm5=>?_
 have J5:Inv (aI CX P w K mg base N qual scope f cd A outer s0 H0 E) pins σ H' { s' with heap:=h5 }:=uL I J cov hg cv2 fl5.1 (sm4.trans sm5)
 obtain ⟨ob,hob,hobc⟩:=fl5.there
 refine wpAny_handleBy_cons (codeAny_handlers_test ?_) (by intro q;cases q)
 refine RV J5.ok.kind hgD (UF (by rw[J5.ok.glob];exact J5.mod.glob.keeps J5.bk) hmD ?_) (dbg okD)
 obtain ⟨bm,N1,nm,qn,bs,hdct,sn,sub,ab,col,dd,k0,k1,k2,k3,k5,mN,hC,hN,hni,T,lC⟩:=xC.obj I.mod.kin
 obtain ⟨bm2,N2,nm2,qn2,bs2,hdct2,sn2,sub2,ab2,col2,dd2,j0,j1,j2,j3,j5,mN2,hD,hN2,hni2,T2,_⟩:=xD.obj I.mod.kin
 have lC:K.lookup C'=_:=lC
 have hcD:(Px C' :: bm).contains (.ref D)=true:=by
  unfold oQ at hsub
  rw[lC] at hsub
  exact hsub
 refine lK (J5.bk _ _ hC) (J5.bk _ _ hD) hob hobc (T2.hasType rfl) hcD ?_
 refine codeAny_handlers_suite_as ?_
 refine lands_againW fl5 fun h6 fl6 sm6=>?_
 have J6:Inv (aI CX P w K mg base N qual scope f cd A outer s0 H0 E) pins σ H' { s' with heap:=h6 }:=uL I J cov hg cv2 fl6.1 ((sm4.trans sm5).trans sm6)
 obtain ⟨_,xB,_,oe,vs,_,_,_,hoe,⟨hoc,_⟩,hod,_⟩:=fl6
 have nl:x≠(aI CX P w K mg base N qual scope f cd A outer s0 H0 E).env.locals:=fun z=>by
  obtain ⟨m,⟨o,es,ep,ho',hd',_⟩,_⟩:=J6.loc
  have ho':h6.get? _=some o:=ho'
  rw[← z,hoe] at ho'
  cases ho'
  rw[hod] at hd'
  cases hd'
 have nH:H' x=none:=by
  cases q:H' x with
  | none=>rfl
  | some u =>
   obtain ⟨o,q2⟩:=obj_some (hg x u q)
   have:=cv2 x o (by rw[q];exact fun z=>nomatch z) q2
   rw[xB] at this
   cases this
 have nf:x∉(aI CX P w K mg base N qual scope f cd A outer s0 H0 E).fs:=fun z=>by
  obtain ⟨_,o,ho',hd'⟩:=J6.fL.mem z
  have ho':h6.get? _=some o:=ho'
  rw[hoe] at ho'
  cases ho'
  exact hd' _ hod
 refine jw J6 nd hi (.inl hln) (v:=.ref x) rfl (fun s7 J7 sb=>?_) (.inr hln)
 have h7:s7.heap.get? x=some oe:=by
  obtain ⟨a,sb,ha⟩:=sb
  have ne:x≠a:=by
   rcases ha with rfl | ha
   ·exact nl
   ·intro z
    obtain ⟨v,o,ho',hd'⟩:=J6.cell n a ha
    have ho':h6.get? _=some o:=ho'
    rw[← z,hoe] at ho'
    cases ho'
    rw[hod] at hd'
    cases hd'
  exact (sb.2 x ne).trans hoe
 have J8:=GR (xe':=fun _ _=>False) J7 h7 nH nl nf (fun v z=>by rw[hod] at z;cases z)
 have call:bW (cxH (aI CX P w K mg base N qual scope f cd A outer s0 H0 E) x oe (fun _ _=>False)) (.builtin "isinstance") (fun vs H Q=>vs=[.ref x,.ref C']/\Q (.bl true) H):=by
  intro pins s σ H vs us Q I r q
  obtain ⟨rfl,q⟩:=q
  obtain ⟨u1,u2,rfl,r1,r2⟩:=r.two
  cases r1
  cases r2
  have hp:=(I.pin (x,oe) (Pq)).1
  refine PySem.W.isi_call (K:=K) (t:=.ref C') I.kIn (fun M=>by rw[← hoc];exact wH hp) (by unfold PySem.W.isIn;simp) (by intro z;cases z) ⟨.bl true,H,I,rfl,q⟩
 have body:wpAny (Pp P w) (cxH (aI CX P w K mg base N qual scope f cd A outer s0 H0 E) x oe (fun _ _=>False)).A (execs [.Return (some (.Call (.Name "isinstance" p2) [.Name n p3,.Name cn p4] [] p5)) p6] (aI CX P w K mg base N qual scope f cd A outer s0 H0 E).env)
  (SP (cxH (aI CX P w K mg base N qual scope f cd A outer s0 H0 E) x oe (fun _ _=>False)) pins { nx:=fun _ _=>False,rt:=fun v H2=>v=.bl true/\H2=H' }) (fun _ _=>False) s7:=by
  have dn:(n==("__classdict__":Str))=false:=by
   unfold aA at okn
   simp only[OY] at okn
   simpa using okn.1.2
  refine (kB (rm (cZ call hgI hmI (by decide +kernel) (bO (rf (i:=i) hi (.inl hln) (dbg okn) dn) (bO (ku (v:=.ref C') hgC hmC rfl (dbg okC)) iH))))) pins s7 _ H' _ J8 ?_
  have iσ:i < σ.length:=by rw[J6.len];exact (List.getElem?_eq_some_iff.mp hi).1
  exact ⟨.ref x,P7 iσ,rfl,rfl,rfl⟩
 refine wpAny_mono body (fun fl s8 q=>?_) fun _ _ z=>z.elim
 cases fl with
 | ret u =>
  obtain ⟨v,σ',H2,J9,rv,rfl,rfl⟩:=q
  cases rv
  obtain ⟨m,hn,_⟩:=J9.loc
  show wpAny _ _ (do bindName _ n .none;unbindBehindTheSuite _ n hp) _ _ _
  exact wpAny_nameGoes hln hn (by rw[show (aI CX P w K mg base N qual scope f cd A outer s0 H0 E).env.scope.kind=.function from J.ok.kind];rfl) fun h' m' hn' sb=>hQ _ _ _ wn (zT (zS J.ok J9) hn' sb)
 | next=>obtain ⟨_,_,_,z⟩:=q;exact z.elim
 | brk=>obtain ⟨_,_,_,z⟩:=q;exact z.elim
 | cont=>obtain ⟨_,_,_,z⟩:=q;exact z.elim
end
end BS
end
section
namespace BT
open PySem
noncomputable abbrev XF:=FK->List W->HH->Option (Str×HH)
noncomputable def rsM (R:XF) (m:Str) (ea:HH->Option (List W×HH)) (x:W) (h:HH):Option (Str×HH):=match x with
 | .o n=>(match oat h n with
  | some (c,fs)=>(match aN m fs with
   | none=>bnd (ea h) fun ws h2=>R (.m c m) (.o n :: ws) h2
   | some _=>none)
  | none=>none)
 | _=>none
noncomputable def C4 (R:XF) (m:Str) (ea:HH->Option (List W×HH)) (L:Nat) (ocs:Option (List Cp)) (x:W) (h:HH):Option (Str×HH):=match x with
 | .o n=>(match oat h n with
  | some (c,fs)=>(match aN m fs with
   | none=>bnd (ea h) fun ws h2=>(match ocs with
    | some cs=>R (.m c m) (.o n :: (ws++[.c (.l L) cs])) h2
    | none=>none)
   | some _=>none)
  | none=>none)
 | _=>none
noncomputable def rsI (x:Option (W×HH)) (a b:HH->Option (Str×HH)):Option (Str×HH):=match x with
 | some (.p (.bl true),h)=>a h
 | some (.p (.bl false),h)=>b h
 | _=>none
noncomputable def rsC (x:Option (List W×HH)) (k:List W->HH->Option (Str×HH)) (d:Option (Str×HH)):Option (Str×HH):=match x with
 | some (ws,g)=>k ws g
 | none=>d
noncomputable def rsA (x:Option (W×HH)) (k:HH->Option (Str×HH)) (d:Option (Str×HH)):Option (Str×HH):=match x with
 | some (_,g)=>k g
 | none=>d
noncomputable def nv:D->Bool
 | .int i=>big i
 | .str x=>decide ((reprText x).length<=1921)
 | .non=>true
 | .bl _=>true
 | _=>false
@[simp] theorem Ml (i:Int):nv (.int i)=big i:=rfl
@[simp] theorem Mm:nv .non=true:=rfl
@[simp] theorem Mn (b:Bool):nv (.bl b)=true:=rfl
@[simp] theorem Mp (x:Str):nv (.str x)=decide ((reprText x).length<=1921):=rfl
noncomputable def rsV (R:XF) (o:Option (Option W)) (ws:List W) (h:HH):Option (Str×HH):=match o with
 | some (some (.c k cs))=>if noC ws then R k (ws++cs.map Cp.w) h else none
 | _=>none
@[simp] theorem OE (R:XF) (k:FK) (cs:List Cp) (ws:List W) (h:HH):rsV R (some (some (.c k cs))) ws h=if noC ws then R k (ws++cs.map Cp.w) h else none:=rfl
section
variable (F:FK->List W->HH->Option (W×HH)) (R:XF) (D:Str->Bool) (G:Str->Option W)
mutual
noncomputable def rsE:E->Sl->HH->Option (Str×HH)
 | .meth o m as,s,h=>bnd (ev F G o s h) (rsM R m (evs F G as s))
 | .methL o m as L fv,s,h=>bnd (ev F G o s h) (C4 R m (evs F G as s) L (caps s fv))
 | .bi _ _ as,s,h=>kh as s h
 | .call f as,s,h=>rsC (evs F G as s h) (R (.f f)) (if D f then kh as s h else none)
 | .idx a _,s,h=>rsE a s h
 | .bin _ a _,s,h=>rsE a s h
 | .cmp _ a _,s,h=>rsE a s h
 | .ite c a b,s,h=>rsI (ev F G c s h) (rsE a s) (rsE b s)
 | .lst _ as,s,h=>kh as s h
 | .callv i as,s,h=>rsC (evs F G as s h) (rsV R s[i]?) none
 | _,_,_=>none
noncomputable def kh:Es->Sl->HH->Option (Str×HH)
 | .cons a r,s,h=>rsA (ev F G a s h) (kh r s) (rsE a s h)
 | .nil,_,_=>none
end
noncomputable def rsS:S->Sl->HH->Option (Str×HH)
 | .rai c e,s,h=>(match ev F G e s h with
  | some (.p d,h')=>if nv d then some (c,h') else none
  | _=>none)
 | .seq a b,s,h=>(match evS F G a s h with
  | some (.nx s' h')=>rsS b s' h'
  | some _=>none
  | none=>rsS a s h)
 | .ife c a b,s,h=>rsI (ev F G c s h) (rsS a s) (rsS b s)
 | .ex e,s,h=>rsE F R D G e s h
 | .ret e,s,h=>rsE F R D G e s h
 | .set _ e,s,h=>rsE F R D G e s h
 | .whl c _,s,h=>rsE F R D G c s h
 | .for _ _ sa _,s,h=>kh F R D G sa s h
 | _,_,_=>none
end
section
variable {F:FK->List W->HH->Option (W×HH)}{R:XF}{D:Str->Bool}{G:Str->Option W}{s:Sl}{h:HH}
theorem xe1:rsE F R D G (.meth o m as) s h=bnd (ev F G o s h) (rsM R m (evs F G as s)):=rfl
theorem xe2:rsE F R D G (.methL o m as L fv) s h=bnd (ev F G o s h) (C4 R m (evs F G as s) L (caps s fv)):=rfl
theorem xe4:rsE F R D G (.call f as) s h=rsC (evs F G as s h) (R (.f f)) (if D f then kh F R D G as s h else none):=rfl
theorem xe5:rsE F R D G (.idx a b) s h=rsE F R D G a s h:=rfl
theorem xe7:rsE F R D G (.cmp o a b) s h=rsE F R D G a s h:=rfl
theorem xe8:rsE F R D G (.ite c a b) s h=rsI (ev F G c s h) (rsE F R D G a s) (rsE F R D G b s):=rfl
theorem xa1:kh F R D G (.cons a r) s h=rsA (ev F G a s h) (kh F R D G r s) (rsE F R D G a s h):=rfl
theorem xa2:kh F R D G .nil s h=none:=rfl
theorem xs1:rsS F R D G (.rai c e) s h=(match ev F G e s h with
 | some (.p d,h')=>if nv d then some (c,h') else none
 | _=>none):=rfl
theorem xs2:rsS F R D G (.seq a b) s h=(match evS F G a s h with
 | some (.nx s' h')=>rsS F R D G b s' h'
 | some _=>none
 | none=>rsS F R D G a s h):=rfl
theorem xs3:rsS F R D G (.ife c a b) s h=rsI (ev F G c s h) (rsS F R D G a s) (rsS F R D G b s):=rfl
theorem xs4:rsS F R D G (.ex e) s h=rsE F R D G e s h:=rfl
theorem xs6:rsS F R D G (.set i e) s h=rsE F R D G e s h:=rfl
theorem xs7:rsS F R D G (.whl c b) s h=rsE F R D G c s h:=rfl
theorem xs8:rsS F R D G .nil s h=none:=rfl
end
noncomputable def dk (T:FK->Option Fn) (f:Str):Bool:=(T (.f f)).isSome
noncomputable def dS (T TX:FK->Option Fn) (G:Str->Option W):Nat->FK->List W->HH->Option (Str×HH)
 | 0,_,_,_=>none
 | k+1,f,ws,h=>match TX f with
  | some fn=>if ws.length=fn.ps.length then rsS (runN T G k) (dS T TX G k) (dk T) G fn.body (aL fn.ns.length ws) h else none
  | none=>none
theorem kI (hT:TX f=some fn) (hl:ws.length=fn.ps.length) :
 dS T TX G (k+1) f ws h=rsS (runN T G k) (dS T TX G k) (dk T) G fn.body (aL fn.ns.length ws) h:=by
 rw[dS,hT];exact if_pos hl
end BT
end
section
namespace BS
open PySem PySem.Spec PyProof.Rows L2
noncomputable def XW (K:OX) (E:XK) (m:List O9) (H:Hp) (c:Str) (h':BT.HH):Prop:=∀ H' m',Ext m H m' H'->RH K m' H' h'->∀ C,CN K c C->E (.ref C) none H'
theorem XW.ext {K:OX}{E:XK} (w:XW K E m H c h') (x:Ext m H m1 H1):XW K E m1 H1 c h':=fun H' m' y R C hC=>w H' m' (x.trans y) R C hC
inductive spX (P:Pv) (w:P0) (K:OX) (g:List BT.W->BT.HH->Option (Str×BT.HH)) (vs:List V) (H:Hp) (Q:VK) (E:XK):Prop where
 | mk (m:List O9) (ws:List BT.W) (h:BT.HH) (c:Str) (h':BT.HH) (R:RH K m H h) (r:RWs P w K m H vs ws) (e:g ws h=some (c,h')) (p:XW K E m H c h'):spX P w K g vs H Q E
inductive KC (P:Pv) (w:P0) (K:OX) (mg:Str->Option Value) (base:Heap) (A:QV) (f:Str) (sp:Sp):Prop where
 | mk (fa:O9) (fd:Qm) (ps:List Str) (k:Nat) (h1:mg f=some (.ref fa)) (h2:PK K (.ref fa)=true) (h3:Binds K fd ps []) (h4:bA k A) (h5:bS P w K mg base (CX1 P w) k fa fd ps sp):KC P w K mg base A f sp
structure OkX (X:Cx) (R:BT.XF) (D:Str->Bool) (E:XK):Prop where
 meth:∀ (c m:Str) ws h r,R (.m c m) ws h=some r->OkM X.prog X.w X.K X.mg X.base X.A (CX1 X.prog X.w) c m (spX X.prog X.w X.K (R (.m c m)))
 call:∀ (f:Str) ws h r,R (.f f) ws h=some r->KC X.prog X.w X.K X.mg X.base X.A f (spX X.prog X.w X.K (R (.f f)))
 glo:∀ f,D f=true->∃ fa,X.mg f=some (.ref fa)/\PK X.K (.ref fa)=true
 pass:dw (CX1 X.prog X.w) X E
noncomputable def PXE (X:Cx) (e:O3) (t:L2.St->Hp->Prop):Prop:=∀ (pins:List (O9×Obj)) (s:O4) (σ:L2.St) (H:Hp) (Q:Value->O4->Prop),Inv X pins σ H s->t σ H->wpAny (Pp X.prog X.w) X.A (eval e X.env) Q X.xe s
noncomputable def PXS (X:Cx) (st:Pk) (t:L2.St->Hp->Prop):Prop:=∀ (pins:List (O9×Obj)) (s:O4) (σ:L2.St) (H:Hp) (Q:Flow->O4->Prop),Inv X pins σ H s->t σ H->wpAny (Pp X.prog X.w) X.A (exec st X.env) Q X.xe s
noncomputable def PXA (X:Cx) (es:List O3) (t:L2.St->Hp->Prop):Prop:=∀ (pos:Pos) (pins:List (O9×Obj)) (s:O4) (σ:L2.St) (H:Hp) (Q:List Value->O4->Prop),Inv X pins σ H s->t σ H->wpAny (Pp X.prog X.w) X.A (RG (Qx pos (Pu es X.env))) Q X.xe s
noncomputable def NK (X:Cx) (st:List Pk) (t:L2.St->Hp->Prop):Prop:=∀ (pins:List (O9×Obj)) (s:O4) (σ:L2.St) (H:Hp) (Q:Flow->O4->Prop),Inv X pins σ H s->t σ H->wpAny (Pp X.prog X.w) X.A (execs st X.env) Q X.xe s
inductive xD (X:Cx) (E:XK) (g:BT.Sl->BT.HH->Option (Str×BT.HH)) (σ:L2.St) (H:Hp):Prop where
 | mk (m:List O9) (s:BT.Sl) (h:BT.HH) (c:Str) (h':BT.HH) (R:RH X.K m H h) (S:RS X.prog X.w X.K m H σ s) (e:g s h=some (c,h')) (p:XW X.K E m H c h'):xD X E g σ H
section
variable {D:Str->Bool}{E:XK}
theorem C6 (e:BT.rsM R m ea x h=some r) :
 ∃ n c fs ws g,x=.o n/\BT.oat h n=some (c,fs)/\(BT.aN m fs).isNone=true/\ea h=some (ws,g)/\R (.m c m) (.o n :: ws) g=some r:=by
 unfold BT.rsM at e
 cases x with
 | o n =>
  simp only at e
  cases g1:BT.oat h n with
  | none=>rw[g1] at e;cases e
  | some q =>
   obtain ⟨c,fs⟩:=q
   rw[g1] at e
   simp only at e
   cases g2:BT.aN m fs with
   | some _=>rw[g2] at e;cases e
   | none =>
    rw[g2] at e
    simp only at e
    obtain ⟨ws,g,e1,e2⟩:=ai e
    exact ⟨n,c,fs,ws,g,rfl,g1,by rw[g2];rfl,e1,e2⟩
 | p d=>cases e
 | r n=>cases e
 | k q=>cases e
 | c _ _=>cases e
 | x _=>cases e
theorem zV (O:Ok X F G sc N) (O1:OkX X R D E) (hb:aB oe=true) (hl:(apos.endLine==cpos.line)=true) (hlen:es.length < 20) (ho:PE X oe (tD X F G o)) (hc:CEs sc N as es) (ha:PA X es (tDs X F G as)) :
 PXE X (.Call (.Attribute oe m apos) es [] cpos) (xD X E (BT.rsE F R D G (.meth o m as))):=by
 have hst:=cF hc
 intro pins s σ H Q I q
 obtain ⟨m0,s',h,c0,h',RR,S,ee,post⟩:=q
 simp only[BT.xe1] at ee
 obtain ⟨x,h1,e1,e2⟩:=ai ee
 obtain ⟨n,c,fs,ws,g,rfl,e3,e4,e5,e6⟩:=C6 e2
 obtain ⟨C,ga,fd,ps,k,hC,hM,hB,hR,ok⟩:=O1.meth _ _ _ _ _ e6
 have key:tP C m (spX X.prog X.w X.K (R (.m c m))) [] E (tD X F G o) (tDs X F G as) σ H (fun _ _=>False):=by
  refine ⟨m0,s',h,.o n,h1,RR,S,e1,fun v H1 m1 x1 R1 r1=>?_⟩
  cases r1 with
  | @o a _ hn =>
   obtain ⟨C',dx,vs,q1,q2,q3⟩:=R1.k8 _ _ _ _ hn e3
   cases q2.cn.inj hC.cn
   refine ⟨a,dx,vs,rfl,q1,q3.none e4,m1,s',h1,ws,g,R1,S.ext x1,e5,fun us H2 m2 x2 R2 r2=>?_⟩
   show spX X.prog X.w X.K (R (.m c m)) (V.ref a :: (us++[])) H2 _ E
   rw[PY]
   exact ⟨m2,.o n :: ws,g,c0,h',R2,.cons (.o (x2.ix hn)) r2,e6,post.ext (x1.trans x2)⟩
 have fin:∀ u s2,EP X pins σ (fun _ _=>False) u s2->Q u s2:=fun u s2 ⟨_,_,_,_,z⟩=>z.elim
 cases es with
 | nil =>
  cases as with
  | cons a r=>exact (iP hc).elim
  | nil =>
   refine thn (pN ho hC.cls hM ok hR hB .nil O1.pass (fH hb hst hlen hl) pins s σ H (fun _ _=>False) I ?_) fin
   obtain ⟨m,s,h,z,h',R,S,ee,post⟩:=key
   refine ⟨m,s,h,z,h',R,S,ee,fun v H1 m1 x1 R1 r1=>?_⟩
   obtain ⟨a,dx,fs,q1,q2,q3,q4⟩:=post v H1 m1 x1 R1 r1
   exact ⟨a,dx,fs,q1,q2,q3,fW q4⟩
 | cons e es =>
  have hst':=hst
  simp only[ak,OY] at hst'
  exact thn (tR ho hC.cls hM ok hR hB .nil O1.pass ha (af hst'.1) (aC hst'.2) (fH hb hst hlen hl) pins s σ H (fun _ _=>False) I key) fin
end
noncomputable def raN (c:Str):Bool:=(["NoMoment","NoThing"]:List Str).contains c
noncomputable def noX:BT.E->Bool
 | .var _=>true
 | .cst _=>true
 | .lst _ .nil=>true
 | .tup _=>true
 | .lsr _ _ _=>true
 | _=>false
section
variable {D:Str->Bool}{E:XK}
theorem zW (h:noX a=true) (s:BT.Sl) (g:BT.HH):BT.rsE F R D G a s g=none:=by
 cases a with
 | lst _ as=>cases as with
  | nil=>rfl
  | cons _ _=>cases h
 | _=>first | (cases h;done) | rfl
theorem zX (e:BT.C4 R m ea L ocs x h=some r) :
 ∃ n c fs ws g cs,x=.o n/\BT.oat h n=some (c,fs)/\(BT.aN m fs).isNone=true/\ea h=some (ws,g)/\ocs=some cs/\R (.m c m) (.o n :: (ws++[.c (.l L) cs])) g=some r:=by
 unfold BT.C4 at e
 cases x with
 | o n =>
  simp only at e
  cases g1:BT.oat h n with
  | none=>rw[g1] at e;cases e
  | some q =>
   obtain ⟨c,fs⟩:=q
   rw[g1] at e
   simp only at e
   cases g2:BT.aN m fs with
   | some _=>rw[g2] at e;cases e
   | none =>
    rw[g2] at e
    simp only at e
    obtain ⟨ws,g,e1,e2⟩:=ai e
    cases ocs with
    | none=>cases e2
    | some cs=>exact ⟨n,c,fs,ws,g,cs,rfl,g1,by rw[g2];rfl,e1,rfl,e2⟩
 | p d=>cases e
 | r n=>cases e
 | k q=>cases e
 | c _ _=>cases e
 | x _=>cases e
theorem ny (O:Ok X F G sc N) (O1:OkX X R D E) (hf:∀ x,X.fn x=true) {rest:List O3}
 (hl:BT.mD L=some ⟨ns,ns,.ret bt⟩) (hp:LPa pa ps) (hn:ns=ps++fv.map (·.2)) (hk:jU ps (fv.map (·.2)) scope=true) (hv:r9 sc N fv=true) (ht:N.contains (BT.bU (BT.qc L))=true) (hc:CE' scope ns bt be) (h3:aB oe=true) (h6:(apos.endLine==cpos.line)=true)
 (hO:PE X oe (tD X F G o)) (hst:ak (e0 :: rest)=true) (hlen:(e0 :: rest).length < 20) (hS:zI X F G as (e0 :: rest) (.Lambda pa be scope lp)) :
 PXE X (.Call (.Attribute oe m apos) (e0 :: rest) [] cpos) (xD X E (BT.rsE F R D G (.methL o m as L fv))):=by
 intro pins s σ H Q I q
 obtain ⟨m0,s',h,c0,h',RR,S,ee,post⟩:=q
 simp only[BT.xe2] at ee
 obtain ⟨x,h1,e1,e2⟩:=ai ee
 obtain ⟨n,c,fs,ws,g,cs,rfl,e3,e4,e5,e6,e7⟩:=zX e2
 obtain ⟨C,ga,fd,ps',k,hC,hM,hB,hR,ok⟩:=O1.meth _ _ _ _ _ e7
 refine nq O hf hl hp hn hk hv ht hc h3 h6 hO hst hlen hS I RR S hC hM e1 e3 e4 e5 e6 fun a f us vs m2 H3 s3 cl P=>?_
 obtain ⟨I3,hnone,hobj,hfrm,le,R4,w4,e04,rv4,xx,rh⟩:=P
 have C5:∀ {m5:List O9}{H5:Hp},Ext m2 (dB cl s3.heap H3) m5 H5->bL cl H5:=fun x5 y d e=>by
  obtain ⟨ob,uu,g1,g2⟩:=hobj y d e
  exact ⟨ob,uu,x5.keep _ _ (fX e g1) (rh.c9 (hnone y d e)) rfl,g2⟩
 have sp4:spX X.prog X.w X.K (R (.m c m)) (V.ref a :: (vs++[.ref f])) (dB cl s3.heap H3) (fun _ _=>False) (fun cv d H5=>E cv d (hid cl H5)):=by
  exact ⟨m2,_,g,c0,h',R4,w4,e7,fun H5 m5 x5 R5 C hC=>post (hid cl H5) m5 (xx.trans (uG hnone le x5)) ((C5 x5).rh R5) C hC⟩
 have hl4:(Px a :: (us++[.ref f])).length=ps'.length:=by rw[← rv4.length];exact ok.len _ _ _ _ sp4
 have hb4:=hB s3 (Px a :: (us++[.ref f])) I3.kIn (by rw[PY];exact hl4)
 rw[PY] at hb4
 have run4:=ok.run X.A X.stack s3 (dB cl s3.heap H3) ⟨Px a :: (us++[Px f]),[]⟩ (Px a :: (us++[Px f])) _ _ _ hR e04 hb4 rv4 sp4
 refine Th (RM run4 fun r s' hq=>?_)
 cases r with
 | ok fl =>
  cases fl with
  | next=>exact PN hq
  | brk=>exact PN hq
  | cont=>exact PN hq
  | ret u=>obtain ⟨_,_,_,_,_,_,_,z⟩:=hq;exact PN z
 | error e =>
  obtain ⟨x,C,H5,B,Gh,a0,rfl,os5,bare5,un,hok5,fl,cov,hg5,cv2,hE⟩:=hq
  have CT:bL cl H5:=fun y d e=>by
   obtain ⟨ob,uu,g1,g2⟩:=hobj y d e
   exact ⟨ob,uu,un.frzs _ _ _ (fX e g1),g2⟩
  refine O1.pass pins σ H3 s3 _ s' I3 ⟨x,C,hid cl H5,B,Gh,a0,rfl,os5,bare5,zL hnone hobj hfrm le un hok5,kD CT hok5 fun _ _ e=>e,fl,fun b o e hb=>?_,kD CT hg5 fun _ _ e=>e,fun b o nn e=>?_,hE⟩
  ·obtain ⟨o',q1,q2⟩:=cov b o e hb
   refine ⟨o',q1,fun nn=>?_⟩
   by_cases cc:∃ y,cl.lookup y=some b
   ·obtain ⟨y,q⟩:=cc
    have z:=un.frzs _ _ _ (fX q e)
    have z2:=cv2 b o (by rw[z];exact fun w=>nomatch w) (hg5 _ _ z).1
    rw[q1] at z2
    exact O5 z2
   ·exact q2 (by rw[dh cc];exact nn)
  ·refine cv2 b o (fun z=>nn (dg z)) e
theorem zY (O:Ok X F G sc N) (O1:OkX X R D E) (hg:av sc f=true) (hn:aA f=true) (hc:CEs sc N as es) (ha:PA X es (tDs X F G as)) (hx:PXA X es (xD X E (BT.kh F R D G as))) :
 PXE X (.Call (.Name f p) es [] cpos) (xD X E (BT.rsE F R D G (.call f as))):=by
 have hst:=cF hc
 intro pins s σ H Q I q
 obtain ⟨m0,s',h,c0,h',RR,S,ee,post⟩:=q
 simp only[BT.xe4] at ee
 cases es with
 | nil =>
  cases as with
  | cons a r=>exact (iP hc).elim
  | nil =>
   simp only[BT.evs,BT.rsC] at ee
   obtain ⟨fa,fd,ps,k,hm,hk,hb,hr,ok⟩:=O1.call _ _ _ _ ee
   exact thn (pM ok hr (aE O hg) hm hk hb .nil O1.pass (bK hn).1 pins s σ H (fun _ _=>False) I ⟨m0,[],h,c0,h',RR,.nil,ee,post⟩) fun u s2 ⟨_,_,_,_,z⟩=>z.elim
 | cons e es =>
  simp only[ak,OY] at hst
  cases g:BT.evs F G as s' h with
  | some q =>
   obtain ⟨ws,g1⟩:=q
   rw[g] at ee
   simp only[BT.rsC] at ee
   obtain ⟨fa,fd,ps,k,hm,hk,hb,hr,ok⟩:=O1.call _ _ _ _ ee
   refine thn (tQ ok hr (aE O hg) hm hk hb .nil O1.pass ha (bK hn).1 (af hst.1) (aC hst.2) pins s σ H (fun _ _=>False) I ?_) fun u s2 ⟨_,_,_,_,z⟩=>z.elim
   refine ⟨m0,s',h,ws,g1,RR,S,g,fun us H2 m2 x2 R2 r2=>?_⟩
   show spX X.prog X.w X.K (R (.f f)) (us++[]) H2 _ E
   rw[PY]
   exact ⟨m2,ws,g1,c0,h',R2,r2,ee,post.ext x2⟩
  | none =>
   rw[g] at ee
   simp only[BT.rsC] at ee
   split at ee
   ·rename_i hd
    obtain ⟨fa,hm,hk⟩:=O1.glo _ hd
    refine Qh (fM I (aE O hg) hm ?_ (bK hn).1)
    exact QW (h₀:=X.base) I.ok.mod.kin hk (hx cpos pins s σ H _ I ⟨m0,s',h,c0,h',RR,S,ee,post⟩) (af hst.1) (aC hst.2)
   ·cases ee
end
mutual
inductive CXE (sc:Qc) (N:List Str):BT.E->O3->Prop where
 | meth (h3:aB oe=true) (h6:(apos.endLine==cpos.line)=true) (h7:es.length < 20) (ho:CE' sc N o oe) (ha:CEs sc N as es):CXE sc N (.meth o m as) (.Call (.Attribute oe m apos) es [] cpos)
 | call (hg:av sc f=true) (hn:aA f=true) (ha:CEs sc N as es) (hx:wI sc N as es):CXE sc N (.call f as) (.Call (.Name f np) es [] p)
 | idx (ha:CXE sc N a x):CXE sc N (.idx a i) (.Subscript x sl p)
 | bin (ha:CXE sc N a x):CXE sc N (.bin o a b) (.BinOp x op y p)
 | ite {c a b:BT.E}{t x y:O3}{p:Pos} (h:tOK c=true) (hc:CE' sc N c t) (ha:CXE sc N a x) (hb:CXE sc N b y):CXE sc N (.ite c a b) (.IfExp t x y p)
 | no (h:noX a=true):CXE sc N a x
inductive wI (sc:Qc) (N:List Str):BT.Es->List O3->Prop where
 | nil:wI sc N .nil []
 | cons {a:BT.E}{as:BT.Es}{e:O3}{es:List O3} (hs:noStar e=true) (hc:CE' sc N a e) (ha:CXE sc N a e) (hr:wI sc N as es):wI sc N (.cons a as) (e :: es)
end
mutual
inductive CXS (sc:Qc) (N:List Str) (ra:Bool):BT.S->Pk->Prop where
 | rai (hu:bB N=true) (hr:ra=true) (hx:raN c=true) (hg:av sc c=true) (hn:aA c=true) (hl:t.length<=1000) (he:CE' sc N e v) :
  CXS sc N ra (.rai c e) (.Raise (some (.Call (.Name c np) [.JoinedStr [.Constant (.str t) j p1,.FormattedValue v 114 none p2] p3] [] cpos)) none pos)
 | bad {st:Pk}:CXS sc N ra .bad st
 | ex (h:fY v=true) (he:CXE sc N e v):CXS sc N ra (.ex e) (.Expr v p)
 | ret (he:CXE sc N e v):CXS sc N ra (.ret e) (.Return (some v) p)
 | set {st:Pk} (h:noX e=true):CXS sc N ra (.set i e) st
 | whl (hm:SH op y=false) (ha:CXE sc N a x):CXS sc N ra (.whl (.cmp o a b) bd) (.While (.Compare x [op] [y] p2) xs [] p)
 | ife {c:BT.E}{a b:BT.S}{t:O3}{xs ys:List Pk}{p:Pos} (h:tOK c=true) (hc:CE' sc N c t) (ha:ff sc N ra a xs) (hb:ff sc N ra b ys):CXS sc N ra (.ife c a b) (.If t xs ys p)
inductive ff (sc:Qc) (N:List Str) (ra:Bool):BT.S->List Pk->Prop where
 | nil {sts:List Pk}:ff sc N ra .nil sts
 | bads {sts:List Pk}:ff sc N ra .bad sts
 | one {st:Pk} (h:CXS sc N ra s st):ff sc N ra s (st :: r)
 | cons {a b:BT.S}{st:Pk}{r:List Pk} (hn:CS sc N a st) (h:CXS sc N ra a st) (hr:ff sc N ra b r):ff sc N ra (.seq a b) (st :: r)
end
structure MadeX (X:Cx) (E:XK):Prop where
 made:∀ pins σ H s1 h2 a args C,Inv X pins σ H s1->SV s1.heap h2 a (.ref C) args->E (.ref C) none H->X.xe (.ref a) { s1 with heap:=h2 }
 cls:∀ c,raN c=true->∃ C,CN X.K c C/\X.mg c=some (.ref C)/\kg X.K C
section
variable {D:Str->Bool}{E:XK}{ra:Bool}
theorem sEs (h:CEs sc N as es) (O:Ok X F G sc N):PA X es (tDs X F G as):=sQ h X O
mutual
theorem sXE (O:Ok X F G sc N) (O1:OkX X R D E):∀ {e:BT.E}{v:O3},CXE sc N e v->PXE X v (xD X E (BT.rsE F R D G e))
 | _,_,.meth h3 h6 h7 ho ha=>zV O O1 h3 h6 h7 (sE ho O) ha (sEs ha O)
 | _,_,.call hg hn ha hx=>zY O O1 hg hn ha (sEs ha O) (KG O O1 hx)
 | _,_,.idx ha=>fun pins s σ H Q I q=>Vb (sXE O O1 ha pins s σ H _ I (by
  obtain ⟨m,s',h,c0,h',RR,S,ee,post⟩:=q
  exact ⟨m,s',h,c0,h',RR,S,ee,post⟩))
 | _,_,.bin ha=>fun pins s σ H Q I q=>wpAny_BinOp (sXE O O1 ha pins s σ H _ I (by
  obtain ⟨m,s',h,c0,h',RR,S,ee,post⟩:=q
  exact ⟨m,s',h,c0,h',RR,S,ee,post⟩))
 | _,_,@CXE.ite _ _ c a b t x y p h hc ha hb=>fun pins s σ H Q I q=>by
  obtain ⟨m,s',h0,c0,h',RR,S,ee,post⟩:=q
  simp only[BT.xe8] at ee
  unfold BT.rsI at ee
  split at ee
  ·rename_i h1 e1
   refine wpAny_IfExp (thn ((sT hc O h).1 pins s σ H (fun d H1=>d=true/\xD X E (BT.rsE F R D G a) σ H1) I ⟨m,s',h0,true,h1,RR,S,e1,fun H1 m1 x1 R1=>⟨rfl,m1,s',h1,c0,h',R1,S.ext x1,ee,post.ext x1⟩⟩) fun d s1 zq=>?_)
   obtain ⟨H1,I1,q1,q2⟩:=zq
   subst q1
   exact sXE O O1 ha pins s1 σ H1 Q I1 q2
  ·rename_i h1 e1
   refine wpAny_IfExp (thn ((sT hc O h).1 pins s σ H (fun d H1=>d=false/\xD X E (BT.rsE F R D G b) σ H1) I ⟨m,s',h0,false,h1,RR,S,e1,fun H1 m1 x1 R1=>⟨rfl,m1,s',h1,c0,h',R1,S.ext x1,ee,post.ext x1⟩⟩) fun d s1 zq=>?_)
   obtain ⟨H1,I1,q1,q2⟩:=zq
   subst q1
   exact sXE O O1 hb pins s1 σ H1 Q I1 q2
  ·cases ee
 | _,_,.no h=>fun pins s σ H Q I q=>by
  obtain ⟨m,s',h0,c0,h',RR,S,ee,post⟩:=q
  rw[zW h] at ee
  cases ee
theorem KG (O:Ok X F G sc N) (O1:OkX X R D E):∀ {as:BT.Es}{es:List O3},wI sc N as es->PXA X es (xD X E (BT.kh F R D G as))
 | _,_,.nil=>fun pos pins s σ H Q I q=>by
  obtain ⟨m,s',h0,c0,h',RR,S,ee,post⟩:=q
  simp only[BT.xa1,BT.xa2] at ee
  cases ee
 | _,_,@wI.cons _ _ a as e es hs hc ha hr=>fun pos pins s σ H Q I q=>by
  obtain ⟨m,s',h0,c0,h',RR,S,ee,post⟩:=q
  simp only[BT.xa1,BT.xa2] at ee
  rw[af hs]
  show wpAny _ _ (RG ((false,eval e X.env) :: Qx pos (Pu es X.env))) _ _ s
  unfold BT.rsA at ee
  split at ee
  ·rename_i z g1 e1
   refine PU (thn (sE hc O pins s σ H (fun v H1=>xD X E (BT.kh F R D G as) σ H1) I ⟨m,s',h0,z,g1,RR,S,e1,fun v H1 m1 x1 R1 r1=>⟨m1,s',g1,c0,h',R1,S.ext x1,ee,post.ext x1⟩⟩) fun u s1 zq=>?_)
   obtain ⟨v,H1,I1,rv,q1⟩:=zq
   exact KG O O1 hr pos pins s1 σ H1 _ I1 q1
  ·exact PU (sXE O O1 ha pins s σ H _ I ⟨m,s',h0,c0,h',RR,S,ee,post⟩)
end
theorem sXL (O:Ok X F G sc N) (O1:OkX X R D E) (hf:∀ x,X.fn x=true) {call:O3} (h:CL sc N o m as L fv call):PXE X call (xD X E (BT.rsE F R D G (.methL o m as L fv))):=by
 cases h with
 | zero hl hp hn hk hv ht hc h3 h6 ho=>exact ny O O1 hf hl hp hn hk hv ht hc h3 h6 (sE ho O) rfl (by simp) Eo
 | one hl hp hn hk hv ht hc h3 h6 ho hs ha=>exact ny O O1 hf hl hp hn hk hv ht hc h3 h6 (sE ho O) (by simp only[ak,hs];rfl) (by simp) (Ep hs (sE ha O))
theorem GS (O:Ok X F G sc N) (hu:bB N=true) (M:MadeX X E) {c t:Str}{e:BT.E}{v:O3}{j:Nat}{np p1 p2 p3 cpos pos:Pos} (hx:raN c=true) (hg:av sc c=true) (hn:aA c=true) (hl:t.length<=1000) (he:CE' sc N e v) :
 PXS X (.Raise (some (.Call (.Name c np) [.JoinedStr [.Constant (.str t) j p1,.FormattedValue v 114 none p2] p3] [] cpos)) none pos) (xD X E (BT.rsS F R D G (.rai c e))):=by
 intro pins s σ H Q I q
 obtain ⟨C,hC,hm,xc⟩:=M.cls c hx
 obtain ⟨m,s',h,c0,h',RR,S,ee,post⟩:=q
 simp only[BT.xs1] at ee
 split at ee
 ·rename_i d h2 e1
  split at ee
  ·rename_i hb
   cases ee
   refine zR (aE O hg) hn hm xc (O.calm hu) hl (sE he O) I ⟨m,s',h,_,_,RR,S,e1,fun v H1 m1 x1 R1 r1=>?_⟩
   cases r1 with
   | p r1 =>
    refine ⟨?_,fun s1 h2 a args I1 hx=>M.made _ _ _ _ _ _ _ _ I1 hx (post H1 m1 x1 R1 C hC)⟩
    cases r1 with
    | int i=>exact .int (by simpa [BT.big] using hb)
    | str x hx=>exact .str (by simpa using hb)
    | non=>exact .non
    | bl b=>exact .bl
    | tup _ _=>cases hb
    | lst _ _=>cases hb
  ·cases ee
 ·cases ee
mutual
theorem sXS (O:Ok X F G sc N) (O1:OkX X R D E) (M:ra=true->MadeX X E) (hf:∀ x,X.fn x=true):∀ {s:BT.S}{st:Pk},CXS sc N ra s st->PXS X st (xD X E (BT.rsS F R D G s))
 | _,_,.rai hu hr hx hg hn hl he=>GS O hu (M hr) hx hg hn hl he
 | _,_,.bad=>fun pins s σ H Q I q=>by
  obtain ⟨m,s',h,c0,h',RR,S,ee,post⟩:=q
  cases ee
 | _,_,.ex h he=>fun pins s σ H Q I q=>by
  refine wpAny_Expr_any (sXE O O1 he pins s σ H _ I ?_) I.quiet (gZ h)
  obtain ⟨m,s',h,c0,h',RR,S,ee,post⟩:=q
  exact ⟨m,s',h,c0,h',RR,S,ee,post⟩
 | _,_,.ret he=>fun pins s σ H Q I q=>by
  refine wpAny_Return_some (sXE O O1 he pins s σ H _ I ?_)
  obtain ⟨m,s',h,c0,h',RR,S,ee,post⟩:=q
  exact ⟨m,s',h,c0,h',RR,S,ee,post⟩
 | _,_,.set h=>fun pins s σ H Q I q=>by
  obtain ⟨m,s',h0,c0,h',RR,S,ee,post⟩:=q
  simp only[BT.xs6] at ee
  rw[zW h] at ee
  cases ee
 | _,_,.whl hm ha=>fun pins s σ H Q I q=>by
  obtain ⟨m,s',h0,c0,h',RR,S,ee,post⟩:=q
  simp only[BT.xs7,BT.xe7] at ee
  refine wpAny_While (codeAny_whileLoop (fun (n:Nat) s'=>s'=s) ?_ 0 rfl)
  rintro n s1 rfl
  exact QT O.own (S7 (sXE O O1 ha pins s1 σ H _ I ⟨m,s',h0,c0,h',RR,S,ee,post⟩) hm)
 | _,_,@CXS.ife _ _ _ c a b t xs ys p h hc ha hb=>fun pins s σ H Q I q=>by
  obtain ⟨m,s',h0,c0,h',RR,S,ee,post⟩:=q
  simp only[BT.xs3] at ee
  unfold BT.rsI at ee
  split at ee
  ·rename_i h1 e1
   refine wpAny_If (thn ((sT hc O h).1 pins s σ H (fun d H1=>d=true/\xD X E (BT.rsS F R D G a) σ H1) I ⟨m,s',h0,true,h1,RR,S,e1,fun H1 m1 x1 R1=>⟨rfl,m1,s',h1,c0,h',R1,S.ext x1,ee,post.ext x1⟩⟩) fun d s1 zq=>?_)
   obtain ⟨H1,I1,q1,q2⟩:=zq
   subst q1
   exact zZ O O1 M hf ha pins s1 σ H1 Q I1 q2
  ·rename_i h1 e1
   refine wpAny_If (thn ((sT hc O h).1 pins s σ H (fun d H1=>d=false/\xD X E (BT.rsS F R D G b) σ H1) I ⟨m,s',h0,false,h1,RR,S,e1,fun H1 m1 x1 R1=>⟨rfl,m1,s',h1,c0,h',R1,S.ext x1,ee,post.ext x1⟩⟩) fun d s1 zq=>?_)
   obtain ⟨H1,I1,q1,q2⟩:=zq
   subst q1
   exact zZ O O1 M hf hb pins s1 σ H1 Q I1 q2
  ·cases ee
theorem zZ (O:Ok X F G sc N) (O1:OkX X R D E) (M:ra=true->MadeX X E) (hf:∀ x,X.fn x=true):∀ {s:BT.S}{sts:List Pk},ff sc N ra s sts->NK X sts (xD X E (BT.rsS F R D G s))
 | _,_,.nil=>fun pins s σ H Q I q=>by
  obtain ⟨m,s',h,c0,h',RR,S,ee,post⟩:=q
  cases ee
 | _,_,.bads=>fun pins s σ H Q I q=>by
  obtain ⟨m,s',h,c0,h',RR,S,ee,post⟩:=q
  cases ee
 | _,_,.one h=>fun pins s σ H Q I q=>RU (sXS O O1 M hf h pins s σ H _ I q)
 | _,_,@ff.cons _ _ _ a b st r hn h hr=>fun pins s σ H Q I q=>by
  obtain ⟨m,s',h0,c0,h',RR,S,ee,post⟩:=q
  simp only[BT.xs2] at ee
  cases g:BT.evS F G a s' h0 with
  | none =>
   rw[g] at ee
   exact RU (sXS O O1 M hf h pins s σ H _ I ⟨m,s',h0,c0,h',RR,S,ee,post⟩)
  | some fl =>
   rw[g] at ee
   cases fl with
   | nx s2 h2 =>
    simp only at ee
    refine RU (thn (sS O hf hn pins s σ H { nx:=fun σ' H'=>xD X E (BT.rsS F R D G b) σ' H',rt:=fun _ _=>False } I ⟨m,s',h0,.nx s2 h2,RR,S,g,fun σ' H1 m1 x1 R1 S1=>⟨m1,s2,h2,c0,h',R1,S1,ee,post.ext x1⟩⟩) fun f s1 q=>?_)
    cases f with
    | next =>
     obtain ⟨σ',H1,I1,q1⟩:=q
     exact zZ O O1 M hf hr pins s1 σ' H1 Q I1 q1
    | ret u=>obtain ⟨_,_,_,_,_,z⟩:=q;exact z.elim
    | brk=>obtain ⟨_,_,_,z⟩:=q;exact z.elim
    | cont=>obtain ⟨_,_,_,z⟩:=q;exact z.elim
   | rt z h2=>cases ee
   | bk s2 h2=>cases ee
   | ct s2 h2=>cases ee
end
end
inductive z4 (K:OX) (c m:Str) (fn:BT.Fn):Prop where
 | mk (C f:O9) (fd:Qm) (x qual:Str) (st:Pk) (h1:iB K c C) (h2:nL K C m f) (h3:Fun K x qual st f fd) (h4:aM fn.ns fn.ps (aa st)) (h5:Binds K fd fn.ps []) (h6:ff (aa st) fn.ns true fn.body (aq st)) (h7:fJ K qual fd fn):z4 K c m fn
structure qy (K:OX) (c m:Str) (fn:BT.Fn):Prop where
 ex:z4 K c m fn
inductive Et (K:OX) (mg:Str->Option Value) (x:Str) (fn:BT.Fn):Prop where
 | mk (f:O9) (fd:Qm) (st:Pk) (h1:mg x=some (.ref f)) (h2:Fun K x x st f fd) (h3:aM fn.ns fn.ps (aa st)) (h4:Binds K fd fn.ps []) (h5:ff (aa st) fn.ns true fn.body (aq st)) (h6:fJ K x fd fn):Et K mg x fn
structure C7 (K:OX) (mg:Str->Option Value) (x:Str) (fn:BT.Fn):Prop where
 ex:Et K mg x fn
structure wJ (K:OX) (mg:Str->Option Value) (TX:BT.FK->Option BT.Fn):Prop where
 defs:∀ x fn,TX (.f x)=some fn->C7 K mg x fn
 meths:∀ c m fn,TX (.m c m)=some fn->qy K c m fn
 cls:∀ c,raN c=true->∃ C,CN K c C/\mg c=some (.ref C)/\kg K C
theorem z5 (e:BT.dS T TX G k x ws h=some r):∃ fn,TX x=some fn:=by
 cases k with
 | zero=>cases e
 | succ k =>
  rw[BT.dS] at e
  cases q:TX x with
  | none=>rw[q] at e;cases e
  | some fn=>exact ⟨fn,rfl⟩
theorem KH {K:OX} (X:Txt P w K mg T G) {ps:List Str}{st:Pk}{E:XK}
 (nd:N.Nodup) (nt:∀ x,N.contains (BT.bU x)=false) (hr:bA (2*k+1) (A.deeper (Rr qual (aa st) s.heap.objs.size f cdv))):Ok (aI CX P w K mg base N qual (aa st) f cdv A outer s H E) (BT.runN T G k) G (aa st) N :=
 qx X (g9 X k).1 (g9 X k).2 rfl rfl rfl rfl rfl rfl rfl nd rfl hr UP fun _ x hx=>by rw[nt x] at hx;cases hx
theorem z6 {K:OX}{E:XK} (X:Txt P w K mg T G) (Y:wJ K mg TX)
 (ih:∀ (x:BT.FK) (fn:BT.Fn),TX x=some fn->∀ (f:O9) (fd:Qm) (nm qual:Str) (st:Pk),Fun K nm qual st f fd->aM fn.ns fn.ps (aa st)->ff (aa st) fn.ns true fn.body (aq st)->fJ K qual fd fn->bS P w K mg base (CX1 P w) (2*k) f fd fn.ps (spX P w K (BT.dS T TX G k x)))
 (e1:Z.prog=P) (e2:Z.w=w) (e3:Z.K=K) (e4:Z.mg=mg) (e5:Z.base=base) (hr:bA (2*k+1) Z.A) (ps:dw (CX1 P w) Z E):OkX Z (BT.dS T TX G k) (BT.dk T) E:=by
 subst e1 e2 e3 e4 e5
 refine ⟨fun c g ws h r e=>?_,fun g ws h r e=>?_,fun f hf=>?_,ps⟩
 ·obtain ⟨fn',hTg⟩:=z5 e
  obtain ⟨C,f',fd',x',q',st',b1,b3,a2,a3,a4,a5,a6⟩:=(Y.meths c g fn' hTg).ex
  exact ⟨C,f',fd',fn'.ps,2*k,b1,b3,a4,hr.mono (P9 _),ih _ fn' hTg f' fd' x' q' st' a2 a3 a5 a6⟩
 ·obtain ⟨fn',hTg⟩:=z5 e
  obtain ⟨f',fd',st',b1,a2,a3,a4,a5,a6⟩:=(Y.defs g fn' hTg).ex
  exact ⟨f',fd',fn'.ps,2*k,b1,a2.kp,a4,hr.mono (P9 _),ih _ fn' hTg f' fd' g g st' a2 a3 a5 a6⟩
 ·obtain ⟨fn,hT⟩:=Option.isSome_iff_exists.mp hf
  obtain ⟨fa,fd,st,a1,a2,_⟩:=(X.defs f fn hT).ex
  exact ⟨fa,a1,a2.kp⟩
theorem C8 {K:OX}{st:Pk} (F:Fun K x qual st f fd) (S:aM N ps (aa st)) (len:∀ vs H Q E,sp vs H Q E->vs.length=ps.length)
 (hbody:∀ (cdv:Value) (A:QV) (outer:List Env) (s:O4) (H:Hp) (vs:List V) (Q:VK) (E:XK),fd.code=cdv->bA k (A.deeper (Rr qual (aa st) s.heap.objs.size f cdv))->Mod K mg base->sp vs H Q E →
  ∃ t,PSs (aI CX P w K mg base N qual (aa st) f cdv A outer s H E) (aq st) t/\t { nx:=fun _ H'=>Q .non H',rt:=Q } (L2.start N vs) H):bS P w K mg base CX (k+1) f fd ps sp:=by
 obtain ⟨oc,od,kV,doc,pm,an,cdv,ct,osl,rfl,lk,hcd⟩:=F.ex
 refine ⟨len,fun A outer s H args us vs Q E hr e0 hb r hs=>?_⟩
 have F1:bS P w K mg base CX (k+1) f (Qo x qual (b8 st) (aq st) (aa st) .none kV doc pm an cdv ct) ps sp:=xT lk hcd S len fun A outer s H vs Q E hr hsp=>hbody cdv A outer s H vs Q E rfl hr e0.mod hsp
 exact F1.run A outer s H args us vs Q E hr e0 hb r hs
theorem C9 {K:OX} (X:Txt P w K mg T G) (Y:wJ K mg TX) :
 ∀ (k:Nat) (x:BT.FK) (fn:BT.Fn),TX x=some fn->∀ (f:O9) (fd:Qm) (nm qual:Str) (st:Pk),Fun K nm qual st f fd->aM fn.ns fn.ps (aa st)->ff (aa st) fn.ns true fn.body (aq st)->fJ K qual fd fn->bS P w K mg base (CX1 P w) (2*k) f fd fn.ps (spX P w K (BT.dS T TX G k x)):=by
 intro k
 induction k with
 | zero =>
  intro x fn hT f fd nm qual st h2 h3 h5 h6
  have no:∀ vs H Q E,¬ spX P w K (BT.dS T TX G 0 x) vs H Q E:=fun vs H Q E h=>by
   obtain ⟨m,ws,h,z,h',_,_,e,_⟩:=h
   cases e
  exact ⟨fun vs H Q E h=>absurd h (no vs H Q E),fun A outer s H args us vs Q E _ _ _ _ h=>absurd h (no vs H Q E)⟩
 | succ k ih =>
  intro x fn hT f fd nm qual st h2 h3 h5 h6
  show bS P w K mg base (CX1 P w) (2*k+1+1) f fd fn.ps (spX P w K (BT.dS T TX G (k+1) x))
  have inv:∀ {ws:List BT.W}{h:BT.HH}{r:Str×BT.HH},BT.dS T TX G (k+1) x ws h=some r->ws.length=fn.ps.length/\BT.rsS (BT.runN T G k) (BT.dS T TX G k) (BT.dk T) G fn.body (BT.aL fn.ns.length ws) h=some r:=fun {ws h r} e=>by
   rw[BT.dS,hT] at e
   simp only at e
   split at e
   ·rename_i c;exact ⟨c,e⟩
   ·cases e
  refine C8 h2 h3 (fun vs H Q E h=>?_) fun cdv A outer s H vs Q E hcd hr hM h=>?_
  ·obtain ⟨m,ws,h,c,h',R,r,e,post⟩:=h
   rw[r.length];exact (inv e).1
  ·obtain ⟨m,ws,h,c,h',R,r,e,post⟩:=h
   have O:Ok (aI (CX1 P w) P w K mg base fn.ns qual (aa st) f cdv A outer s H E) (BT.runN T G k) G (aa st) fn.ns:=by
    refine qx X (g9 X k).1 (g9 X k).2 rfl rfl rfl rfl rfl rfl rfl h3.nd rfl hr UP fun _ y hy=>?_
    obtain ⟨t1,t2,⟨c,Pt,t3,t4,t5,t6⟩,bm,ob,t7,t8,t9,t10,t11,t12⟩:=h6 y hy
    exact ⟨t2,⟨c,Pt,t3,hcd.symm.trans t4,RK hM.kin t5,t6⟩,by show qual++".<locals>."=_;rw[t1],bm,ob,P5 hM.kin hM.glob t7,t8,hM.kin _ _ t9,t10,t11,t12⟩
   have O1:OkX (aI (CX1 P w) P w K mg base fn.ns qual (aa st) f cdv A outer s H E) (BT.dS T TX G k) (BT.dk T) E:=z6 (base:=base) X Y ih rfl rfl rfl rfl rfl hr (KA fun _ _ z=>z)
   have M:MadeX (aI (CX1 P w) P w K mg base fn.ns qual (aa st) f cdv A outer s H E) E:=⟨fun pins σ H s1 h2 a args C I hx hE=>C3 I hx hE,Y.cls⟩
   exact ⟨fun D σ H'=>xD (aI (CX1 P w) P w K mg base fn.ns qual (aa st) f cdv A outer s H E) E (BT.rsS (BT.runN T G k) (BT.dS T TX G k) (BT.dk T) G fn.body) σ H',
    fun pins s σ H D I q=>zZ O O1 (fun _=>M) (fun _=>rfl) h5 pins s σ H _ I q,m,_,h,c,h',R,dR r,(inv e).2,post⟩
noncomputable def jW (tn:Str) (told:List BT.W->BT.HH->Option (BT.W×BT.HH)) (F:FT):FT:=fun x=>match x with
 | .f y=>if y=tn then told else F (.f y)
 | .m c m=>F (.m c m)
 | .l L=>F (.l L)
theorem qz:jW tn told F (.f tn)=told:=if_pos rfl
theorem uM (h:¬ y=tn):jW tn told F (.f y)=F (.f y):=if_neg h
theorem Dc (O:Ok X F G sc N)
 (h1:X.mg tn=some (.ref fa)) (h2:PK X.K (.ref fa)=true) (h3:Binds X.K fd ps []) (h4:bA k X.A) (h5:bS X.prog X.w X.K X.mg X.base CX0 k fa fd ps (spF X.prog X.w X.K told)):Ok X (jW tn told F) G sc N :=
 ⟨O.hsc,O.hN,O.nd,O.calm,O.hu,O.own,O.glob,fun f ws h r e=>by
  by_cases c:f=tn
  ·subst c
   rw[qz]
   exact ⟨fa,fd,ps,k,h1,h2,h3,h4,h5⟩
  ·rw[uM c] at e ⊢
   exact O.call f ws h r e,O.meth,O.mkc,O.blt,O.lam,O.lamx⟩
noncomputable def qA (F:FT) (G:Str->Option BT.W) (fn:BT.Fn) (ws:List BT.W) (h:BT.HH):Option (BT.W×BT.HH):=if ws.length=fn.ps.length then BT.iy (BT.evS F G fn.body (BT.aL fn.ns.length ws) h) (BT.fin h) else none
section
variable {K:OX}
end
noncomputable def ji (c m:Str) (g:List BT.W->BT.HH->Option (BT.W×BT.HH)) (F:FT):FT:=fun x=>match x with
 | .f y=>F (.f y)
 | .m c' m'=>if c'=c/\m'=m then g else F (.m c' m')
 | .l L=>F (.l L)
theorem nA {c m:Str}{g:List BT.W->BT.HH->Option (BT.W×BT.HH)}{F:FT}:ji c m g F (.m c m)=g:=if_pos ⟨rfl,rfl⟩
theorem lM {c m c' m':Str}{g:List BT.W->BT.HH->Option (BT.W×BT.HH)}{F:FT} (h:¬ (c'=c/\m'=m)):ji c m g F (.m c' m')=F (.m c' m'):=if_neg h
theorem z7 {X:Cx}{F:FT}{G:Str->Option BT.W}{sc:Qc}{N:List Str} (O:Ok X F G sc N) {c m:Str}{g:List BT.W->BT.HH->Option (BT.W×BT.HH)} (hm:¬ ("__init__":Str)=m)
 (h:OkM X.prog X.w X.K X.mg X.base X.A CX0 c m (spF X.prog X.w X.K g)):Ok X (ji c m g F) G sc N :=
 ⟨O.hsc,O.hN,O.nd,O.calm,O.hu,O.own,O.glob,O.call,fun c' m' ws hh r e=>by
  by_cases q:c'=c/\m'=m
  ·obtain ⟨rfl,rfl⟩:=q
   rw[nA]
   exact h
  ·rw[lM q] at e ⊢
   exact O.meth c' m' ws hh r e,fun c' ws hh r e=>by
  rw[lM (fun q=>hm q.2)] at e ⊢
  exact O.mkc c' ws hh r e,O.blt,O.lam,O.lamx⟩
noncomputable def runK (F:FT) (G:Str->Option BT.W) (fn:BT.Fn) (ws:List BT.W) (h:BT.HH):Option (BT.W×BT.HH):=if ws.length=fn.ps.length then BT.iy (BT.evS F G fn.body (BT.aL fn.ns.length ws) h) (fun w h'=>some (w,h')) else none
section
variable {P:Pv}{w:P0}{K:OX}{mg:Str->Option Value}{base:Heap}{T:BT.FK->Option BT.Fn}{G:Str->Option BT.W}
theorem Aa (X:Txt P w K mg T G) (k:Nat) {fn:BT.Fn}{f:O9}{fd:Qm}{qual:Str}{st:Pk}{cdv:Value}{A:QV}{outer:List Env}{s:O4}{H:Hp}{E:XK} (h3:aM fn.ns fn.ps (aa st)) (h6:fJ K qual fd fn) (hcd:fd.code=cdv) (hM:Mod K mg base)
 (hr:bA (2*k+1) (A.deeper (Rr qual (aa st) s.heap.objs.size f cdv))):Ok (aI CX0 P w K mg base fn.ns qual (aa st) f cdv A outer s H E).nox (BT.runN T G k) G (aa st) fn.ns:=by
 refine qx X (g9 X k).1 (g9 X k).2 rfl rfl rfl rfl rfl rfl rfl h3.nd rfl hr Sn fun _ y hy=>?_
 obtain ⟨t1,t2,⟨c,Pt,t3,t4,t5,t6⟩,bm,ob,t7,t8,t9,t10,t11,t12⟩:=h6 y hy
 exact ⟨t2,⟨c,Pt,t3,hcd.symm.trans t4,RK hM.kin t5,t6⟩,by show qual++".<locals>."=_;rw[t1],bm,ob,P5 hM.kin hM.glob t7,t8,hM.kin _ _ t9,t10,t11,t12⟩
theorem De (X:Txt P w K mg T G) (k:Nat) {fn:BT.Fn}{f:O9}{fd:Qm}{nm qual:Str}{st:Pk} (h2:Fun K nm qual st f fd) (h3:aM fn.ns fn.ps (aa st)) (h5:CSs (aa st) fn.ns fn.body (aq st)) (h6:fJ K qual fd fn) :
 bS P w K mg base CX0 (2*k+1+1) f fd fn.ps (spF P w K (runK (BT.runN T G k) G fn)):=by
 refine oO h2 h3 (fun vs H Q E h=>?_) fun cdv A outer s H vs Q E hcd hr hM h=>?_
 ·obtain ⟨m,ws,h,z,h',R,r,e,post⟩:=h
  unfold runK at e
  split at e
  ·rename_i c;rw[r.length];exact c
  ·cases e
 ·obtain ⟨m,ws,h,z,h',R,r,e,post⟩:=h
  unfold runK at e
  split at e
  ·refine ⟨_,sSs (Aa X k h3 h6 hcd hM hr) (fun _=>rfl) h5,?_⟩
   cases gg:BT.evS (BT.runN T G k) G fn.body (BT.aL fn.ns.length ws) h with
   | none=>rw[gg] at e;cases e
   | some fl =>
    rw[gg] at e
    refine ⟨m,_,h,fl,R,dR r,gg,?_⟩
    cases fl with
    | rt y g=>cases e;exact post
    | nx s' g =>
     cases e
     intro σ' H' m' x' R' _
     exact post .non H' m' x' R' (.p .non)
    | bk s' g=>cases e
    | ct s' g=>cases e
  ·cases e
theorem wK (X:Txt P w K mg T G) (k:Nat) {fn:BT.Fn}{f:O9}{fd:Qm}{nm qual:Str}{st:Pk} (h2:Fun K nm qual st f fd) (h3:aM fn.ns fn.ps (aa st)) (h5:CSs (aa st) fn.ns fn.body (aq st)) (h6:fJ K qual fd fn)
 {tn c m:Str}{told g:List BT.W->BT.HH->Option (BT.W×BT.HH)}{fa:O9}{fd':Qm}{ps:List Str} (q1:mg tn=some (.ref fa)) (q2:PK K (.ref fa)=true) (q3:Binds K fd' ps []) (q5:bS P w K mg base CX0 (2*k) fa fd' ps (spF P w K told))
 (hm:¬ ("__init__":Str)=m) {C ga:O9}{fg:Qm}{pg:List Str} (g1:iB K c C) (g2:nL K C m ga) (g3:Binds K fg pg []) (g5:bS P w K mg base CX0 (2*k) ga fg pg (spF P w K g)) :
 bS P w K mg base CX0 (2*k+1+1) f fd fn.ps (spF P w K (qA (jW tn told (ji c m g (BT.runN T G k))) G fn)):=by
 refine oO h2 h3 (fun vs H Q E h=>?_) fun cdv A outer s H vs Q E hcd hr hM h=>?_
 ·obtain ⟨m,ws,h,z,h',R,r,e,post⟩:=h
  unfold qA at e
  split at e
  ·rename_i c;rw[r.length];exact c
  ·cases e
 ·obtain ⟨m0,ws,h,z,h',R,r,e,post⟩:=h
  unfold qA at e
  split at e
  ·have O':=Dc (z7 (c:=c) (Aa X k (f:=f) (outer:=outer) (H:=H) (E:=E) h3 h6 hcd hM hr) hm ⟨C,ga,fg,pg,2*k,g1,g2,g3,hr.mono (P9 _),g5⟩) (tn:=tn) (told:=told) (k:=2*k) q1 q2 q3 (hr.mono (P9 _)) q5
   refine ⟨_,sSs O' (fun _=>rfl) h5,?_⟩
   cases gg:BT.evS (jW tn told (ji c m g (BT.runN T G k))) G fn.body (BT.aL fn.ns.length ws) h with
   | none=>rw[gg] at e;cases e
   | some fl =>
    rw[gg] at e
    refine ⟨m0,_,h,fl,R,dR r,gg,?_⟩
    cases fl with
    | rt y g =>
     intro v H' m' x' R' r'
     obtain ⟨m2,y1,y2,y3⟩:=cU e R x' R' r'
     exact post v H' m2 y1 y2 y3
    | nx s' g =>
     intro σ' H' m' x' R' _
     obtain ⟨m2,y1,y2,y3⟩:=cU (v:=.non) e R x' R' (.p .non)
     exact post .non H' m2 y1 y2 y3
    | bk s' g=>cases e
    | ct s' g=>cases e
  ·cases e
end
section
variable {K:OX}
end
section
variable {K:OX}{E:XK}
end
noncomputable def cxT (X:Cx) (pins:List (O9×Obj)) (xe':Value->O4->Prop):Cx:={ X with pn:=X.pn++pins,xe:=xe' }
theorem Eu (I:Inv X pins σ H s):Inv (cxT X pins xe') [] σ H s :=
 ⟨⟨I.ok.mod,I.ok.kind,I.ok.glob,I.ok.blt,I.ok.above,I.ok.inj,I.ok.has,I.ok.cab,I.ok.hd,I.ok.frames,I.ok.stk,I.ok.exf,I.ok.bs,I.ok.bsz,I.ok.noex,I.ok.exfs,I.ok.fL,I.ok.frf⟩,
  I.os,I.bare,I.base,I.loc,I.cell,I.free,I.freeC,fun p hp=>I.pin p (by simpa [cxT] using hp),I.hok,I.len⟩
theorem Ab (ok:X.Ok) (I:Inv (cxT X pins xe') pins' σ H s):Inv X pins σ H s :=
 ⟨ok,I.os,I.bare,I.base,I.loc,I.cell,I.free,I.freeC,fun p hp=>I.pin p (Q8 _ hp),I.hok,I.len⟩
theorem KI (O:Ok X F G sc N) (own:UQ (Pp X.prog X.w) X.A X.env xe'):Ok (cxT X pins xe') F G sc N :=
 ⟨O.hsc,O.hN,O.nd,O.calm,O.hu,own,O.glob,O.call,O.meth,O.mkc,O.blt,O.lam,fun hf x hx=>let L:=O.lamx hf x hx;⟨L.mem,L.ex,L.ql,L.bm⟩⟩
section
variable {K:OX}
end
noncomputable def jj (F:FT) (R:BT.XF) (D:Str->Bool) (G:Str->Option BT.W) (fn:BT.Fn) (cn:Str) (ws:List BT.W) (h:BT.HH):Option (BT.W×BT.HH) :=
 if ws.length=fn.ps.length then (match BT.iy (BT.evS F G fn.body (BT.aL fn.ns.length ws) h) (BT.fin h) with
  | some r=>some r
  | none=>match BT.rsS F R D G fn.body (BT.aL fn.ns.length ws) h with
   | some (c,h')=>if c=cn then some (.p (.bl true),h') else none
   | none=>none) else none
section
variable {P:Pv}{w:P0}{K:OX}{mg:Str->Option Value}{base:Heap}{T TX:BT.FK->Option BT.Fn}{G:Str->Option BT.W}
theorem Ac (X:Txt P w K mg T G) (Y:wJ K mg TX) {k:Nat}{fn:BT.Fn}{tn n cn:Str}{f:O9}{fd:Qm}{nm qual:Str}{st:Pk}{body:List Pk}{C D:O9}{i:Nat}{p1 p2 p3 p4 p5 p6 hp pos:Pos} (cnC:CN K cn C) (hmC:mg cn=some (.ref C)) (xC:kg K C) (hsub:oQ K C D=true)
 (h2:Fun K nm qual st f fd) (h3:aM fn.ns fn.ps (aa st)) (hB:aq st=[.Try body [.ExceptHandler (some (.Name tn p1)) (some n) [.Return (some (.Call (.Name "isinstance" p2) [.Name n p3,.Name cn p4] [] p5)) p6] hp] [] [] pos])
 (h5:CSs (aa st) fn.ns fn.body body) (h6:ff (aa st) fn.ns false fn.body body) (hnt:∀ x,fn.ns.contains (BT.bU x)=false) (hi:fn.ns[i]?=some n) (hln:(aa st).names.lookup n=some .local) (okn:aA n=true)
 (hgD:av (aa st) tn=true) (okD:aA tn=true) (hmD:mg tn=some (.ref D)) (xD':kg K D) (hgC:av (aa st) cn=true) (okC:aA cn=true) (hgI:av (aa st) "isinstance"=true) :
 bS P w K mg base CX0 (2*k+1+1) f fd fn.ps (spF P w K (jj (BT.runN T G k) (BT.dS T TX G k) (BT.dk T) G fn cn)):=by
 obtain ⟨oc,od,kV,doc,pm,an,cdv,ct,osl,rfl,lk,hcd⟩:=h2.ex
 refine xT lk hcd h3 (fun vs H Q E h=>?_) fun A outer s H vs Q E hr h=>?_
 ·obtain ⟨m,ws,h,z,h',R,r,e,post⟩:=h
  rw[r.length]
  unfold jj at e
  split at e
  ·rename_i c;exact c
  ·cases e
 ·obtain ⟨m,ws,h,z,h',R,r,e,post⟩:=h
  unfold jj at e
  split at e
  ·have O:=KH (CX:=CX0) (base:=base) (outer:=outer) (H:=H) (E:=E) (ps:=fn.ps) X h3.nd hnt hr
   rw[hB]
   refine ⟨fun Dd σ H'=>σ=L2.start fn.ns vs/\H'=H/\(∀ v H2,Dd.rt v H2↔Q v H2)/\∀ σ' H2,Dd.nx σ' H2↔Q .non H2,kB ?_,rfl,rfl,fun _ _=>Iff.rfl,fun _ _=>Iff.rfl⟩
   intro pins s1 σ H1 Dd I ⟨q1,q2,q3,q4⟩
   subst q1 q2
   refine wpAny_Try_except ?_
   cases g0:BT.iy (BT.evS (BT.runN T G k) G fn.body (BT.aL fn.ns.length ws) h) (BT.fin h) with
   | some rr =>
    rw[g0] at e
    cases e
    cases gg:BT.evS (BT.runN T G k) G fn.body (BT.aL fn.ns.length ws) h with
    | none=>rw[gg] at g0;cases g0
    | some fl =>
     rw[gg] at g0
     refine thn (sSs (KI (pins:=pins) O UO) (fun _=>rfl) h5 [] s1 (L2.start fn.ns vs) H1 { nx:=fun _ H2=>Q .non H2,rt:=Q } (Eu I) ⟨m,_,h,fl,R,dR r,gg,?_⟩) fun fw s2 q=>?_
     ·cases fl with
      | rt y g =>
       intro v H' m' x' R' r'
       obtain ⟨m2,y1,y2,y3⟩:=cU g0 R x' R' r'
       exact post v H' m2 y1 y2 y3
      | nx s' g =>
       intro σ' H' m' x' R' _
       obtain ⟨m2,y1,y2,y3⟩:=cU (v:=.non) g0 R x' R' (.p .non)
       exact post .non H' m2 y1 y2 y3
      | bk s' g=>cases g0
      | ct s' g=>cases g0
     ·cases fw with
      | next =>
       obtain ⟨σ',H',J,z⟩:=q
       exact Sa ⟨σ',H',Ab I.ok J,(q4 _ _).mpr z⟩
      | ret u =>
       obtain ⟨v,σ',H',J,rv,z⟩:=q
       exact ⟨v,σ',H',Ab I.ok J,rv,(q3 _ _).mpr z⟩
      | brk=>obtain ⟨_,_,_,z⟩:=q;exact z.elim
      | cont=>obtain ⟨_,_,_,z⟩:=q;exact z.elim
   | none =>
    rw[g0] at e
    simp only at e
    cases g1:BT.rsS (BT.runN T G k) (BT.dS T TX G k) (BT.dk T) G fn.body (BT.aL fn.ns.length ws) h with
    | none=>rw[g1] at e;cases e
    | some cq =>
     obtain ⟨c,hq⟩:=cq
     rw[g1] at e
     simp only at e
     split at e
     ·rename_i hxn
      cases hxn
      cases e
      refine zZ (R:=BT.dS T TX G k) (E:=fun cv _ H2=>cv=.ref C/\∃ m2,Ext m H1 m2 H2/\RH K m2 H2 h') (ra:=false) (KI (pins:=pins) O UO) (z6 (base:=base) X Y (C9 X Y k) rfl rfl rfl rfl rfl hr ?_) (fun z=>nomatch z) (fun _=>rfl) h6 [] s1 (L2.start fn.ns vs) H1 _ (Eu I) ⟨m,_,h,cn,h',R,dR r,g1,fun H' m' x' R' C' hC'=>⟨by rw[hC'.inj cnC],m',x',R'⟩⟩
      intro pins' σ' H2 s2 ee s3 I' hcx
      refine zU (Wn:=fun H2=>∃ m2,Ext m H1 m2 H2/\RH K m2 H2 h') (Ab I.ok I') hcx (fun C' d H' z=>⟨by have:=z.1;cases this;rfl,z.2⟩) h3.nd hi hln okn (aE O hgD) okD hmD (aE O hgC) okC hmC (aE O hgI) (O.blt _ (by decide)) xC xD' hsub fun σ' H' s'' wn J=>⟨.bl true,σ',H',J,rfl,(q3 _ _).mpr ?_⟩
      obtain ⟨m2,x2,R2⟩:=wn
      exact post _ H' m2 x2 R2 (.p (.bl true))
     ·cases e
  ·cases e
end
end BS
end
section
namespace BT
open PySem
noncomputable def bY:Fn:=⟨["part"],["part"],
 (.seq (.ife (.cmp .eq (.idx (.glo "INNER_COUNTS") (.idx (.var 0) (.cst (.int 0)))) (.cst (.int 0))) (.ret (.tup .nil)) .nil)
 (.ret (.slc (.var 0) (.cons (.cst (.int 1)) .nil) .nil)))⟩
noncomputable def jk:Fn:=⟨[],[],
 (.ret (.tup (.cons (.cst (.int 0)) (.cons (.bin .mul (.tup (.cons (.cst (.int 0)) .nil)) (.bi .len false (.cons (.glo "LETTERS") .nil))) (.cons (.bin .mul (.tup (.cons (.cst (.int 0)) .nil)) (.glo "CELL_COUNT")) (.cons (.tup .nil) (.cons (.cst (.int 0)) (.cons (.tup .nil) .nil))))))))⟩
noncomputable def eU:Fn:=⟨["term"],["term","parts","waiting","part"],
 (.seq (.set 1 (.lst true .nil))
 (.seq (.set 2 (.lst true (.cons (.var 0) .nil)))
 (.seq (.whl (.cmp .gt (.bi .len false (.cons (.var 2) .nil)) (.cst (.int 0))) (.seq (.set 3 (.me .pop (.var 2) .nil))
 (.seq (.ex (.me .append (.var 1) (.cons (.var 3) .nil)))
 (.ex (.me .extend (.var 2) (.cons (.call "inner_sums" (.cons (.var 3) .nil)) .nil))))))
 (.ret (.var 1)))))⟩
noncomputable def ig:Fn:=⟨["word","one","other"],["word","one","other"],
 (.seq (.ife (.cmp .eq (.var 0) (.cst (.str "less"))) (.ret (.ite (.cmp .lt (.var 1) (.var 2)) (.cst (.int 1)) (.cst (.int 0)))) .nil)
 (.seq (.ife (.cmp .eq (.var 0) (.cst (.str "add"))) (.ret (.bin .mod (.bin .add (.var 1) (.var 2)) (.glo "WORTH_COUNT"))) .nil)
 (.seq (.ife (.cmp .eq (.var 0) (.cst (.str "sub"))) (.ret (.bin .mod (.bin .sub (.var 1) (.var 2)) (.glo "WORTH_COUNT"))) .nil)
 (.ret (.bin .mod (.bin .mul (.var 1) (.var 2)) (.glo "WORTH_COUNT"))))))⟩
noncomputable def fZ:Fn:=⟨["thing"],["thing"],
 (.ret (.cmp .mem (.var 0) (.glo "LETTERS")))⟩
noncomputable def eV:Fn:=⟨["state","thing"],["state","thing"],
 (.seq (.ife (.call "is_name" (.cons (.var 1) .nil)) (.ret (.idx (.idx (.var 0) (.glo "NAMES")) (.me .tindex (.glo "LETTERS") (.cons (.var 1) .nil)))) .nil)
 (.seq (.ex (.call "check_thing" (.cons (.var 1) .nil)))
 (.ret (.idx (.idx (.var 0) (.glo "CELLS")) (.var 1)))))⟩
noncomputable def bM:Fn:=⟨["part","worths","state"],["part","worths","state","word","last"],
 (.seq (.set 3 (.idx (.var 0) (.cst (.int 0))))
 (.seq (.ife (.cmp .eq (.var 3) (.cst (.str "num"))) (.ret (.idx (.var 0) (.cst (.int 1)))) .nil)
 (.seq (.ife (.cmp .eq (.var 3) (.cst (.str "name"))) (.ret (.call "worth_in" (.cons (.var 2) (.cons (.idx (.var 0) (.cst (.int 1))) .nil)))) .nil)
 (.seq (.set 4 (.me .pop (.var 1) .nil))
 (.seq (.ife (.cmp .eq (.var 3) (.cst (.str "cell"))) (.ret (.idx (.idx (.var 2) (.glo "CELLS")) (.bin .mod (.var 4) (.glo "CELL_COUNT")))) .nil)
 (.ret (.call "of_two" (.cons (.var 3) (.cons (.me .pop (.var 1) .nil) (.cons (.var 4) .nil))))))))))⟩
noncomputable def eW:Fn:=⟨["term","state"],["term","state","worths","part"],
 (.seq (.set 2 (.lst true .nil))
 (.seq (.for [(3,"part")] .rev (.cons (.call "laid_out" (.cons (.var 0) .nil)) .nil) (.ex (.me .append (.var 2) (.cons (.call "worth_of" (.cons (.var 3) (.cons (.var 2) (.cons (.var 1) .nil)))) .nil))))
 (.ret (.idx (.var 2) (.cst (.int 0))))))⟩
noncomputable def f6:Fn:=⟨["term","state"],["term","state"],
 (.ret (.bin .mod (.call "reckoned" (.cons (.var 0) (.cons (.var 1) .nil))) (.glo "CELL_COUNT")))⟩
noncomputable def dU:Fn:=⟨["program","state"],["program","state","word"],
 (.seq (.ife (.cmp .ge (.idx (.var 1) (.glo "ROW")) (.bi .len false (.cons (.var 0) .nil))) (.ret (.cst (.bl true))) .nil)
 (.seq (.set 2 (.idx (.idx (.var 0) (.idx (.var 1) (.glo "ROW"))) (.cst (.int 0))))
 (.seq (.ife (.cmp .eq (.var 2) (.cst (.str "back"))) (.ret (.cmp .eq (.bi .len false (.cons (.idx (.var 1) (.glo "CALLS")) .nil)) (.cst (.int 0)))) .nil)
 (.seq (.ife (.cmp .eq (.var 2) (.cst (.str "call"))) (.ret (.cmp .ge (.bi .len false (.cons (.idx (.var 1) (.glo "CALLS")) .nil)) (.glo "MOST_CALLS"))) .nil)
 (.ret (.cmp .eq (.var 2) (.cst (.str "stop"))))))))⟩
noncomputable def cj:Fn:=⟨["row","state"],["row","state","word"],
 (.seq (.set 2 (.idx (.var 0) (.cst (.int 0))))
 (.seq (.ife (.or (.cmp .eq (.var 2) (.cst (.str "jump"))) (.cmp .eq (.var 2) (.cst (.str "call")))) (.ret (.idx (.var 0) (.cst (.int 1)))) .nil)
 (.seq (.ife (.cmp .eq (.var 2) (.cst (.str "back"))) (.ret (.idx (.idx (.var 1) (.glo "CALLS")) (.neg (.cst (.int 1))))) .nil)
 (.seq (.ife (.and (.cmp .eq (.var 2) (.cst (.str "unless"))) (.cmp .eq (.call "reckoned" (.cons (.idx (.var 0) (.cst (.int 1))) (.cons (.var 1) .nil))) (.cst (.int 0)))) (.ret (.idx (.var 0) (.cst (.int 2)))) .nil)
 (.ret (.bin .add (.idx (.var 1) (.glo "ROW")) (.cst (.int 1))))))))⟩
noncomputable def cX:Fn:=⟨["worths","number","worth"],["worths","number","worth"],
 (.ret (.bin .add (.bin .add (.slc (.var 0) .nil (.cons (.var 1) .nil)) (.tup (.cons (.var 2) .nil))) (.slc (.var 0) (.cons (.bin .add (.var 1) (.cst (.int 1))) .nil) .nil)))⟩
noncomputable def dH:Fn:=⟨["state","name","worth"],["state","name","worth"],
 (.ret (.call "with_worth" (.cons (.idx (.var 0) (.glo "NAMES")) (.cons (.me .tindex (.glo "LETTERS") (.cons (.var 1) .nil)) (.cons (.var 2) .nil)))))⟩
noncomputable def dW:Fn:=⟨["asked","number"],["asked","number"],
 (.ret (.ite (.cmp .lt (.var 1) (.bi .len false (.cons (.var 0) .nil))) (.idx (.var 0) (.var 1)) (.cst (.int 0))))⟩
noncomputable def f7:Fn:=⟨["program","asked","state"],["program","asked","state","row","word","behind"],
 (.seq (.set 3 (.idx (.var 0) (.idx (.var 2) (.glo "ROW"))))
 (.seq (.set 4 (.idx (.var 3) (.cst (.int 0))))
 (.seq (.set 5 (.bi .list true (.cons (.var 2) .nil)))
 (.seq (.put 5 (.glo "ROW") (.call "place_behind" (.cons (.var 3) (.cons (.var 2) .nil))))
 (.seq (.ife (.cmp .eq (.var 4) (.cst (.str "set"))) (.put 5 (.glo "NAMES") (.call "with_name" (.cons (.var 2) (.cons (.idx (.var 3) (.cst (.int 1))) (.cons (.call "reckoned" (.cons (.idx (.var 3) (.cst (.int 2))) (.cons (.var 2) .nil))) .nil))))) (.ife (.cmp .eq (.var 4) (.cst (.str "put"))) (.put 5 (.glo "CELLS") (.call "with_worth" (.cons (.idx (.var 2) (.glo "CELLS")) (.cons (.call "cell_by" (.cons (.idx (.var 3) (.cst (.int 1))) (.cons (.var 2) .nil))) (.cons (.call "reckoned" (.cons (.idx (.var 3) (.cst (.int 2))) (.cons (.var 2) .nil))) .nil))))) (.ife (.cmp .eq (.var 4) (.cst (.str "ask"))) (.seq (.put 5 (.glo "NAMES") (.call "with_name" (.cons (.var 2) (.cons (.idx (.var 3) (.cst (.int 1))) (.cons (.call "brought" (.cons (.var 1) (.cons (.idx (.var 2) (.glo "ASKED")) .nil))) .nil)))))
 (.put 5 (.glo "ASKED") (.bin .add (.idx (.var 2) (.glo "ASKED")) (.cst (.int 1))))) (.ife (.cmp .eq (.var 4) (.cst (.str "say"))) (.put 5 (.glo "SAID") (.bin .add (.idx (.var 2) (.glo "SAID")) (.tup (.cons (.call "reckoned" (.cons (.idx (.var 3) (.cst (.int 1))) (.cons (.var 2) .nil))) .nil)))) (.ife (.cmp .eq (.var 4) (.cst (.str "call"))) (.put 5 (.glo "CALLS") (.bin .add (.idx (.var 2) (.glo "CALLS")) (.tup (.cons (.bin .add (.idx (.var 2) (.glo "ROW")) (.cst (.int 1))) .nil)))) (.ife (.cmp .eq (.var 4) (.cst (.str "back"))) (.put 5 (.glo "CALLS") (.slc (.idx (.var 2) (.glo "CALLS")) .nil (.cons (.neg (.cst (.int 1))) .nil))) .nil))))))
 (.ret (.bi .tuple false (.cons (.var 5) .nil))))))))⟩
noncomputable def fK:Fn:=⟨["program","asked","many"],["program","asked","many","told"],
 (.seq (.set 3 (.lst true (.cons (.call "begun" .nil) .nil)))
 (.seq (.whl (.and (.cmp .le (.bi .len false (.cons (.var 3) .nil)) (.var 2)) (.not (.call "is_over" (.cons (.var 0) (.cons (.idx (.var 3) (.neg (.cst (.int 1)))) .nil))))) (.ex (.me .append (.var 3) (.cons (.call "stepped" (.cons (.var 0) (.cons (.var 1) (.cons (.idx (.var 3) (.neg (.cst (.int 1)))) .nil)))) .nil))))
 (.ret (.var 3))))⟩
theorem uN:Pe s=Pe t↔s=t:=by
 constructor
 ·intro h
  rw[UU,UU] at h
  have h1:(s.toList.map UE)=(t.toList.map UE):=by
   have:=congrArg (fun x:Str=>x.cps.toList) h
   simpa using this
  have inj:∀ (a b:List Char),a.map UE=b.map UE->a=b:=by
   intro a
   induction a with
   | nil=>intro b h;cases b with
    | nil=>rfl
    | cons _ _=>simp at h
   | cons x xs ih=>intro b h;cases b with
    | nil=>simp at h
    | cons y ys =>
     simp only[Pn,Ry] at h
     have:x=y:=Char.toNat_inj.mp h.1
     rw[this,ih ys h.2]
  have h2:=inj _ _ h1
  exact String.toList_inj.mp h2
 ·intro h;rw[h]
@[simp] theorem Mq (s t:String):(Pe s==Pe t)=(s==t):=by
 by_cases h:s=t
 ·subst h;simp
 ·have h1:¬ Pe s=Pe t:=fun e=>h (uN.mp e)
  rw[beq_eq_false_iff_ne.mpr h1,beq_eq_false_iff_ne.mpr h]
@[simp] theorem NL (s t:String):(Pe s=Pe t)=(s=t):=propext uN
@[simp] theorem OR (h:List α) (a:α) (r:List α):(h++a :: r)[h.length]?=some a:=by simp
@[simp] theorem KJ (h:List α) (a b:α) (r:List α):(h++a :: b :: r)[h.length+1]?=some b:=by
 rw[Py (by lia)];simp
@[simp] theorem OS (h:List α) (a x:α) (r:List α):(h++a :: r).set h.length x=h++x :: r:=by simp
@[simp] theorem OT (h:List α) (a b x:α) (r:List α):(h++a :: b :: r).set (h.length+1) x=h++a :: x :: r:=by
 rw[List.set_append_right _ _ (by lia)];simp
theorem aj (h:HH) (w:W):fin h w h=some (w,h):=by simp[fin]
theorem jm (h g:HH) (d:D):fin h (.p d) (h++g)=some (.p d,h):=by
 unfold fin
 cases g with
 | nil=>simp
 | cons c g=>simp
@[simp] theorem NN (h:HH) (a:Cl) (r:HH):lat (h++a :: r) h.length=nQ a:=by simp[lat]
@[simp] theorem OU (h:HH) (a b:Cl) (r:HH):lat (h++a :: b :: r) (h.length+1)=nQ b:=by
 unfold lat;rw[KJ];rfl
@[simp] theorem OV (h:HH) (a:Cl) (r:HH):oat (h++a :: r) h.length=pX a:=by simp[oat]
@[simp] theorem OW (h:HH) (a b:Cl) (r:HH):oat (h++a :: b :: r) (h.length+1)=pX b:=by
 unfold oat;rw[KJ];rfl
theorem Df (e:lat h n=some ys) (c:Cl):lat (h.set n c) n=nQ c:=by
 unfold lat at e ⊢
 cases g:h[n]? with
 | none=>rw[g] at e;cases e
 | some q=>rw[List.getElem?_set_self',g];rfl
theorem Ew (h:HH) (xs:List D) (g:HH):fin h (.r h.length) (h++.l xs :: g)=some (.p (.lst xs),h):=by
 unfold fin;simp
theorem uO (h h':HH) (w:W) (e:h'.length=h.length):fin h w h'=some (w,h'):=by simp[fin,e]
structure Prg (T:FK->Option Fn) (G:Str->Option W):Prop where
 inner_sums:T "inner_sums"=some bY
 begun:T "begun"=some jk
 laid_out:T "laid_out"=some eU
 of_two:T "of_two"=some ig
 worth_of:T "worth_of"=some bM
 is_name:T "is_name"=some fZ
 worth_in:T "worth_in"=some eV
 reckoned:T "reckoned"=some eW
 cell_by:T "cell_by"=some f6
 is_over:T "is_over"=some dU
 place_behind:T "place_behind"=some cj
 with_worth:T "with_worth"=some cX
 with_name:T "with_name"=some dH
 brought:T "brought"=some dW
 stepped:T "stepped"=some f7
 LETTERS:G "LETTERS"=some (.p (.tup [.str "a",.str "b",.str "c",.str "d",.str "e",.str "f"]))
 CELL_COUNT:G "CELL_COUNT"=some (.p (.int 4))
 WORTH_COUNT:G "WORTH_COUNT"=some (.p (.int 10007))
 INNER:G "INNER_COUNTS"=some (.k (.t [("num",.int 0),("name",.int 0),("cell",.int 1),("add",.int 2),("sub",.int 2),("mul",.int 2),("less",.int 2)]))
 ROW:G "ROW"=some (.p (.int 0))
 NAMES:G "NAMES"=some (.p (.int 1))
 CELLS:G "CELLS"=some (.p (.int 2))
 CALLS:G "CALLS"=some (.p (.int 3))
 ASKED:G "ASKED"=some (.p (.int 4))
 SAID:G "SAID"=some (.p (.int 5))
 MOST_CALLS:G "MOST_CALLS"=some (.p (.int 6))
inductive Op where
 | add | sub | mul | less
noncomputable def Op.w:Op->String
 | .add=>"add" | .sub=>"sub" | .mul=>"mul" | .less=>"less"
inductive Nm where
 | a | b | c | d | e | f
noncomputable def Nm.w:Nm->String
 | .a=>"a" | .b=>"b" | .c=>"c" | .d=>"d" | .e=>"e" | .f=>"f"
noncomputable def Nm.ix:Nm->Nat
 | .a=>0 | .b=>1 | .c=>2 | .d=>3 | .e=>4 | .f=>5
theorem Nm.Ex (x:Nm):x.ix < 6:=by cases x<;>decide
inductive Sm where
 | num (n:Int)
 | nam (i:Nm)
 | cell (s:Sm)
 | two (o:Op) (s t:Sm)
noncomputable def Sm.enc:Sm->D
 | .num n=>.tup [.str "num",.int n]
 | .nam i=>.tup [.str "name",.str i.w]
 | .cell s=>.tup [.str "cell",s.enc]
 | .two o s t=>.tup [.str o.w,s.enc,t.enc]
noncomputable def Sm.size:Sm->Nat
 | .num _=>1
 | .nam _=>1
 | .cell s=>s.size+1
 | .two _ s t=>s.size+t.size+1
noncomputable def Sm.lay:Sm->List Sm
 | .num n=>[.num n]
 | .nam i=>[.nam i]
 | .cell s=>.cell s :: s.lay
 | .two o s t=>.two o s t :: (t.lay++s.lay)
noncomputable def Sm.subs:Sm->List Sm
 | .num _=>[]
 | .nam _=>[]
 | .cell s=>[s]
 | .two _ s t=>[s,t]
noncomputable def Wth (n:Int):Prop:=0<=n/\n<=10006
noncomputable def Sm.ok:Sm->Prop
 | .num n=>Wth n
 | .nam _=>True
 | .cell s=>s.ok
 | .two _ s t=>s.ok/\t.ok
theorem Sm.size_pos (s:Sm):1<=s.size:=by cases s<;>simp[Sm.size]
structure St where
 row:Nat
 names:List Int
 cells:List Int
 calls:List Nat
 asked:Nat
 said:List Int
noncomputable def ah (xs:List Int):List D:=xs.map D.int
noncomputable def aZ (xs:List Nat):List D:=xs.map fun (n:Nat)=>D.int (n:Int)
noncomputable def St.enc (s:St):D:=.tup [.int s.row,.tup (ah s.names),.tup (ah s.cells),.tup (aZ s.calls),.int s.asked,.tup (ah s.said)]
structure St.ok (s:St):Prop where
 nlen:s.names.length=6
 clen:s.cells.length=4
 nw:∀ x∈s.names,Wth x
 cw:∀ x∈s.cells,Wth x
noncomputable def two (o:Op) (x y:Int):Int:=match o with
 | .add=>(x+y) % 10007
 | .sub=>(x - y) % 10007
 | .mul=>(x*y) % 10007
 | .less=>if x < y then 1 else 0
noncomputable def Sm.val (st:St):Sm->Int
 | .num n=>n
 | .nam i=>st.names.getD i.ix 0
 | .cell s=>st.cells.getD (s.val st % 4).toNat 0
 | .two o s t=>BT.two o (s.val st) (t.val st)
theorem sI {xs:List Int} (h:∀ x∈xs,Wth x) (i:Nat):Wth (xs.getD i 0):=by
 rw[RY]
 cases e:xs[i]? with
 | none=>exact ⟨by decide,by decide⟩
 | some x=>exact h x (Pb e)
theorem KM (o:Op):Wth (BT.two o x y):=by
 cases o<;>simp only[BT.two,Wth]
 ·lia
 ·lia
 ·lia
 ·split<;>decide
theorem Sm.qB {st:St} (ho:st.ok):∀ {s:Sm},s.ok->Wth (s.val st)
 | .num _,h=>h
 | .nam i,_=>sI ho.nw _
 | .cell _,_=>sI ho.cw _
 | .two _ _ _,_=>KM _
section
theorem wL (P:Prg T G) (k:Nat) (s:Sm) (h:HH):runN T G (k+1) "inner_sums" [.p s.enc] h=some (.p (.tup (s.subs.map Sm.enc)),h):=by
 rw[run_eq P.inner_sums rfl]
 cases s with
 | two o s t =>
  have g:=P.INNER
  have q:cM (Pe o.w) [("num",.int 0),("name",.int 0),("cell",.int 1),("add",.int 2),("sub",.int 2),("mul",.int 2),("less",.int 2)]=some (.int 2):=by cases o<;>simp[Op.w]
  generalize ([("num",.int 0),("name",.int 0),("cell",.int 1),("add",.int 2),("sub",.int 2),("mul",.int 2),("less",.int 2)]:List (Str×D))=I at *
  simp[bY,g,q,Sm.enc,Sm.subs,aj]
 | _=>simp[bY,P.INNER,Sm.enc,Sm.subs,aj]
theorem sJ (P:Prg T G) (k:Nat) (o:Op) (hx:Wth x) (h:HH) :
 runN T G (k+1) "of_two" [.p (.str o.w),.p (.int x),.p (.int y)] h=some (.p (.int (two o x y)),h):=by
 rw[run_eq P.of_two rfl]
 have b:big x=true:=by unfold big;exact decide_eq_true (by have h1:=hx.1;have h2:=hx.2;lia)
 cases o<;>simp[ig,P.WORTH_COUNT,aj,Op.w,two,b]
 by_cases c:x < y<;>simp[c,aj]
noncomputable def mH:List D:=[.str "a",.str "b",.str "c",.str "d",.str "e",.str "f"]
theorem Dg (x:Nm):d8 .mem (.str x.w) (.tup mH)=some true:=by cases x<;>simp[mH,Nm.w]
theorem Ad (x:Nm):meD .tindex (.tup mH) [.str x.w]=some (.int (x.ix:Int)):=by
 rw[xZ]
 cases x<;>simp[mH,Nm.w,Nm.ix,fQ]
theorem qC {i:Nat} (h:i < xs.length):aX (.tup (ah xs)) (.int (i:Int))=some (.int (xs.getD i 0)):=by
 show atP _ _=_
 unfold atP place ah
 rw[if_pos (Int.natCast_nonneg _),if_pos (by rw[Pr];lia)]
 show (xs.map D.int)[((i:Int)).toNat]?=_
 rw[Int.toNat_natCast,PR,RY,Ph h];rfl
theorem nB (st:St):aX st.enc (.int 1)=some (.tup (ah st.names)):=rfl
theorem wM (st:St):aX st.enc (.int 2)=some (.tup (ah st.cells)):=rfl
theorem qD (P:Prg T G) (k:Nat) (x:Nm) (h:HH):runN T G (k+1) "is_name" [.p (.str x.w)] h=some (.p (.bl true),h):=by
 rw[run_eq P.is_name rfl]
 have g:G "LETTERS"=some (.p (.tup mH)):=P.LETTERS
 have m:=Dg x
 generalize mH=L at *
 simp[-bx,fZ,g,m,aj]
theorem oR (P:Prg T G) (k:Nat) (st:St) (ho:st.ok) (x:Nm) (h:HH):runN T G (k+2) "worth_in" [.p st.enc,.p (.str x.w)] h=some (.p (.int (st.names.getD x.ix 0)),h):=by
 rw[run_eq P.worth_in rfl]
 have r:=qD P k x
 have lx:=x.Ex
 have i1:=qC (xs:=st.names) (i:=x.ix) (by rw[ho.nlen];exact lx)
 have i2:=Ad x
 have i3:=nB st
 have g:G "LETTERS"=some (.p (.tup mH)):=P.LETTERS
 generalize mH=L at *
 generalize st.enc=se at *
 generalize ah st.names=sn at *
 simp[-rT,eV,r,P.NAMES,g,i1,i2,i3,aj]
theorem gK (P:Prg T G) (k:Nat) (st:St) (ho:st.ok) (n:Nat) (h:HH) :
 (∀ i,runN T G (k+3) "worth_of" [.p (Sm.num i).enc,.r n,.p st.enc] h=some (.p (.int i),h)) ∧
 (∀ i,runN T G (k+3) "worth_of" [.p (Sm.nam i).enc,.r n,.p st.enc] h=some (.p (.int (st.names.getD i.ix 0)),h)):=by
 refine ⟨fun i=>?_,fun i=>?_⟩<;>rw[run_eq P.worth_of rfl]
 ·simp[bM,Sm.enc,aj]
 ·have r:=oR P k st ho i
  simp[bM,Sm.enc,aj,r]
theorem lN (P:Prg T G) (k:Nat) (st:St) (ho:st.ok) (n:Nat) (h:HH) (s:Sm) (ws:List D) (v:Int) (e:lat h n=some (ws++[.int v])) (hv:0<=v) :
 runN T G (k+1) "worth_of" [.p (Sm.cell s).enc,.r n,.p st.enc] h=some (.p (.int (st.cells.getD (v % 4).toNat 0)),h.set n (.l ws)):=by
 rw[run_eq P.worth_of rfl]
 have c:(((v % 4).toNat:Nat):Int)=v % 4:=by lia
 have i1:=qC (xs:=st.cells) (i:=(v % 4).toNat) (by rw[ho.clen];lia)
 rw[c] at i1
 have i3:=wM st
 generalize st.enc=se at *
 generalize ah st.cells=sn at *
 generalize st.cells.getD (v % 4).toNat 0=z at *
 simp[bM,Sm.enc,P.CELLS,P.CELL_COUNT,e,i1,i3,uO]
theorem Op.other (o:Op):¬ o.w="num"/\¬ o.w="name"/\¬ o.w="cell":=by cases o<;>decide
theorem mJ (P:Prg T G) (k:Nat) (st:St) (n:Nat) (h:HH) (o:Op) (s t:Sm) (ws:List D) (x y:Int) (hx:Wth x) (e:lat h n=some (ws++[.int x,.int y])) :
 runN T G (k+2) "worth_of" [.p (Sm.two o s t).enc,.r n,.p st.enc] h=some (.p (.int (two o x y)),h.set n (.l ws)):=by
 rw[run_eq P.worth_of rfl]
 have e3:lat (h.set n (.l (ws++[.int x]))) n=some (ws++[.int x]):=Df e _
 have e1:(ws++[D.int x,D.int y]).getLast?=some (.int y):=by simp
 have e2:(ws++[D.int x,D.int y]).dropLast=ws++[.int x]:=by simp
 have r:=fun hh=>sJ P k o (x:=x) (y:=y) hx hh
 obtain ⟨n1,n2,n3⟩:=o.other
 have en:(Sm.two o s t).enc=.tup [.str o.w,s.enc,t.enc]:=rfl
 rw[en]
 generalize o.w=ow at *
 generalize s.enc=se at *
 generalize t.enc=te at *
 simp[bM,e,e1,e2,e3,n1,n2,n3,r,uO,UW]
noncomputable def loC:E:=.cmp .gt (.bi .len false (.cons (.var 2) .nil)) (.cst (.int 0))
noncomputable def loB:S:=.seq (.set 3 (.me .pop (.var 2) .nil))
 (.seq (.ex (.me .append (.var 1) (.cons (.var 3) .nil)))
 (.ex (.me .extend (.var 2) (.cons (.call "inner_sums" (.cons (.var 3) .nil)) .nil))))
noncomputable def sizes (l:List Sm):Nat:=(l.map Sm.size).sum
theorem sL (s:Sm) (l:List Sm):sizes (s.subs.reverse++l)+1=sizes (s :: l):=by
 cases s<;>simp[sizes,Sm.subs,Sm.size]<;>lia
theorem Ae (s:Sm) (l:List Sm):(s :: l).flatMap Sm.lay=s :: (s.subs.reverse++l).flatMap Sm.lay:=by
 cases s<;>simp[Sm.lay,Sm.subs,List.flatMap_cons]
theorem Dh (s:Sm):s.subs.length<=2:=by cases s<;>simp[Sm.subs]
theorem nC (l:List Sm):l.length<=sizes l:=by
 induction l with
 | nil=>simp[sizes]
 | cons s l ih =>
  have h1:=s.size_pos
  simp only[sizes,Pn,UH,Po] at ih ⊢
  lia
theorem Di (P:Prg T G) (k:Nat) (h:HH) (t0:W):∀ (m:Nat) (stk:List Sm) (ps:List D) (x:Option W),sizes stk<=m->ps.length+sizes stk<=50000 →
 ∃ x',cE (ev (runN T G (k+1)) G loC) (evS (runN T G (k+1)) G loB) (m+1) [some t0,some (.r h.length),some (.r (h.length+1)),x] (h++[.l ps,.l (stk.reverse.map Sm.enc)]) =
  some (.nx [some t0,some (.r h.length),some (.r (h.length+1)),x'] (h++[.l (ps++(stk.flatMap Sm.lay).map Sm.enc),.l []])):=by
 intro m
 induction m with
 | zero =>
  intro stk ps x hs _
  have:stk=[]:=by
   have:=nC stk
   exact RC (by lia)
  subst this
  exact ⟨x,by simp[cE,loC,rd]⟩
 | succ m ih =>
  intro stk ps x hs hl
  cases stk with
  | nil=>exact ⟨x,by simp[cE,loC,rd]⟩
  | cons s l =>
   have e:=sL s l
   obtain ⟨x',q⟩:=ih (s.subs.reverse++l) (ps++[s.enc]) (some (.p s.enc)) (by lia) (by simp only[PJ,SG];lia)
   refine ⟨x',?_⟩
   have r:=wL P k s
   have l1:l.length+s.subs.length<=100000:=by
    have h1:=Dh s
    have h2:=nC l
    have h3:sizes (s :: l)=s.size+sizes l:=by simp[sizes]
    lia
   have c1:(0:Int) < (l.length:Int)+1:=by lia
   have l2:ps.length < 100000:=by lia
   have hc:ev (runN T G (k+1)) G loC [some t0,some (.r h.length),some (.r (h.length+1)),x] (h++[.l ps,.l ((s :: l).reverse.map Sm.enc)])=some (.p (.bl true),h++[.l ps,.l ((s :: l).reverse.map Sm.enc)]):=by
    simp[loC,rd,c1]
   have hb:evS (runN T G (k+1)) G loB [some t0,some (.r h.length),some (.r (h.length+1)),x] (h++[.l ps,.l ((s :: l).reverse.map Sm.enc)]) =
    some (.nx [some t0,some (.r h.length),some (.r (h.length+1)),some (.p s.enc)] (h++[.l (ps++[s.enc]),.l ((s.subs.reverse++l).reverse.map Sm.enc)])):=by
    simp[loB,r,l1,l2]
   rw[cE,hc,iK,kZ,hb,gC,q,Ae,Pn,QK,QA]
theorem lO:eU=⟨["term"],["term","parts","waiting","part"],.seq (.set 1 (.lst true .nil))
 (.seq (.set 2 (.lst true (.cons (.var 0) .nil))) (.seq (.whl loC loB) (.ret (.var 1))))⟩:=rfl
theorem oS (P:Prg T G) (k:Nat) (s:Sm) (hs:s.size<=40000) (h:HH):runN T G (k+2) "laid_out" [.p s.enc] h=some (.p (.lst (s.lay.map Sm.enc)),h):=by
 rw[run_eq P.laid_out rfl]
 obtain ⟨x',q⟩:=Di P k h (.p s.enc) 99999 [s] [] none (by simp only[sizes,Pn,QC,UH,List.sum_nil];lia) (by simp only[sizes,Pn,QC,UH,List.sum_nil,Qe];lia)
 simp only[List.flatMap_cons,List.flatMap_nil,PY,Rk,SB,Pn,QC] at q
 rw[lO]
 simp[turns,q,Ew]
noncomputable def rkB:S:=.ex (.me .append (.var 2) (.cons (.call "worth_of" (.cons (.var 3) (.cons (.var 2) (.cons (.var 1) .nil)))) .nil))
theorem Dj (P:Prg T G) (k:Nat) (h:HH) (t0:W) (st:St) (ho:st.ok):∀ (s:Sm),s.ok->∀ (ws:List D) (rest:List D) (x:Option W),ws.length+s.size<=50000 →
 ∃ x',fE (evS (runN T G (k+3)) G rkB) [(3,"part")] ((s.lay.map Sm.enc).reverse++rest) [some t0,some (.p st.enc),some (.r h.length),x] (h++[.l ws]) =
  fE (evS (runN T G (k+3)) G rkB) [(3,"part")] rest [some t0,some (.p st.enc),some (.r h.length),x'] (h++[.l (ws++[.int (s.val st)])]):=by
 intro s
 induction s with
 | num n =>
  intro _ ws rest x hl
  refine ⟨some (.p (Sm.num n).enc),?_⟩
  have r:=(gK P k st ho h.length (h++[.l ws])).1 n
  have l:ws.length < 100000:=by simp only[Sm.size] at hl;lia
  have hb:evS (runN T G (k+3)) G rkB [some t0,some (.p st.enc),some (.r h.length),some (.p (Sm.num n).enc)] (h++[.l ws]) =
   some (.nx [some t0,some (.p st.enc),some (.r h.length),some (.p (Sm.num n).enc)] (h++[.l (ws++[.int n])])):=by
   simp[rkB,r,l]
  simp only[Sm.lay,Pn,QC,SB,QA,Sm.val]
  simp[hb]
 | nam i =>
  intro _ ws rest x hl
  refine ⟨some (.p (Sm.nam i).enc),?_⟩
  have r:=(gK P k st ho h.length (h++[.l ws])).2 i
  have l:ws.length < 100000:=by simp only[Sm.size] at hl;lia
  have hb:evS (runN T G (k+3)) G rkB [some t0,some (.p st.enc),some (.r h.length),some (.p (Sm.nam i).enc)] (h++[.l ws]) =
   some (.nx [some t0,some (.p st.enc),some (.r h.length),some (.p (Sm.nam i).enc)] (h++[.l (ws++[.int (st.names.getD i.ix 0)])])):=by
   simp[rkB,r,l]
  simp only[Sm.lay,Pn,QC,SB,QA,Sm.val]
  simp[hb]
 | cell s ih =>
  intro hok ws rest x hl
  obtain ⟨x1,e1⟩:=ih hok ws ((Sm.cell s).enc :: rest) x (by simp only[Sm.size] at hl;lia)
  refine ⟨some (.p (Sm.cell s).enc),?_⟩
  have r:=lN P (k+2) st ho h.length (h++[.l (ws++[.int (s.val st)])]) s ws (s.val st) (by simp) (Sm.qB (s:=s) ho hok).1
  have l:ws.length < 100000:=by simp only[Sm.size] at hl;lia
  have hb:evS (runN T G (k+3)) G rkB [some t0,some (.p st.enc),some (.r h.length),some (.p (Sm.cell s).enc)] (h++[.l (ws++[.int (s.val st)])]) =
   some (.nx [some t0,some (.p st.enc),some (.r h.length),some (.p (Sm.cell s).enc)] (h++[.l (ws++[.int ((Sm.cell s).val st)])])):=by
   simp[rkB,r,l,Sm.val]
  simp only[Sm.lay,Pn,Sj,QK,QA]
  rw[e1]
  simp[hb]
 | two o s t ihs iht =>
  intro hok ws rest x hl
  have hl':=hl
  simp only[Sm.size] at hl'
  obtain ⟨x1,e1⟩:=ihs hok.1 ws ((t.lay.map Sm.enc).reverse++((Sm.two o s t).enc :: rest)) x (by lia)
  obtain ⟨x2,e2⟩:=iht hok.2 (ws++[.int (s.val st)]) ((Sm.two o s t).enc :: rest) x1 (by simp only[PJ,SG];have:=s.size_pos;lia)
  refine ⟨some (.p (Sm.two o s t).enc),?_⟩
  have r:=mJ P (k+1) st h.length (h++[.l (ws++[.int (s.val st),.int (t.val st)])]) o s t ws (s.val st) (t.val st) (Sm.qB ho hok.1) (by simp)
  have l:ws.length < 100000:=by lia
  have hb:evS (runN T G (k+3)) G rkB [some t0,some (.p st.enc),some (.r h.length),some (.p (Sm.two o s t).enc)] (h++[.l (ws++[.int (s.val st),.int (t.val st)])]) =
   some (.nx [some t0,some (.p st.enc),some (.r h.length),some (.p (Sm.two o s t).enc)] (h++[.l (ws++[.int ((Sm.two o s t).val st)])])):=by
   simp[rkB,r,l,Sm.val]
  simp only[Sm.lay,Pn,List.map_append,Sj,List.reverse_append,QK,QA]
  rw[e1,e2]
  simp only[QK,QA]
  simp[hb]
theorem lP:eW=⟨["term","state"],["term","state","worths","part"],.seq (.set 2 (.lst true .nil))
 (.seq (.for [(3,"part")] .rev (.cons (.call "laid_out" (.cons (.var 0) .nil)) .nil) rkB) (.ret (.idx (.var 2) (.cst (.int 0)))))⟩:=rfl
theorem cG (P:Prg T G) (k:Nat) (s:Sm) (hs:s.size<=40000) (hok:s.ok) (st:St) (ho:st.ok) (h:HH) :
 runN T G (k+4) "reckoned" [.p s.enc,.p st.enc] h=some (.p (.int (s.val st)),h):=by
 rw[run_eq P.reckoned rfl]
 obtain ⟨x',q⟩:=Dj P k h (.p s.enc) st ho s hok [] [] none (by simp only[Qe];lia)
 rw[lP]
 simp only[PY,Rk] at q
 have r:=oS P (k+1) s hs
 simp[r,c7,q,jm,rd]
end
section
variable {T:FK->Option Fn}{F:FK->List W->HH->Option (W×HH)}{G:Str->Option W}{i:Nat}{e e' c:E}{a b:S}{s s':Sl}{h g:HH}{w:W}{d d' z:D}
theorem uP (h1:evS F G a s h=some (.nx s' g)):evS F G (.seq a b) s h=evS F G b s' g:=by simp[h1]
theorem iT (h1:BT.ev F G e s h=some (w,g)):evS F G (.seq (.set i e) b) s h=evS F G b (s.set i (some w)) g:=by simp[h1]
theorem iE (h1:BT.ev F G c s h=some (.p (.bl false),h)):evS F G (.seq (.ife c a .nil) b) s h=evS F G b s h:=by simp[h1]
theorem sM (h1:BT.ev F G c s h=some (.p (.bl true),h)) (h2:BT.ev F G e s h=some (w,g)):evS F G (.seq (.ife c (.ret e) .nil) b) s h=some (.rt w g):=by simp[h1,h2]
theorem oU (h2:BT.ev F G e s h=some (w,g)):evS F G (.ret e) s h=some (.rt w g):=by simp[h2]
theorem GT (hT:T f=some fn) (hl:ws.length=fn.ps.length) (h1:evS (runN T G k) G fn.body (aL fn.ns.length ws) h=some (.rt (.p d) h)):runN T G (k+1) f ws h=some (.p d,h):=by
 rw[run_eq hT hl,h1];exact aj h (.p d)
end
section
theorem Dl (xs:List α) (i:Nat):atP xs (i:Int)=xs[i]?:=by
 unfold atP place
 by_cases h:i < xs.length
 ·have h1:((i:Int) < (xs.length:Int)):=by lia
  simp[h1,h]
 ·have h1:¬ ((i:Int) < (xs.length:Int)):=by lia
  simp[h1];lia
theorem gM (P:Prg T G) (k:Nat) (xs:List D) (i:Nat) (hi:i < xs.length) (hl:xs.length<=1000) (d:D) (h:HH) :
 runN T G (k+1) "with_worth" [.p (.tup xs),.p (.int i),.p d] h=some (.p (.tup (xs.set i d)),h):=by
 rw[run_eq P.with_worth rfl]
 have a1:¬ ((i:Int) < 0):=by lia
 have a2:(i:Int)<=(xs.length:Int):=by lia
 have a3:¬ ((i:Int)+1 < 0):=by lia
 have a4:(i:Int)+1<=(xs.length:Int):=by lia
 have a5:((i:Int)+1).toNat=i+1:=by lia
 have a6:xs.length - (i+1)+(i+1)<=100000:=by lia
 have a7:i+1+(xs.length - (i+1))<=100000:=by lia
 have a8:min i xs.length=i:=by lia
 have a9:i+1<=100000:=by lia
 have e:xs.take i++d :: xs.drop (i+1)=xs.set i d:=by
  rw[List.set_eq_take_append_cons_drop,if_pos hi]
 have b1:(xs.take i).length=i:=by simp;lia
 have b2:(xs.drop (i+1)).length=xs.length - (i+1):=by simp
 have b3:((xs.drop (i+1)).take (xs.length - (i+1)))=xs.drop (i+1):=by
  apply List.take_of_length_le;simp
 simp[cX,a1,a2,a3,a4,a5,a7,a8,a9,b3,e,aj]
@[simp] theorem OF (st:St):aX st.enc (.int 0)=some (.int st.row):=rfl
@[simp] theorem OG (st:St):aX st.enc (.int 1)=some (.tup (ah st.names)):=rfl
@[simp] theorem OH (st:St):aX st.enc (.int 2)=some (.tup (ah st.cells)):=rfl
@[simp] theorem OI (st:St):aX st.enc (.int 3)=some (.tup (aZ st.calls)):=rfl
@[simp] theorem OJ (st:St):aX st.enc (.int 4)=some (.int st.asked):=rfl
@[simp] theorem OL (st:St):aX st.enc (.int 5)=some (.tup (ah st.said)):=rfl
inductive Rw where
 | set (x:Nm) (s:Sm) | put (s t:Sm) | ask (x:Nm) | say (s:Sm) | jump (p:Nat) | unless (s:Sm) (p:Nat) | call (p:Nat) | back | stop
noncomputable def Rw.enc:Rw->D
 | .set x s=>.tup [.str "set",.str x.w,s.enc]
 | .put s t=>.tup [.str "put",s.enc,t.enc]
 | .ask x=>.tup [.str "ask",.str x.w]
 | .say s=>.tup [.str "say",s.enc]
 | .jump p=>.tup [.str "jump",.int p]
 | .unless s p=>.tup [.str "unless",s.enc,.int p]
 | .call p=>.tup [.str "call",.int p]
 | .back=>.tup [.str "back"]
 | .stop=>.tup [.str "stop"]
noncomputable def oV (s:Sm):Prop:=s.ok/\s.size<=15
noncomputable def Rw.ok (n:Nat):Rw->Prop
 | .set _ s=>oV s
 | .put s t=>oV s/\oV t
 | .ask _=>True
 | .say s=>oV s
 | .jump p=>p<=n
 | .unless s p=>oV s/\p<=n
 | .call p=>p<=n
 | .back=>True
 | .stop=>True
noncomputable abbrev Pg:=List Rw
noncomputable def bD (p:Pg):D:=.tup (p.map Rw.enc)
noncomputable def Pg.ok (p:Pg):Prop:=∀ r∈p,r.ok p.length
noncomputable def Rw.next (asked:List Int) (st:St):Rw->St
 | .set x s=>{ st with row:=st.row+1,names:=st.names.set x.ix (s.val st) }
 | .put s t=>{ st with row:=st.row+1,cells:=st.cells.set (s.val st % 4).toNat (t.val st) }
 | .ask x=>{ st with row:=st.row+1,names:=st.names.set x.ix (asked.getD st.asked 0),asked:=st.asked+1 }
 | .say s=>{ st with row:=st.row+1,said:=st.said++[s.val st] }
 | .jump p=>{ st with row:=p }
 | .unless s p=>{ st with row:=if s.val st=0 then p else st.row+1 }
 | .call p=>{ st with row:=p,calls:=st.calls++[st.row+1] }
 | .back=>{ st with row:=st.calls.getLast?.getD 0,calls:=st.calls.dropLast }
 | .stop=>st
noncomputable def Rw.over (st:St):Rw->Bool
 | .back=>st.calls.length==0
 | .call _=>decide (6<=st.calls.length)
 | .stop=>true
 | _=>false
noncomputable def over (p:Pg) (st:St):Bool:=match p[st.row]? with
 | some r=>r.over st
 | none=>true
noncomputable def step (p:Pg) (asked:List Int) (st:St):St:=match p[st.row]? with
 | some r=>r.next asked st
 | none=>st
noncomputable def St.zero:St:=⟨0,[0,0,0,0,0,0],[0,0,0,0],[],0,[]⟩
theorem Dm:St.zero.ok:=⟨rfl,rfl,by simp[St.zero,Wth],by simp[St.zero,Wth]⟩
noncomputable def sts (p:Pg) (asked:List Int):Nat->St->List St
 | 0,st=>[st]
 | n+1,st=>if over p st then [st] else st :: sts p asked n (step p asked st)
theorem nE (P:Prg T G) (k:Nat) (h:HH):runN T G (k+1) "begun" [] h=some (.p St.zero.enc,h):=by
 rw[run_eq P.begun rfl]
 simp[jk,P.LETTERS,P.CELL_COUNT,aj,St.zero,St.enc,ah,aZ,rep,Pi,List.flatten]
theorem qE (P:Prg T G) (k:Nat) (asked:List Int) (n:Nat) (h:HH):runN T G (k+1) "brought" [.p (.lst (ah asked)),.p (.int n)] h=some (.p (.int (asked.getD n 0)),h):=by
 rw[run_eq P.brought rfl]
 by_cases c:n < asked.length
 ·have c1:(n:Int) < (asked.length:Int):=by lia
  simp[dW,ah,c,c1,aj]
 ·have c1:¬ (n:Int) < (asked.length:Int):=by lia
  have e:asked[n]?=none:=Pa (by lia)
  simp[dW,ah,c1,aj,e]
theorem iF (P:Prg T G) (k:Nat) (st:St) (ho:st.ok) (x:Nm) (d:Int) (h:HH) :
 runN T G (k+2) "with_name" [.p st.enc,.p (.str x.w),.p (.int d)] h=some (.p (.tup (ah (st.names.set x.ix d))),h):=by
 rw[run_eq P.with_name rfl]
 have r:=fun i=>gM P k (ah st.names) i
 have l:(ah st.names).length=6:=by simp[ah,ho.nlen]
 have e:(ah st.names).set x.ix (.int d)=ah (st.names.set x.ix d):=by simp[ah,List.map_set]
 have q:=r x.ix (by rw[l];exact x.Ex) (by lia) (.int d)
 rw[e] at q
 have g:G "LETTERS"=some (.p (.tup mH)):=P.LETTERS
 have i2:=Ad x
 have i3:=nB st
 generalize mH=L at *
 generalize st.enc=se at *
 generalize hz:(x.ix:Int)=z at *
 simp[dH,P.NAMES,g,i2,i3,aj,q]
theorem qF (P:Prg T G) (k:Nat) (s:Sm) (hs:oV s) (st:St) (ho:st.ok) (h:HH):runN T G (k+5) "cell_by" [.p s.enc,.p st.enc] h=some (.p (.int (s.val st % 4)),h):=by
 rw[run_eq P.cell_by rfl]
 have q:=cG P k s (by have:=hs.2;lia) hs.1 st ho
 simp[f6,q,P.CELL_COUNT,aj]
noncomputable def Rw.word:Rw->String
 | .set _ _=>"set" | .put _ _=>"put" | .ask _=>"ask" | .say _=>"say" | .jump _=>"jump" | .unless _ _=>"unless" | .call _=>"call" | .back=>"back" | .stop=>"stop"
theorem Rw.oW (r:Rw):aX r.enc (.int 0)=some (.str r.word):=by cases r<;>rfl
noncomputable def plT:S:=(.seq (.ife (.or (.cmp .eq (.var 2) (.cst (.str "jump"))) (.cmp .eq (.var 2) (.cst (.str "call")))) (.ret (.idx (.var 0) (.cst (.int 1)))) .nil)
 (.seq (.ife (.cmp .eq (.var 2) (.cst (.str "back"))) (.ret (.idx (.idx (.var 1) (.glo "CALLS")) (.neg (.cst (.int 1))))) .nil)
 (.seq (.ife (.and (.cmp .eq (.var 2) (.cst (.str "unless"))) (.cmp .eq (.call "reckoned" (.cons (.idx (.var 0) (.cst (.int 1))) (.cons (.var 1) .nil))) (.cst (.int 0)))) (.ret (.idx (.var 0) (.cst (.int 2)))) .nil)
 (.ret (.bin .add (.idx (.var 1) (.glo "ROW")) (.cst (.int 1)))))))
theorem qG:cj=⟨["row","state"],["row","state","word"],
 (.seq (.set 2 (.idx (.var 0) (.cst (.int 0)))) plT)⟩:=rfl
theorem Dn (P:Prg T G) (F:FK->List W->HH->Option (W×HH)) (w0:W) (st:St) (h:HH) (v:String) (n1:¬ v="jump") (n2:¬ v="call") (n3:¬ v="back") (n4:¬ v="unless"):evS F G plT [some w0,some (.p st.enc),some (.p (.str v))] h=some (.rt (.p (.int ((st.row:Int)+1))) h):=by
 have i0:aX st.enc (.int 0)=some (.int (st.row:Int)):=rfl
 generalize st.enc=se at *
 simp[plT,n1,n2,n3,n4,P.ROW,i0]
theorem Ey (F:FK->List W->HH->Option (W×HH)) (d:D) (w1:W) (h:HH) (v:String) (q:Int) (hv:v="jump"\/v="call") (i1:aX d (.int 1)=some (.int q)):evS F G plT [some (.p d),some w1,some (.p (.str v))] h=some (.rt (.p (.int q)) h):=by
 rcases hv with rfl | rfl<;>simp[plT,i1]
theorem wN (P:Prg T G) (k:Nat) (n:Nat) (r:Rw) (hr:r.ok n) (st:St) (ho:st.ok) (asked:List Int) (hb:r.over st=false) (h:HH) :
 runN T G (k+5) "place_behind" [.p r.enc,.p st.enc] h=some (.p (.int (r.next asked st).row),h):=by
 have wa:=r.oW
 have pre:runN T G (k+5) "place_behind" [.p r.enc,.p st.enc] h=iy (evS (runN T G (k+4)) G plT [some (.p r.enc),some (.p st.enc),some (.p (.str r.word))] h) (fin h):=by
  rw[run_eq P.place_behind rfl,qG]
  generalize r.enc=re at *
  simp[wa]
 have ot:∀ q:Int,iy (some (.rt (.p (.int q)) h)) (fin h)=some (.p (.int q),h):=fun q=>by simp[aj]
 rw[pre]
 cases r with
 | «unless» s p =>
  have q:=cG P k s (by have:=hr.1.2;lia) hr.1.1 st ho
  have i1:aX (Rw.unless s p).enc (.int 1)=some s.enc:=rfl
  have i2:aX (Rw.unless s p).enc (.int 2)=some (.int (p:Int)):=rfl
  have i0:aX st.enc (.int 0)=some (.int (st.row:Int)):=rfl
  generalize (Rw.unless s p).enc=re at *
  generalize st.enc=se at *
  generalize s.enc=sn at *
  by_cases c:s.val st=0<;>simp[plT,Rw.word,Rw.next,q,c,i0,i1,i2,aj,P.ROW]
 | back =>
  have c:st.calls≠[]:=by
   intro e;simp[Rw.over,e] at hb
  have:∃ l x,st.calls=l++[x]:=⟨st.calls.dropLast,st.calls.getLast c,(List.dropLast_concat_getLast c).symm⟩
  obtain ⟨l,x,e⟩:=this
  have i3:aX st.enc (.int 3)=some (.tup (aZ st.calls)):=rfl
  have ix:aX (.tup (aZ st.calls)) (.int (-1))=some (.int (x:Int)):=by
   have e2:-((l.length:Int)+1)<=-1:=by lia
   have e3:(-1+((l.length:Int)+1)).toNat=l.length:=by lia
   simp[aZ,e,e2,e3]
  have nx:((Rw.back).next asked st).row=x:=by simp[Rw.next,e]
  rw[nx]
  generalize st.enc=se at *
  generalize aZ st.calls=nl at *
  simp[-rT,plT,Rw.word,P.CALLS,i3,ix,aj]
 | stop=>simp[Rw.over] at hb
 | jump p=>rw[Rw.word,Ey _ _ _ _ _ (p:Int) (.inl rfl) rfl,ot];rfl
 | call p=>rw[Rw.word,Ey _ _ _ _ _ (p:Int) (.inr rfl) rfl,ot];rfl
 | _=>rw[Rw.word,Dn P _ _ _ _ _ (by decide) (by decide) (by decide) (by decide),ot];rfl
noncomputable def ovT:S:=(.seq (.ife (.cmp .eq (.var 2) (.cst (.str "back"))) (.ret (.cmp .eq (.bi .len false (.cons (.idx (.var 1) (.glo "CALLS")) .nil)) (.cst (.int 0)))) .nil)
 (.seq (.ife (.cmp .eq (.var 2) (.cst (.str "call"))) (.ret (.cmp .ge (.bi .len false (.cons (.idx (.var 1) (.glo "CALLS")) .nil)) (.glo "MOST_CALLS"))) .nil)
 (.ret (.cmp .eq (.var 2) (.cst (.str "stop"))))))
theorem mK:dU=⟨["program","state"],["program","state","word"],
 (.seq (.ife (.cmp .ge (.idx (.var 1) (.glo "ROW")) (.bi .len false (.cons (.var 0) .nil))) (.ret (.cst (.bl true))) .nil)
 (.seq (.set 2 (.idx (.idx (.var 0) (.idx (.var 1) (.glo "ROW"))) (.cst (.int 0))))
 ovT))⟩:=rfl
theorem Do (F:FK->List W->HH->Option (W×HH)) (w0 w1:W) (h:HH) (v:String) (n1:¬ v="back") (n2:¬ v="call"):evS F G ovT [some w0,some w1,some (.p (.str v))] h=some (.rt (.p (.bl (decide (v="stop")))) h):=by
 by_cases c:v="stop"
 ·subst c
  simp[ovT]
 ·skip
  simp[ovT,n1,n2,c]
theorem jX (P:Prg T G) (k:Nat) (p:Pg) (st:St) (h:HH):runN T G (k+1) "is_over" [.p (bD p),.p st.enc] h=some (.p (.bl (over p st)),h):=by
 have lp:biD .len [bD p]=some (.int p.length):=by simp[bD]
 by_cases c:st.row < p.length
 ·have c1:¬ (p.length:Int)<=(st.row:Int):=by lia
  have c2:(st.row:Int) < (p.length:Int):=by lia
  have e:p[st.row]?=some p[st.row]:=Ph c
  have row:aX (bD p) (.int st.row)=some (p[st.row]).enc:=by simp[bD,c2,e]
  have ov:over p st=(p[st.row]).over st:=by rw[over,e]
  rw[ov]
  generalize p[st.row]=r at row ⊢
  have wa:=r.oW
  have pre:runN T G (k+1) "is_over" [.p (bD p),.p st.enc] h=iy (evS (runN T G k) G ovT [some (.p (bD p)),some (.p st.enc),some (.p (.str r.word))] h) (fin h):=by
   rw[run_eq P.is_over rfl,mK]
   generalize r.enc=re at row wa
   simp[lp,row,wa,P.ROW,c1]
  rw[pre]
  have ln:biD .len [.tup (aZ st.calls)]=some (.int (st.calls.length:Int)):=by simp[aZ]
  have i3:aX st.enc (.int 3)=some (.tup (aZ st.calls)):=rfl
  cases r with
  | back =>
   have ee:(((st.calls.length:Nat):Int)==0)=(st.calls.length==0):=by
    cases st.calls with
    | nil=>rfl
    | cons a l=>rw[beq_eq_false_iff_ne.mpr (by simp only[Po];lia)];rfl
   simp[-jD,ovT,Rw.word,P.CALLS,i3,ln,ee,aj,Rw.over]
  | call q =>
   have ee:decide ((6:Int)<=(st.calls.length:Int))=decide (6<=st.calls.length):=decide_eq_decide.mpr (by lia)
   simp[-jD,ovT,Rw.word,P.CALLS,P.MOST_CALLS,i3,ln,ee,aj,Rw.over]
  | _ =>
   rw[Rw.word,Do _ _ _ _ _ (by decide) (by decide)]
   simp[aj,Rw.over]
 ·have c1:(p.length:Int)<=(st.row:Int):=by lia
  have e:p[st.row]?=none:=Pa (by lia)
  rw[run_eq P.is_over rfl]
  simp[dU,lp,P.ROW,c1,aj,over,e]
theorem ints_set (xs:List Int) (i:Nat) (v:Int):(ah xs).set i (.int v)=ah (xs.set i v):=by simp[ah,List.map_set]
theorem gO (xs:List Int):(ah xs).length=xs.length:=by simp[ah]
theorem ints_snoc (xs:List Int) (v:Int):ah xs++[.int v]=ah (xs++[v]):=by simp[ah]
theorem wO (xs:List Nat) (v:Nat):aZ xs++[.int (v:Int)]=aZ (xs++[v]):=by simp[aZ]
theorem Af (xs:List Nat):cut (aZ xs) none (some (-1))=aZ xs.dropLast:=by
 have e:(-1+(xs.length:Int)).toNat=xs.length - 1:=by lia
 simp[cut,clip,aZ,e,List.dropLast_eq_take]
structure St.small (st:St):Prop where
 sl:st.said.length<=5000
 cl:st.calls.length<=5000
noncomputable def encL (st:St):List D:=[.int st.row,.tup (ah st.names),.tup (ah st.cells),.tup (aZ st.calls),.int st.asked,.tup (ah st.said)]
theorem Ag (st:St):biD .list [st.enc]=some (.lst (encL st)):=rfl
noncomputable def GU:S:=(.put 5 (.glo "CALLS") (.slc (.idx (.var 2) (.glo "CALLS")) .nil (.cons (.neg (.cst (.int 1))) .nil)))
noncomputable def GV:S:=(.ife (.cmp .eq (.var 4) (.cst (.str "back"))) GU .nil)
noncomputable def GW:S:=(.put 5 (.glo "CALLS") (.bin .add (.idx (.var 2) (.glo "CALLS")) (.tup (.cons (.bin .add (.idx (.var 2) (.glo "ROW")) (.cst (.int 1))) .nil))))
noncomputable def Dp:S:=(.ife (.cmp .eq (.var 4) (.cst (.str "call"))) GW GV)
noncomputable def GX:S:=(.put 5 (.glo "SAID") (.bin .add (.idx (.var 2) (.glo "SAID")) (.tup (.cons (.call "reckoned" (.cons (.idx (.var 3) (.cst (.int 1))) (.cons (.var 2) .nil))) .nil))))
noncomputable def Ah:S:=(.ife (.cmp .eq (.var 4) (.cst (.str "say"))) GX Dp)
noncomputable def GY:S:=(.seq (.put 5 (.glo "NAMES") (.call "with_name" (.cons (.var 2) (.cons (.idx (.var 3) (.cst (.int 1))) (.cons (.call "brought" (.cons (.var 1) (.cons (.idx (.var 2) (.glo "ASKED")) .nil))) .nil)))))
 (.put 5 (.glo "ASKED") (.bin .add (.idx (.var 2) (.glo "ASKED")) (.cst (.int 1)))))
noncomputable def wQ:S:=(.ife (.cmp .eq (.var 4) (.cst (.str "ask"))) GY Ah)
noncomputable def GZ:S:=(.put 5 (.glo "CELLS") (.call "with_worth" (.cons (.idx (.var 2) (.glo "CELLS")) (.cons (.call "cell_by" (.cons (.idx (.var 3) (.cst (.int 1))) (.cons (.var 2) .nil))) (.cons (.call "reckoned" (.cons (.idx (.var 3) (.cst (.int 2))) (.cons (.var 2) .nil))) .nil)))))
noncomputable def sN:S:=(.ife (.cmp .eq (.var 4) (.cst (.str "put"))) GZ wQ)
noncomputable def G0:S:=(.put 5 (.glo "NAMES") (.call "with_name" (.cons (.var 2) (.cons (.idx (.var 3) (.cst (.int 1))) (.cons (.call "reckoned" (.cons (.idx (.var 3) (.cst (.int 2))) (.cons (.var 2) .nil))) .nil)))))
noncomputable def iU:S:=(.ife (.cmp .eq (.var 4) (.cst (.str "set"))) G0 sN)
noncomputable def G1:S:=(.seq iU
 (.ret (.bi .tuple false (.cons (.var 5) .nil))))
theorem mL:f7=⟨["program","asked","state"],["program","asked","state","row","word","behind"],
 (.seq (.set 3 (.idx (.var 0) (.idx (.var 2) (.glo "ROW"))))
 (.seq (.set 4 (.idx (.var 3) (.cst (.int 0))))
 (.seq (.set 5 (.bi .list true (.cons (.var 2) .nil)))
 (.seq (.put 5 (.glo "ROW") (.call "place_behind" (.cons (.var 3) (.cons (.var 2) .nil))))
 G1))))⟩:=rfl
theorem G2 (F:FK->List W->HH->Option (W×HH)) (A B:S) (s:Sl) (h:HH):evS F G (.seq A B) s h=jS (evS F G A s h) (evS F G B):=by rw[evS]
theorem pick (F:FK->List W->HH->Option (W×HH)) (w0 w1 w2 w3:W) (v w:String) (rest:Sl) (h:HH) (A B:S):evS F G (.ife (.cmp .eq (.var 4) (.cst (.str w))) A B) (some w0 :: some w1 :: some w2 :: some w3 :: some (.p (.str v)) :: rest) h=if v=w then evS F G A (some w0 :: some w1 :: some w2 :: some w3 :: some (.p (.str v)) :: rest) h else evS F G B (some w0 :: some w1 :: some w2 :: some w3 :: some (.p (.str v)) :: rest) h:=by
 have e:eqv (.str v) (.str w)=decide (v=w):=by
  by_cases c:v=w
  ·rw[decide_eq_true c,c];simp
  ·rw[decide_eq_false c]
   have:¬ Pe v=Pe w:=fun z=>c (by simpa using z)
   simp[this,c]
 by_cases c:v=w
 ·rw[decide_eq_true c] at e
  rw[if_pos c]
  simp[-eqv,e]
 ·rw[decide_eq_false c] at e
  rw[if_neg c]
  simp[-eqv,e]
theorem to0 (F:FK->List W->HH->Option (W×HH)) (w0 w1 w2 w3:W) (rest:Sl) (h:HH):evS F G iU (some w0 :: some w1 :: some w2 :: some w3 :: some (.p (.str "set")) :: rest) h=evS F G G0 (some w0 :: some w1 :: some w2 :: some w3 :: some (.p (.str "set")) :: rest) h:=by
 rw[iU,pick,if_pos rfl]
theorem to1 (F:FK->List W->HH->Option (W×HH)) (w0 w1 w2 w3:W) (rest:Sl) (h:HH):evS F G iU (some w0 :: some w1 :: some w2 :: some w3 :: some (.p (.str "put")) :: rest) h=evS F G GZ (some w0 :: some w1 :: some w2 :: some w3 :: some (.p (.str "put")) :: rest) h:=by
 rw[iU,pick,if_neg (by decide),sN,pick,if_pos rfl]
theorem to2 (F:FK->List W->HH->Option (W×HH)) (w0 w1 w2 w3:W) (rest:Sl) (h:HH):evS F G iU (some w0 :: some w1 :: some w2 :: some w3 :: some (.p (.str "ask")) :: rest) h=evS F G GY (some w0 :: some w1 :: some w2 :: some w3 :: some (.p (.str "ask")) :: rest) h:=by
 rw[iU,pick,if_neg (by decide),sN,pick,if_neg (by decide),wQ,pick,if_pos rfl]
theorem to3 (F:FK->List W->HH->Option (W×HH)) (w0 w1 w2 w3:W) (rest:Sl) (h:HH):evS F G iU (some w0 :: some w1 :: some w2 :: some w3 :: some (.p (.str "say")) :: rest) h=evS F G GX (some w0 :: some w1 :: some w2 :: some w3 :: some (.p (.str "say")) :: rest) h:=by
 rw[iU,pick,if_neg (by decide),sN,pick,if_neg (by decide),wQ,pick,if_neg (by decide),Ah,pick,if_pos rfl]
theorem to4 (F:FK->List W->HH->Option (W×HH)) (w0 w1 w2 w3:W) (rest:Sl) (h:HH):evS F G iU (some w0 :: some w1 :: some w2 :: some w3 :: some (.p (.str "call")) :: rest) h=evS F G GW (some w0 :: some w1 :: some w2 :: some w3 :: some (.p (.str "call")) :: rest) h:=by
 rw[iU,pick,if_neg (by decide),sN,pick,if_neg (by decide),wQ,pick,if_neg (by decide),Ah,pick,if_neg (by decide),Dp,pick,if_pos rfl]
theorem to5 (F:FK->List W->HH->Option (W×HH)) (w0 w1 w2 w3:W) (rest:Sl) (h:HH):evS F G iU (some w0 :: some w1 :: some w2 :: some w3 :: some (.p (.str "back")) :: rest) h=evS F G GU (some w0 :: some w1 :: some w2 :: some w3 :: some (.p (.str "back")) :: rest) h:=by
 rw[iU,pick,if_neg (by decide),sN,pick,if_neg (by decide),wQ,pick,if_neg (by decide),Ah,pick,if_neg (by decide),Dp,pick,if_neg (by decide),GV,pick,if_pos rfl]
theorem toN (F:FK->List W->HH->Option (W×HH)) (w0 w1 w2 w3:W) (rest:Sl) (h:HH) (v:String) (hv:v∉["set","put","ask","say","call","back"]):evS F G iU (some w0 :: some w1 :: some w2 :: some w3 :: some (.p (.str v)) :: rest) h=some (.nx (some w0 :: some w1 :: some w2 :: some w3 :: some (.p (.str v)) :: rest) h):=by
 simp only[QB,Qf,or_false,not_or] at hv
 obtain ⟨n1,n2,n3,n4,n5,n6⟩:=hv
 rw[iU,pick,if_neg n1,sN,pick,if_neg n2,wQ,pick,if_neg n3,Ah,pick,if_neg n4,Dp,pick,if_neg n5,GV,pick,if_neg n6];rfl
theorem jY (P:Prg T G) (k:Nat) (p:Pg) (hp:Pg.ok p) (asked:List Int) (st:St) (ho:st.ok) (hs:st.small) (hb:over p st=false) (h:HH) :
 runN T G (k+6) "stepped" [.p (bD p),.p (.lst (ah asked)),.p st.enc] h=some (.p (step p asked st).enc,h):=by
 have c:st.row < p.length:=by
  rcases Pz st.row p.length with q | q
  ·exact q
  ·rw[over,Pa q] at hb;cases hb
 have e:p[st.row]?=some p[st.row]:=Ph c
 have c2:(st.row:Int) < (p.length:Int):=by lia
 have hr:=hp _ (List.getElem_mem c)
 have hb':(p[st.row]).over st=false:=by rw[over,e] at hb;exact hb
 have pl:=wN P k p.length p[st.row] hr st ho asked hb'
 rw[step,e]
 have l1:=hs.sl
 have l2:=hs.cl
 revert pl hr hb'
 generalize p[st.row]=r at *
 intro hr hb' pl
 have row:aX (bD p) (.int st.row)=some r.enc:=by simp[bD,c2,e]
 have pre:runN T G (k+6) "stepped" [.p (bD p),.p (.lst (ah asked)),.p st.enc] h =
  iy (evS (runN T G (k+5)) G G1 [some (.p (bD p)),some (.p (.lst (ah asked))),some (.p st.enc),some (.p r.enc),some (.p (.str r.word)),some (.r h.length)] (h++[.l [.int (r.next asked st).row,.tup (ah st.names),.tup (ah st.cells),.tup (aZ st.calls),.int st.asked,.tup (ah st.said)]])) (fin h):=by
  rw[run_eq P.stepped rfl,mL]
  simp[row,r.oW,P.ROW,Ag,encL,pl]
 rw[pre,G1,G2]
 cases r with
 | set x s =>
  have q:=cG P (k+1) s (by have:=hr.2;lia) hr.1 st ho
  have w:=iF P (k+3) st ho x (s.val st)
  simp only[Rw.enc,Rw.next,Rw.word,to0]
  simp[G0,P.ROW,P.NAMES,q,w,rd,jm,Rw.next]
  simp[St.enc]
 | put s t =>
  have q:=qF P k s hr.1 st ho
  have q2:=cG P (k+1) t (by have:=hr.2.2;lia) hr.2.1 st ho
  have v:=Sm.qB (s:=s) ho hr.1.1
  have hi:(s.val st % 4).toNat < (ah st.cells).length:=by rw[gO,ho.clen];lia
  have w:=gM P (k+4) (ah st.cells) (s.val st % 4).toNat hi (by rw[gO,ho.clen];lia) (.int (t.val st))
  have e3:(((s.val st % 4).toNat:Nat):Int)=s.val st % 4:=by lia
  rw[e3,ints_set] at w
  simp only[Rw.enc,Rw.next,Rw.word,to1]
  simp[GZ,P.ROW,P.CELLS,q,q2,w,rd,jm,Rw.next]
  simp[St.enc]
 | ask x =>
  have b:=qE P (k+4) asked st.asked
  have w:=iF P (k+3) st ho x (asked.getD st.asked 0)
  simp only[Rw.enc,Rw.next,Rw.word,to2]
  simp only[RY] at b w ⊢
  simp[GY,P.ROW,P.NAMES,P.ASKED,b,w,rd,jm,Rw.next]
  simp[St.enc]
 | say s =>
  have q:=cG P (k+1) s (by have:=hr.2;lia) hr.1 st ho
  simp only[Rw.enc,Rw.next,Rw.word,to3]
  have l3:(ah st.said).length+1<=100000:=by rw[gO];lia
  simp[GX,P.ROW,P.SAID,q,rd,jm,Rw.next,l3,ints_snoc]
  simp[St.enc]
 | call q =>
  simp only[Rw.enc,Rw.next,Rw.word,to4]
  have l3:(aZ st.calls).length+1<=100000:=by simp[aZ];lia
  have e4:aZ st.calls++[.int ((st.row:Int)+1)]=aZ (st.calls++[st.row+1]):=by rw[← wO];simp
  simp[GW,P.ROW,P.CALLS,rd,jm,Rw.next,l3,e4]
  simp[St.enc]
 | back =>
  simp only[Rw.enc,Rw.next,Rw.word,to5]
  have e4:=Af st.calls
  have e5:rP (.tup (aZ st.calls)) none (some (-1))=some (.tup (aZ st.calls.dropLast)):=by rw[ya,e4]
  simp[-ya,GU,P.ROW,P.CALLS,rd,jm,Rw.next,e5]
  simp[St.enc]
 | stop=>simp[Rw.over] at hb'
 | _ =>
  simp only[Rw.enc,Rw.next,Rw.word]
  rw[toN _ _ _ _ _ _ _ _ (by decide)]
  simp[P.ROW,rd,jm,Rw.next]
  simp[St.enc]
end
noncomputable def Ask (asked:List Int):Prop:=∀ x∈asked,Wth x
theorem Ai {xs:List Int}{i:Nat}{v:Int} (h:∀ x∈xs,Wth x) (hv:Wth v):∀ x∈xs.set i v,Wth x:=fun x hx=>by
 rcases List.mem_or_eq_of_mem_set hx with q | q
 ·exact h x q
 ·rw[q];exact hv
structure At (n:Nat) (st:St):Prop where
 ok:st.ok
 said:st.said.length<=n
 calls:st.calls.length<=6
theorem At.small {st:St} (a:At n st) (h:n<=5000):st.small:=⟨by have:=a.said;lia,by have:=a.calls;lia⟩
theorem uQ:At 0 St.zero:=⟨Dm,O8 _,by decide⟩
theorem uR {n:Nat}{p:Pg}{asked:List Int}{st:St} (hp:Pg.ok p) (ha:Ask asked) (a:At n st) (hb:over p st=false):At (n+1) (step p asked st):=by
 have c:st.row < p.length:=by
  rcases Pz st.row p.length with q | q
  ·exact q
  ·rw[over,Pa q] at hb;cases hb
 have e:p[st.row]?=some p[st.row]:=Ph c
 have hr:=hp _ (List.getElem_mem c)
 have hb':(p[st.row]).over st=false:=by rw[over,e] at hb;exact hb
 rw[step,e]
 dsimp only
 revert hr hb'
 generalize p[st.row]=r
 intro hr hb'
 obtain ⟨ok,sd,cl⟩:=a
 cases r with
 | set x s=>exact ⟨⟨by simp[Rw.next,ok.nlen],ok.clen,Ai ok.nw (Sm.qB ok hr.1),ok.cw⟩,by simp[Rw.next];lia,cl⟩
 | put s t=>exact ⟨⟨ok.nlen,by simp[Rw.next,ok.clen],ok.nw,Ai ok.cw (Sm.qB ok hr.2.1)⟩,by simp[Rw.next];lia,cl⟩
 | ask x=>exact ⟨⟨by simp[Rw.next,ok.nlen],ok.clen,Ai ok.nw (sI ha _),ok.cw⟩,by simp[Rw.next];lia,cl⟩
 | say s=>exact ⟨⟨ok.nlen,ok.clen,ok.nw,ok.cw⟩,by simp[Rw.next];lia,cl⟩
 | call q =>
  simp[Rw.over] at hb'
  exact ⟨⟨ok.nlen,ok.clen,ok.nw,ok.cw⟩,by simp[Rw.next];lia,by simp[Rw.next];lia⟩
 | back=>exact ⟨⟨ok.nlen,ok.clen,ok.nw,ok.cw⟩,by simp[Rw.next];lia,by simp[Rw.next];lia⟩
 | stop=>simp[Rw.over] at hb'
 | _=>exact ⟨⟨ok.nlen,ok.clen,ok.nw,ok.cw⟩,by simp[Rw.next];lia,cl⟩
section
noncomputable def stC:E:=.and (.cmp .le (.bi .len false (.cons (.var 3) .nil)) (.var 2)) (.not (.call "is_over" (.cons (.var 0) (.cons (.idx (.var 3) (.neg (.cst (.int 1)))) .nil))))
noncomputable def stB:S:=.ex (.me .append (.var 3) (.cons (.call "stepped" (.cons (.var 0) (.cons (.var 1) (.cons (.idx (.var 3) (.neg (.cst (.int 1)))) .nil)))) .nil))
theorem Dq (P:Prg T G) (k:Nat) (h:HH) (p:Pg) (hp:Pg.ok p) (asked:List Int) (ha:Ask asked) (many:Nat) (hm:many<=2000):∀ (r f:Nat) (pre:List D) (st:St),pre.length+r=many->r<=f->At pre.length st →
 cE (ev (runN T G (k+6)) G stC) (evS (runN T G (k+6)) G stB) (f+1) [some (.p (bD p)),some (.p (.lst (ah asked))),some (.p (.int many)),some (.r h.length)] (h++[.l (pre++[st.enc])]) =
  some (.nx [some (.p (bD p)),some (.p (.lst (ah asked))),some (.p (.int many)),some (.r h.length)] (h++[.l (pre++(sts p asked r st).map St.enc)])):=by
 intro r
 induction r with
 | zero =>
  intro f pre st hl hf a
  have c:¬ ((pre.length:Int)+1<=(many:Int)):=by lia
  simp[cE,stC,rd,c,sts]
 | succ r ih =>
  intro f pre st hl hf a
  have c:(pre.length:Int)+1<=(many:Int):=by lia
  have e2:-((pre.length:Int)+1)<=-1:=by lia
  have e3:(-1+((pre.length:Int)+1)).toNat=pre.length:=by lia
  have o:=jX P (k+5) p st
  cases hb:over p st with
  | true =>
   rw[hb] at o
   simp[cE,stC,rd,c,sts,e2,e3,o,hb]
  | false =>
   rw[hb] at o
   have s:=jY P k p hp asked st a.ok (a.small (by lia)) hb
   cases f with
   | zero=>lia
   | succ f =>
    have q:=ih f (pre++[st.enc]) (step p asked st) (by simp;lia) (by lia) (by simpa using uR hp ha a hb)
    have hc:ev (runN T G (k+6)) G stC [some (.p (bD p)),some (.p (.lst (ah asked))),some (.p (.int many)),some (.r h.length)] (h++[.l (pre++[st.enc])])=some (.p (.bl true),h++[.l (pre++[st.enc])]):=by
     simp[stC,rd,c,e2,e3,o]
    have l:pre.length+1 < 100000:=by lia
    have hbd:evS (runN T G (k+6)) G stB [some (.p (bD p)),some (.p (.lst (ah asked))),some (.p (.int many)),some (.r h.length)] (h++[.l (pre++[st.enc])]) =
     some (.nx [some (.p (bD p)),some (.p (.lst (ah asked))),some (.p (.int many)),some (.r h.length)] (h++[.l ((pre++[st.enc])++[(step p asked st).enc])])):=by
     simp[stB,rd,e2,e3,s,l]
    rw[cE,hc,iK,kZ,hbd,gC,q]
    simp[sts,hb]
theorem oX:fK=⟨["program","asked","many"],["program","asked","many","told"],.seq (.set 3 (.lst true (.cons (.call "begun" .nil) .nil))) (.seq (.whl stC stB) (.ret (.var 3)))⟩:=rfl
theorem sO (P:Prg T G) (hS:T "states"=some fK) (k:Nat) (p:Pg) (hp:Pg.ok p) (asked:List Int) (ha:Ask asked) (many:Nat) (hm:many<=2000) (h:HH) :
 runN T G (k+7) "states" [.p (bD p),.p (.lst (ah asked)),.p (.int many)] h=some (.p (.lst ((sts p asked many St.zero).map St.enc)),h):=by
 rw[run_eq hS rfl,oX]
 have q:=Dq P k h p hp asked ha many hm many 99999 [] St.zero (by simp) (by lia) uQ
 have b:=nE P (k+5)
 simp only[Rk] at q
 simp[b,turns,q,Ew]
end
noncomputable def dj:Fn:=⟨["_law_script","_law_k"],["_law_script","_law_k"],
 (.seq (.ife (.cmp .eq (.var 0) (.lst false .nil)) (.ret (.bin .mul (.cst (.int 7)) (.var 1))) .nil)
 (.ret (.bin .add (.idx (.var 0) (.bin .mod (.var 1) (.bi .len false (.cons (.var 0) .nil)))) (.bin .mul (.cst (.int 6553)) (.bin .fdiv (.var 1) (.bi .len false (.cons (.var 0) .nil)))))))⟩
noncomputable def dI:Fn:=⟨["_law_script","_law_k","_law_many"],["_law_script","_law_k","_law_many","_law_cell_here"],
 (.seq (.set 3 (.bin .mod (.bin .add (.bin .mul (.bin .mod (.call "_law_cell" (.cons (.var 0) (.cons (.var 1) .nil))) (.cst (.int 2147483563))) (.cst (.int 69069))) (.bin .mul (.cst (.int 104723)) (.bin .add (.var 1) (.cst (.int 1))))) (.cst (.int 2147483563))))
 (.seq (.set 3 (.bin .mod (.bin .add (.bin .mul (.var 3) (.var 3)) (.bin .fdiv (.var 3) (.cst (.int 3)))) (.cst (.int 2147483399))))
 (.ret (.bin .mod (.bin .fdiv (.bin .mod (.bin .add (.bin .mul (.var 3) (.var 3)) (.bin .fdiv (.var 3) (.cst (.int 7)))) (.cst (.int 2147483647))) (.cst (.int 11))) (.var 2)))))⟩
noncomputable def smL:S:=(.seq (.ife (.cmp .eq (.call "_law_drawn" (.cons (.var 0) (.cons (.bin .add (.var 1) (.cst (.int 1))) (.cons (.cst (.int 2)) .nil)))) (.cst (.int 0))) (.ret (.tup (.cons (.cst (.str "num")) (.cons (.idx (.lst false (.cons (.cst (.int 0)) (.cons (.cst (.int 1)) (.cons (.cst (.int 2)) (.cons (.cst (.int 3)) (.cons (.cst (.int 10)) (.cons (.cst (.int 10006)) .nil))))))) (.call "_law_drawn" (.cons (.var 0) (.cons (.bin .add (.var 1) (.cst (.int 2))) (.cons (.cst (.int 6)) .nil))))) .nil)))) .nil)
 (.ret (.tup (.cons (.cst (.str "name")) (.cons (.idx (.cst (.str "abcf")) (.call "_law_drawn" (.cons (.var 0) (.cons (.bin .add (.var 1) (.cst (.int 2))) (.cons (.cst (.int 4)) .nil))))) .nil)))))
noncomputable def smR:S:=(.seq (.set 4 (.call "_law_sum" (.cons (.var 0) (.cons (.bin .add (.bin .mul (.var 1) (.cst (.int 2))) (.cst (.int 5))) (.cons (.bin .sub (.var 2) (.cst (.int 1))) .nil)))))
 (.seq (.ife (.cmp .lt (.var 3) (.cst (.int 6))) (.ret (.tup (.cons (.cst (.str "cell")) (.cons (.var 4) .nil)))) .nil)
 (.ret (.tup (.cons (.idx (.lst false (.cons (.cst (.str "add")) (.cons (.cst (.str "sub")) (.cons (.cst (.str "mul")) (.cons (.cst (.str "less")) .nil))))) (.bin .sub (.var 3) (.cst (.int 6)))) (.cons (.var 4) (.cons (.call "_law_sum" (.cons (.var 0) (.cons (.bin .add (.bin .mul (.var 1) (.cst (.int 2))) (.cst (.int 19))) (.cons (.bin .sub (.var 2) (.cst (.int 1))) .nil)))) .nil)))))))
noncomputable def cz:Fn:=⟨["_law_script","_law_at","_law_deep"],["_law_script","_law_at","_law_deep","_law_way","_law_one"],
 (.seq (.set 3 (.call "_law_drawn" (.cons (.var 0) (.cons (.var 1) (.cons (.cst (.int 10)) .nil)))))
 (.seq (.ife (.or (.cmp .eq (.var 2) (.cst (.int 0))) (.cmp .lt (.var 3) (.cst (.int 4)))) smL .nil)
 smR))⟩
noncomputable def f9:Fn:=⟨["_law_script","_law_at","_law_size"],["_law_script","_law_at","_law_size","_law_way","_law_place","_law_name","_law_one"],
 (.seq (.set 3 (.call "_law_drawn" (.cons (.var 0) (.cons (.var 1) (.cons (.cst (.int 16)) .nil)))))
 (.seq (.set 4 (.call "_law_drawn" (.cons (.var 0) (.cons (.bin .add (.var 1) (.cst (.int 1))) (.cons (.bin .add (.var 2) (.cst (.int 1))) .nil)))))
 (.seq (.set 5 (.idx (.cst (.str "abc")) (.call "_law_drawn" (.cons (.var 0) (.cons (.bin .add (.var 1) (.cst (.int 2))) (.cons (.cst (.int 3)) .nil))))))
 (.seq (.set 6 (.call "_law_sum" (.cons (.var 0) (.cons (.bin .add (.var 1) (.cst (.int 3))) (.cons (.cst (.int 2)) .nil)))))
 (.seq (.ife (.cmp .lt (.var 3) (.cst (.int 5))) (.ret (.tup (.cons (.cst (.str "set")) (.cons (.var 5) (.cons (.var 6) .nil))))) .nil)
 (.seq (.ife (.cmp .lt (.var 3) (.cst (.int 7))) (.ret (.tup (.cons (.cst (.str "put")) (.cons (.call "_law_sum" (.cons (.var 0) (.cons (.bin .add (.var 1) (.cst (.int 9))) (.cons (.cst (.int 1)) .nil)))) (.cons (.var 6) .nil))))) .nil)
 (.seq (.ife (.cmp .lt (.var 3) (.cst (.int 9))) (.ret (.idx (.lst false (.cons (.tup (.cons (.cst (.str "ask")) (.cons (.var 5) .nil))) (.cons (.tup (.cons (.cst (.str "say")) (.cons (.var 6) .nil))) .nil))) (.bin .sub (.var 3) (.cst (.int 7))))) .nil)
 (.seq (.ife (.cmp .lt (.var 3) (.cst (.int 12))) (.ret (.idx (.lst false (.cons (.tup (.cons (.cst (.str "jump")) (.cons (.var 4) .nil))) (.cons (.tup (.cons (.cst (.str "unless")) (.cons (.var 6) (.cons (.var 4) .nil)))) (.cons (.tup (.cons (.cst (.str "unless")) (.cons (.tup (.cons (.cst (.str "name")) (.cons (.var 5) .nil))) (.cons (.var 4) .nil)))) .nil)))) (.bin .sub (.var 3) (.cst (.int 9))))) .nil)
 (.ret (.idx (.lst false (.cons (.tup (.cons (.cst (.str "call")) (.cons (.var 4) .nil))) (.cons (.tup (.cons (.cst (.str "call")) (.cons (.var 4) .nil))) (.cons (.tup (.cons (.cst (.str "back")) .nil)) (.cons (.idx (.lst false (.cons (.tup (.cons (.cst (.str "stop")) .nil)) (.cons (.tup (.cons (.cst (.str "back")) .nil)) .nil))) (.bin .mod (.var 4) (.cst (.int 2)))) .nil))))) (.bin .sub (.var 3) (.cst (.int 12)))))))))))))⟩
noncomputable def bN:Fn:=⟨["_law_script","_law_at"],["_law_script","_law_at","_law_size","_law_put","_law_sign","_law_rows"],
 (.seq (.set 2 (.bin .add (.cst (.int 1)) (.call "_law_drawn" (.cons (.var 0) (.cons (.var 1) (.cons (.cst (.int 9)) .nil))))))
 (.seq (.ife (.cmp .eq (.call "_law_drawn" (.cons (.var 0) (.cons (.bin .add (.var 1) (.cst (.int 1))) (.cons (.cst (.int 4)) .nil)))) (.cst (.int 0))) (.seq (.set 3 (.tup (.cons (.cst (.str "put")) (.cons (.tup (.cons (.cst (.str "name")) (.cons (.cst (.str "a")) .nil))) (.cons (.tup (.cons (.cst (.str "num")) (.cons (.call "_law_drawn" (.cons (.var 0) (.cons (.bin .add (.var 1) (.cst (.int 2))) (.cons (.cst (.int 9)) .nil)))) .nil))) .nil)))))
 (.seq (.set 4 (.idx (.lst false (.cons (.cst (.str "add")) (.cons (.cst (.str "sub")) .nil))) (.call "_law_drawn" (.cons (.var 0) (.cons (.bin .add (.var 1) (.cst (.int 3))) (.cons (.cst (.int 2)) .nil))))))
 (.seq (.set 5 (.tup (.cons (.tup (.cons (.cst (.str "ask")) (.cons (.cst (.str "a")) .nil))) (.cons (.tup (.cons (.cst (.str "call")) (.cons (.cst (.int 4)) .nil))) (.cons (.tup (.cons (.cst (.str "say")) (.cons (.tup (.cons (.cst (.str "name")) (.cons (.cst (.str "a")) .nil))) .nil))) (.cons (.tup (.cons (.cst (.str "jump")) (.cons (.cst (.int 0)) .nil))) (.cons (.var 3) .nil)))))))
 (.ret (.bin .add (.var 5) (.tup (.cons (.tup (.cons (.cst (.str "call")) (.cons (.cst (.int 7)) .nil))) (.cons (.tup (.cons (.cst (.str "back")) .nil)) (.cons (.tup (.cons (.cst (.str "set")) (.cons (.cst (.str "b")) (.cons (.tup (.cons (.var 4) (.cons (.tup (.cons (.cst (.str "name")) (.cons (.cst (.str "b")) .nil))) (.cons (.tup (.cons (.cst (.str "name")) (.cons (.cst (.str "a")) .nil))) .nil)))) .nil)))) (.cons (.tup (.cons (.cst (.str "back")) .nil)) .nil)))))))))) .nil)
 (.ret (.bi .tuple false (.cons (.comp false .rng1 (.cons (.var 2) .nil) ["_law_k"] [(0,"_law_script"),(1,"_law_at"),(2,"_law_size")] .nil (.call "_law_row" (.cons (.var 1) (.cons (.bin .add (.bin .add (.var 2) (.cst (.int 10))) (.bin .mul (.cst (.int 40)) (.var 0))) (.cons (.var 3) .nil))))) .nil)))))⟩
noncomputable def dJ:Fn:=⟨["_law_script","_law_at"],["_law_script","_law_at"],
 (.ret (.comp false .rng1 (.cons (.call "_law_drawn" (.cons (.var 0) (.cons (.var 1) (.cons (.cst (.int 4)) .nil)))) .nil) ["_law_k"] [(0,"_law_script"),(1,"_law_at")] .nil (.idx (.lst false (.cons (.cst (.int 0)) (.cons (.cst (.int 1)) (.cons (.cst (.int 5)) (.cons (.cst (.int 10006)) .nil))))) (.call "_law_drawn" (.cons (.var 1) (.cons (.bin .add (.bin .add (.var 2) (.cst (.int 1))) (.var 0)) (.cons (.cst (.int 4)) .nil)))))))⟩
structure Lw (T:FK->Option Fn):Prop where
 cell:T "_law_cell"=some dj
 drawn:T "_law_drawn"=some dI
 sum:T "_law_sum"=some cz
 row:T "_law_row"=some f9
 asked:T "_law_asked"=some dJ
noncomputable def uS (ns:List Int) (k:Int):Int:=if ns=[] then 7*k else ns.getD (k % ns.length).toNat 0+6553*(k / ns.length)
noncomputable def drw (ns:List Int) (k many:Int):Int :=
 let a:=(uS ns k % 2147483563*69069+104723*(k+1)) % 2147483563
 let b:=(a*a+a / 3) % 2147483399
 (b*b+b / 7) % 2147483647 / 11 % many
theorem bH (ns:List Int) (k:Int) (h:0 < many):0<=drw ns k many:=Int.emod_nonneg _ (by lia)
theorem bI (ns:List Int) (k:Int) (h:0 < many):drw ns k many < many:=Int.emod_lt_of_pos _ h
theorem jK (h0:0<=i) (h1:i < 18446744073709551616):big i=true:=by
 unfold big;exact decide_eq_true (by lia)
section
theorem Dr (ns:List Int):eqv (.lst (ah ns)) (.lst [])=decide (ns=[]):=by
 cases ns<;>simp[ah]
theorem Aj (L:Lw T) (m:Nat) (ns:List Int) (hl:ns.length<=1000) (k:Int) (h:HH):runN T G (m+1) "_law_cell" [.p (.lst (ah ns)),.p (.int k)] h=some (.p (.int (uS ns k)),h):=by
 rw[run_eq L.cell rfl]
 by_cases c:ns=[]
 ·subst c
  simp[dj,ah,uS,big,aj]
 ·have n0:0 < ns.length:=List.length_pos_iff.mpr c
  have q:eqv (.lst (ah ns)) (.lst [])=false:=by rw[Dr];exact decide_eq_false c
  have p1:(0:Int) < (ns.length:Int):=by lia
  have p2:(ns.length:Int) < 1073741824:=by lia
  have m1:=Int.emod_nonneg k (b:=(ns.length:Int)) (by lia)
  have m2:=Int.emod_lt_of_pos k p1
  have i1:(k % (ns.length:Int)).toNat < ns.length:=by lia
  have n2:ns.length < 1073741824:=by lia
  simp[dj,-eqv,q,gO,p1,p2,n0,n2,m1,m2,big,aj,uS,c]
  simp[ah,i1,aj,n0,n2,m1,m2,big,p1,p2]
theorem bF (L:Lw T) (m:Nat) (ns:List Int) (hl:ns.length<=1000) (k many:Int) (hm:0 < many) (h:HH) :
 runN T G (m+2) "_law_drawn" [.p (.lst (ah ns)),.p (.int k),.p (.int many)] h=some (.p (.int (drw ns k many)),h):=by
 rw[run_eq L.drawn rfl]
 have r:=Aj (G:=G) L m ns hl k
 have b0:big 69069=true:=by decide
 have b1:big 104723=true:=by decide
 have b2:∀ x:Int,big (x % 2147483563)=true:=fun x=>jK (by lia) (by lia)
 have b3:∀ x:Int,big (x % 2147483399)=true:=fun x=>jK (by lia) (by lia)
 simp[dI,r,b0,b1,b2,b3,aj,hm,drw]
theorem oY:Pe "abcf"=⟨#[97,98,99,102]⟩:=by decide +kernel
theorem Ak:Pe "abc"=⟨#[97,98,99]⟩:=by decide +kernel
theorem o_a:Pe "a"=⟨#[97]⟩:=by decide +kernel
theorem o_b:Pe "b"=⟨#[98]⟩:=by decide +kernel
theorem o_c:Pe "c"=⟨#[99]⟩:=by decide +kernel
theorem o_f:Pe "f"=⟨#[102]⟩:=by decide +kernel
theorem uT (i:Int) (h0:0<=i) (h1:i < 4):∃ x:Nm,aX (.str "abcf") (.int i)=some (.str x.w):=by
 have:i=0\/i=1\/i=2\/i=3:=by lia
 rcases this with rfl | rfl | rfl | rfl
 ·exact ⟨.a,by rw[Nm.w,oY,o_a];rfl⟩
 ·exact ⟨.b,by rw[Nm.w,oY,o_b];rfl⟩
 ·exact ⟨.c,by rw[Nm.w,oY,o_c];rfl⟩
 ·exact ⟨.f,by rw[Nm.w,oY,o_f];rfl⟩
theorem G3 (i:Int) (h0:0<=i) (h1:i < 3):∃ x:Nm,aX (.str "abc") (.int i)=some (.str x.w):=by
 have:i=0\/i=1\/i=2:=by lia
 rcases this with rfl | rfl | rfl
 ·exact ⟨.a,by rw[Nm.w,Ak,o_a];rfl⟩
 ·exact ⟨.b,by rw[Nm.w,Ak,o_b];rfl⟩
 ·exact ⟨.c,by rw[Nm.w,Ak,o_c];rfl⟩
theorem uU (i:Int) (h0:0<=i) (h1:i < 6):∃ n:Int,Wth n/\aX (.lst [.int 0,.int 1,.int 2,.int 3,.int 10,.int 10006]) (.int i)=some (.int n):=by
 have:i=0\/i=1\/i=2\/i=3\/i=4\/i=5:=by lia
 rcases this with rfl | rfl | rfl | rfl | rfl | rfl
 ·exact ⟨0,⟨by decide,by decide⟩,rfl⟩
 ·exact ⟨1,⟨by decide,by decide⟩,rfl⟩
 ·exact ⟨2,⟨by decide,by decide⟩,rfl⟩
 ·exact ⟨3,⟨by decide,by decide⟩,rfl⟩
 ·exact ⟨10,⟨by decide,by decide⟩,rfl⟩
 ·exact ⟨10006,⟨by decide,by decide⟩,rfl⟩
theorem G4 (i:Int) (h0:0<=i) (h1:i < 4):∃ o:Op,aX (.lst [.str "add",.str "sub",.str "mul",.str "less"]) (.int i)=some (.str o.w):=by
 have:i=0\/i=1\/i=2\/i=3:=by lia
 rcases this with rfl | rfl | rfl | rfl
 ·exact ⟨.add,rfl⟩
 ·exact ⟨.sub,rfl⟩
 ·exact ⟨.mul,rfl⟩
 ·exact ⟨.less,rfl⟩
theorem Al (L:Lw T) (ns:List Int) (hl:ns.length<=1000) (p n:Int) (k:Nat) (rest:Sl) (h:HH) (c:drw ns (p+1) 2=0) (en:aX (.lst [.int 0,.int 1,.int 2,.int 3,.int 10,.int 10006]) (.int (drw ns (p+2) 6))=some (.int n)) :
 evS (runN T G (k+2)) G smL (some (.p (.lst (ah ns))) :: some (.p (.int p)) :: rest) h=some (.rt (.p (Sm.num n).enc) h):=by
 have dr:=fun q many (hm:0 < many)=>bF (G:=G) L k ns hl q many hm
 simp[-bT,-gy,smL,dr,c,en,Sm.enc]
theorem Am (L:Lw T) (ns:List Int) (hl:ns.length<=1000) (p:Int) (x:Nm) (k:Nat) (rest:Sl) (h:HH) (c:¬ drw ns (p+1) 2=0) (ex:aX (.str "abcf") (.int (drw ns (p+2) 4))=some (.str x.w)) :
 evS (runN T G (k+2)) G smL (some (.p (.lst (ah ns))) :: some (.p (.int p)) :: rest) h=some (.rt (.p (Sm.nam x).enc) h):=by
 have dr:=fun q many (hm:0 < many)=>bF (G:=G) L k ns hl q many hm
 simp[-bT,-gy,smL,dr,c,ex,Sm.enc]
theorem uV (L:Lw T) (ns:List Int) (hl:ns.length<=1000):∀ (deep:Nat) (p:Int),∃ s:Sm,s.ok/\s.size+1<=2 ^ (deep+1)/\∀ (m:Nat) (h:HH),
 runN T G (m+deep+3) "_law_sum" [.p (.lst (ah ns)),.p (.int p),.p (.int deep)] h=some (.p s.enc,h):=by
 intro deep
 induction deep with
 | zero =>
  intro p
  have dr:=fun m q many (hm:0 < many)=>bF (G:=G) L m ns hl q many hm
  obtain ⟨x,ex⟩:=uT (drw ns (p+2) 4) (bH _ _ (by decide)) (bI _ _ (by decide))
  obtain ⟨n,hn,en⟩:=uU (drw ns (p+2) 6) (bH _ _ (by decide)) (bI _ _ (by decide))
  have key:∀ (s:Sm) (m:Nat) (h:HH),(∀ rest,evS (runN T G (m+2)) G smL (some (.p (.lst (ah ns))) :: some (.p (.int p)) :: rest) h=some (.rt (.p s.enc) h))->runN T G (m+0+3) "_law_sum" [.p (.lst (ah ns)),.p (.int p),.p (.int ((0:Nat):Int))] h=some (.p s.enc,h):=fun s m h q=>by
   rw[run_eq L.sum rfl]
   simp[cz,dr,q,aj]
  by_cases c:drw ns (p+1) 2=0
  ·exact ⟨.num n,hn,by simp[Sm.size],fun m h=>key _ m h fun rest=>Al L ns hl p n m rest h c en⟩
  ·exact ⟨.nam x,trivial,by simp[Sm.size],fun m h=>key _ m h fun rest=>Am L ns hl p x m rest h c ex⟩
 | succ deep ih =>
  intro p
  have dr:=fun m q many (hm:0 < many)=>bF (G:=G) L m ns hl q many hm
  obtain ⟨x,ex⟩:=uT (drw ns (p+2) 4) (bH _ _ (by decide)) (bI _ _ (by decide))
  obtain ⟨n,hn,en⟩:=uU (drw ns (p+2) 6) (bH _ _ (by decide)) (bI _ _ (by decide))
  obtain ⟨s,so,ss,sr0⟩:=ih (p*2+5)
  obtain ⟨t,to,tt,tr0⟩:=ih (p*2+19)
  have ee:∀ m,m+(deep+1)+2=m+deep+3:=fun m=>by lia
  have sr:=fun m h=>(ee m).symm ▸ sr0 m h
  have tr:=fun m h=>(ee m).symm ▸ tr0 m h
  have d0:¬ ((deep:Int)+1=0):=by lia
  have d1:((deep:Int)+1 - 1)=deep:=by lia
  have b2:big 2=true:=by decide
  have w0:=bH ns p (many:=10) (by decide)
  have w1:=bI ns p (many:=10) (by decide)
  have pw:2 ^ (deep+1+1)=2 ^ (deep+1)+2 ^ (deep+1):=by lia
  by_cases c1:drw ns p 10 < 4
  ·have key:∀ (s:Sm) (m:Nat) (h:HH),(∀ rest,evS (runN T G (m+deep+1+2)) G smL (some (.p (.lst (ah ns))) :: some (.p (.int p)) :: rest) h=some (.rt (.p s.enc) h))->runN T G (m+(deep+1)+3) "_law_sum" [.p (.lst (ah ns)),.p (.int p),.p (.int ((deep+1:Nat):Int))] h=some (.p s.enc,h):=fun s m h q=>by
    rw[run_eq L.sum rfl]
    have dq:=dr (m+(deep+1))
    have q:∀ rest,evS (runN T G (m+(deep+1)+2)) G smL (some (.p (.lst (ah ns))) :: some (.p (.int p)) :: rest) h=some (.rt (.p s.enc) h):=q
    simp[cz,dq,c1,d0,q,aj]
   by_cases c:drw ns (p+1) 2=0
   ·exact ⟨.num n,hn,by simp only[Sm.size];lia,fun m h=>key _ m h fun rest=>Al L ns hl p n (m+deep+1) rest h c en⟩
   ·exact ⟨.nam x,trivial,by simp only[Sm.size];lia,fun m h=>key _ m h fun rest=>Am L ns hl p x (m+deep+1) rest h c ex⟩
  ·by_cases c2:drw ns p 10 < 6
   ·refine ⟨.cell s,so,by simp only[Sm.size];lia,fun m h=>?_⟩
    rw[run_eq L.sum rfl]
    simp[-bT,-gy,cz,smR,dr,c1,c2,d0,d1,b2,sr,aj,Sm.enc]
   ·obtain ⟨o,eo⟩:=G4 (drw ns p 10 - 6) (by lia) (by lia)
    refine ⟨.two o s t,⟨so,to⟩,by simp only[Sm.size];lia,fun m h=>?_⟩
    rw[run_eq L.sum rfl]
    simp[-bT,-gy,cz,smR,dr,c1,c2,d0,d1,b2,sr,tr,eo,aj,Sm.enc]
end
noncomputable def Ez:S:=(.ret (.idx (.lst false (.cons (.tup (.cons (.cst (.str "call")) (.cons (.var 4) .nil))) (.cons (.tup (.cons (.cst (.str "call")) (.cons (.var 4) .nil))) (.cons (.tup (.cons (.cst (.str "back")) .nil)) (.cons (.idx (.lst false (.cons (.tup (.cons (.cst (.str "stop")) .nil)) (.cons (.tup (.cons (.cst (.str "back")) .nil)) .nil))) (.bin .mod (.var 4) (.cst (.int 2)))) .nil))))) (.bin .sub (.var 3) (.cst (.int 12)))))
noncomputable def rA3:S:=(.ret (.idx (.lst false (.cons (.tup (.cons (.cst (.str "jump")) (.cons (.var 4) .nil))) (.cons (.tup (.cons (.cst (.str "unless")) (.cons (.var 6) (.cons (.var 4) .nil)))) (.cons (.tup (.cons (.cst (.str "unless")) (.cons (.tup (.cons (.cst (.str "name")) (.cons (.var 5) .nil))) (.cons (.var 4) .nil)))) .nil)))) (.bin .sub (.var 3) (.cst (.int 9)))))
noncomputable def An:S:=(.seq (.ife (.cmp .lt (.var 3) (.cst (.int 12))) rA3 .nil) Ez)
noncomputable def rA2:S:=(.ret (.idx (.lst false (.cons (.tup (.cons (.cst (.str "ask")) (.cons (.var 5) .nil))) (.cons (.tup (.cons (.cst (.str "say")) (.cons (.var 6) .nil))) .nil))) (.bin .sub (.var 3) (.cst (.int 7)))))
noncomputable def uW:S:=(.seq (.ife (.cmp .lt (.var 3) (.cst (.int 9))) rA2 .nil) An)
noncomputable def rA1:S:=(.ret (.tup (.cons (.cst (.str "put")) (.cons (.call "_law_sum" (.cons (.var 0) (.cons (.bin .add (.var 1) (.cst (.int 9))) (.cons (.cst (.int 1)) .nil)))) (.cons (.var 6) .nil)))))
noncomputable def qH:S:=(.seq (.ife (.cmp .lt (.var 3) (.cst (.int 7))) rA1 .nil) uW)
noncomputable def rA0:S:=(.ret (.tup (.cons (.cst (.str "set")) (.cons (.var 5) (.cons (.var 6) .nil)))))
noncomputable def sP:S:=(.seq (.ife (.cmp .lt (.var 3) (.cst (.int 5))) rA0 .nil) qH)
theorem mO:f9=⟨["_law_script","_law_at","_law_size"],["_law_script","_law_at","_law_size","_law_way","_law_place","_law_name","_law_one"],
 (.seq (.set 3 (.call "_law_drawn" (.cons (.var 0) (.cons (.var 1) (.cons (.cst (.int 16)) .nil)))))
 (.seq (.set 4 (.call "_law_drawn" (.cons (.var 0) (.cons (.bin .add (.var 1) (.cst (.int 1))) (.cons (.bin .add (.var 2) (.cst (.int 1))) .nil)))))
 (.seq (.set 5 (.idx (.cst (.str "abc")) (.call "_law_drawn" (.cons (.var 0) (.cons (.bin .add (.var 1) (.cst (.int 2))) (.cons (.cst (.int 3)) .nil))))))
 (.seq (.set 6 (.call "_law_sum" (.cons (.var 0) (.cons (.bin .add (.var 1) (.cst (.int 3))) (.cons (.cst (.int 2)) .nil)))))
 sP))))⟩:=rfl
section
theorem Ds (L:Lw T) (ns:List Int) (hl:ns.length<=1000) (p:Int) (size:Nat):∃ r:Rw,r.ok size/\∀ (m:Nat) (h:HH),
 runN T G (m+6) "_law_row" [.p (.lst (ah ns)),.p (.int p),.p (.int size)] h=some (.p r.enc,h):=by
 have dr:=fun m q many (hm:0 < many)=>bF (G:=G) L m ns hl q many hm
 obtain ⟨x,ex⟩:=G3 (drw ns (p+2) 3) (bH _ _ (by decide)) (bI _ _ (by decide))
 obtain ⟨s,so,ss,sr⟩:=uV (G:=G) L ns hl 2 (p+3)
 obtain ⟨t,to,tt,tr⟩:=uV (G:=G) L ns hl 1 (p+9)
 have w0:=bH ns p (many:=16) (by decide)
 have w1:=bI ns p (many:=16) (by decide)
 have sz:(0:Int) < (size:Int)+1:=by lia
 have p0:=bH ns (p+1) sz
 have p1:=bI ns (p+1) sz
 obtain ⟨pl,hpl⟩:∃ pl:Nat,drw ns (p+1) ((size:Int)+1)=(pl:Int):=⟨(drw ns (p+1) ((size:Int)+1)).toNat,by lia⟩
 have ple:pl<=size:=by lia
 have sok:oV s:=⟨so,by lia⟩
 have tok:oV t:=⟨to,by lia⟩
 have sr':=fun m h=>sr (m+0) h
 have tr':=fun m h=>tr (m+1) h
 simp at sr' tr'
 have dp:=fun m h=>dr m (p+1) ((size:Int)+1) sz h
 rw[hpl] at dp
 have pre:∀ (m:Nat) (h:HH),runN T G (m+6) "_law_row" [.p (.lst (ah ns)),.p (.int p),.p (.int size)] h =
  iy (evS (runN T G (m+5)) G sP [some (.p (.lst (ah ns))),some (.p (.int p)),some (.p (.int size)),some (.p (.int (drw ns p 16))),some (.p (.int (pl:Int))),some (.p (.str x.w)),some (.p s.enc)] h) (fin h):=fun m h=>by
  rw[run_eq L.row rfl,mO]
  simp[-gy,dp,dr,ex,sr']
 by_cases c1:drw ns p 16 < 5
 ·refine ⟨.set x s,sok,fun m h=>?_⟩
  rw[pre]
  simp[-bT,-gy,sP,rA0,c1,aj,Rw.enc]
 ·by_cases c2:drw ns p 16 < 7
  ·refine ⟨.put t s,⟨tok,sok⟩,fun m h=>?_⟩
   rw[pre]
   simp[-bT,-gy,sP,qH,rA1,tr',c1,c2,aj,Rw.enc]
  ·by_cases c3:drw ns p 16 < 9
   ·obtain ⟨r,ro,ix⟩:∃ r:Rw,r.ok size/\aX (.lst [.tup [.str "ask",.str x.w],.tup [.str "say",s.enc]]) (.int (drw ns p 16 - 7))=some r.enc:=by
     have c:drw ns p 16=7\/drw ns p 16=8:=by lia
     rcases c with c | c<;>rw[c]
     ·exact ⟨.ask x,trivial,rfl⟩
     ·exact ⟨.say s,sok,rfl⟩
    refine ⟨r,ro,fun m h=>?_⟩
    rw[pre]
    simp[-bT,sP,qH,uW,rA2,c1,c2,c3,ix,aj]
   ·by_cases c4:drw ns p 16 < 12
    ·obtain ⟨r,ro,ix⟩:∃ r:Rw,r.ok size/\aX (.lst [.tup [.str "jump",.int pl],.tup [.str "unless",s.enc,.int pl],.tup [.str "unless",.tup [.str "name",.str x.w],.int pl]]) (.int (drw ns p 16 - 9))=some r.enc:=by
      have c:drw ns p 16=9\/drw ns p 16=10\/drw ns p 16=11:=by lia
      rcases c with c | c | c<;>rw[c]
      ·exact ⟨.jump pl,ple,rfl⟩
      ·exact ⟨.unless s pl,⟨sok,ple⟩,rfl⟩
      ·exact ⟨.unless (.nam x) pl,⟨⟨trivial,by simp[Sm.size]⟩,ple⟩,rfl⟩
     refine ⟨r,ro,fun m h=>?_⟩
     rw[pre]
     simp[-bT,sP,qH,uW,An,rA3,c1,c2,c3,c4,ix,aj]
    ·obtain ⟨u,uo,iu⟩:∃ u:Rw,u.ok size/\aX (.lst [.tup [.str "stop"],.tup [.str "back"]]) (.int ((pl:Int) % 2))=some u.enc:=by
      have z:(pl:Int) % 2=0\/(pl:Int) % 2=1:=by lia
      rcases z with z | z<;>rw[z]
      ·exact ⟨.stop,trivial,rfl⟩
      ·exact ⟨.back,trivial,rfl⟩
     obtain ⟨r,ro,ix⟩:∃ r:Rw,r.ok size/\aX (.lst [.tup [.str "call",.int pl],.tup [.str "call",.int pl],.tup [.str "back"],u.enc]) (.int (drw ns p 16 - 12))=some r.enc:=by
      have c:drw ns p 16=12\/drw ns p 16=13\/drw ns p 16=14\/drw ns p 16=15:=by lia
      rcases c with c | c | c | c<;>rw[c]
      ·exact ⟨.call pl,ple,rfl⟩
      ·exact ⟨.call pl,ple,rfl⟩
      ·exact ⟨.back,trivial,rfl⟩
      ·exact ⟨u,uo,rfl⟩
     refine ⟨r,ro,fun m h=>?_⟩
     rw[pre]
     simp[-bT,sP,qH,uW,An,Ez,c1,c2,c3,c4,iu,ix,aj]
theorem comp_map (f:List D->HH->Option (Option D×HH)) (g:D->D):∀ (ds:List D) (h:HH),(∀ d∈ds,∀ h,f [d] h=some (some (g d),h))->aV f 1 ds h=some (ds.map g,h):=by
 intro ds
 induction ds with
 | nil=>intro h _;rfl
 | cons d r ih =>
  intro h hf
  have e1:=hf d Pq h
  have e2:=ih h fun x hx=>hf x (Pc _ hx)
  rw[aV,gA]
  simp[e1,e2]
theorem lQ (h:d∈upto 0 n):∃ k:Nat,k < n/\d=.int k:=by
 simp[upto] at h
 obtain ⟨k,hk,e⟩:=h
 exact ⟨k,hk,e.symm⟩
theorem lR (n:Nat) (g:D->D):(upto 0 n).map g=(PF n).map fun (k:Nat)=>g (.int k):=by
 simp[upto,Function.comp_def]
noncomputable def Dt:E:=.idx (.lst false (.cons (.cst (.int 0)) (.cons (.cst (.int 1)) (.cons (.cst (.int 5)) (.cons (.cst (.int 10006)) .nil))))) (.call "_law_drawn" (.cons (.var 1) (.cons (.bin .add (.bin .add (.var 2) (.cst (.int 1))) (.var 0)) (.cons (.cst (.int 4)) .nil))))
theorem kj:dJ=⟨["_law_script","_law_at"],["_law_script","_law_at"],.ret (.comp false .rng1 (.cons (.call "_law_drawn" (.cons (.var 0) (.cons (.var 1) (.cons (.cst (.int 4)) .nil)))) .nil) ["_law_k"] [(0,"_law_script"),(1,"_law_at")] .nil Dt)⟩:=rfl
theorem wR (L:Lw T) (ns:List Int) (hl:ns.length<=1000) (p:Int):∃ asked:List Int,Ask asked/\asked.length<=3/\∀ (m:Nat) (h:HH),
 runN T G (m+3) "_law_asked" [.p (.lst (ah ns)),.p (.int p)] h=some (.p (.lst (ah asked)),h):=by
 have dr:=fun m q many (hm:0 < many)=>bF (G:=G) L m ns hl q many hm
 have at4:∀ i:Int,0<=i->i < 4->∃ n:Int,Wth n/\aX (.lst [.int 0,.int 1,.int 5,.int 10006]) (.int i)=some (.int n):=by
  intro i h0 h1
  have:i=0\/i=1\/i=2\/i=3:=by lia
  rcases this with rfl | rfl | rfl | rfl
  ·exact ⟨0,⟨by decide,by decide⟩,rfl⟩
  ·exact ⟨1,⟨by decide,by decide⟩,rfl⟩
  ·exact ⟨5,⟨by decide,by decide⟩,rfl⟩
  ·exact ⟨10006,⟨by decide,by decide⟩,rfl⟩
 have ch:∀ k:Nat,∃ n:Int,Wth n/\aX (.lst [.int 0,.int 1,.int 5,.int 10006]) (.int (drw ns (p+1+k) 4))=some (.int n):=fun k =>
  at4 _ (bH _ _ (by decide)) (bI _ _ (by decide))
 obtain ⟨g,hg⟩:=Uj ch
 have w0:=bH ns p (many:=4) (by decide)
 have w1:=bI ns p (many:=4) (by decide)
 refine ⟨(PF (drw ns p 4).toNat).map g,?_,by simp;lia,fun m h=>?_⟩
 ·intro x hx
  simp at hx
  obtain ⟨k,_,rfl⟩:=hx
  exact (hg k).1
 ·rw[run_eq L.asked rfl,kj]
  have c1:drw ns p 4<=100000:=by lia
  have c0:-100000<=drw ns p 4:=by lia
  have he:∀ (k:Nat) (h:HH),ev (runN T G (m+2)) G Dt [some (.p (.int k)),some (.p (.lst (ah ns))),some (.p (.int p))] h=some (.p (.int (g k)),h):=fun k h=>by
   have e:=(hg k).2
   simp[-bT,Dt,dr,e]
  have cm:=comp_map (dF (fun _ h=>some ([],h)) (ev (runN T G (m+2)) G Dt) [some (.p (.lst (ah ns))),some (.p (.int p))]) (fun d=>match d with | .int k=>.int (g k.toNat) | _=>.non) (upto 0 (drw ns p 4).toNat) h (by
   intro d hd h
   obtain ⟨k,hk,rfl⟩:=lQ hd
   simp[dz,he])
  have ln:(drw ns p 4).toNat<=100000:=by lia
  rw[lR] at cm
  have cm':(PF (drw ns p 4).toNat).map (fun (k:Nat)=>match D.int (k:Int) with | .int k=>D.int (g k.toNat) | _=>.non)=ah ((PF (drw ns p 4).toNat).map g):=by simp[ah,Function.comp_def]
  rw[cm'] at cm
  simp[dr,c0,c1,cm,gO,ln,aj,c7]
noncomputable def Ao:E:=.call "_law_row" (.cons (.var 1) (.cons (.bin .add (.bin .add (.var 2) (.cst (.int 10))) (.bin .mul (.cst (.int 40)) (.var 0))) (.cons (.var 3) .nil)))
structure Drawn (p:Pg):Prop where
 ok:Pg.ok p
 lo:1<=p.length
 hi:p.length<=9
noncomputable def gc (n:Int) (o:Op):Pg:=[.ask .a,.call 4,.say (.nam .a),.jump 0,.put (.nam .a) (.num n),.call 7,.back,.set .b (.two o (.nam .b) (.nam .a)),.back]
theorem oZ (n:Int) (o:Op) (h:Wth n):Drawn (gc n o):=by
 refine ⟨?_,by simp[gc],by simp[gc]⟩
 intro r hr
 simp only[gc,QB,Qf,or_false] at hr
 rcases hr with rfl | rfl | rfl | rfl | rfl | rfl | rfl | rfl | rfl<;>simp[Rw.ok,gc,oV,Sm.ok,Sm.size,h]
theorem gP (L:Lw T)
 (ns:List Int) (hl:ns.length<=1000) (p:Int)
 (run1:∀ (m:Nat) (h:HH) (n:Int) (o:Op),drw ns (p+1) 4=0->n=drw ns (p+2) 9->aX (.lst [.str "add",.str "sub"]) (.int (drw ns (p+3) 2))=some (.str o.w) →
  (∀ m q many,0 < many->∀ h,runN T G (m+2) "_law_drawn" [.p (.lst (ah ns)),.p (.int q),.p (.int many)] h=some (.p (.int (drw ns q many)),h)) →
  runN T G (m+7) "_law_program" [.p (.lst (ah ns)),.p (.int p)] h=some (.p (bD (gc n o)),h))
 (run2:∀ (m:Nat) (h:HH) (pg:Pg),drw ns (p+1) 4≠0->pg.length=(1+drw ns p 9).toNat →
  (∀ m q many,0 < many->∀ h,runN T G (m+2) "_law_drawn" [.p (.lst (ah ns)),.p (.int q),.p (.int many)] h=some (.p (.int (drw ns q many)),h)) →
  (∀ h,aV (dF (fun _ h=>some ([],h)) (ev (runN T G (m+6)) G Ao) [some (.p (.lst (ah ns))),some (.p (.int p)),some (.p (.int (1+drw ns p 9)))]) 1 (upto 0 (1+drw ns p 9).toNat) h=some (pg.map Rw.enc,h)) →
  runN T G (m+7) "_law_program" [.p (.lst (ah ns)),.p (.int p)] h=some (.p (bD pg),h)) :
 ∃ pg:Pg,Drawn pg/\∀ (m:Nat) (h:HH),runN T G (m+7) "_law_program" [.p (.lst (ah ns)),.p (.int p)] h=some (.p (bD pg),h):=by
 have dr:=fun m q many (hm:0 < many)=>bF (G:=G) L m ns hl q many hm
 by_cases c:drw ns (p+1) 4=0
 ·have d0:=bH ns (p+3) (many:=2) (by decide)
  have d1:=bI ns (p+3) (many:=2) (by decide)
  have e0:=bH ns (p+2) (many:=9) (by decide)
  have e1:=bI ns (p+2) (many:=9) (by decide)
  have z:drw ns (p+3) 2=0\/drw ns (p+3) 2=1:=by lia
  have:∃ o:Op,aX (.lst [.str "add",.str "sub"]) (.int (drw ns (p+3) 2))=some (.str o.w):=by
   rcases z with z | z<;>rw[z]
   ·exact ⟨.add,rfl⟩
   ·exact ⟨.sub,rfl⟩
  obtain ⟨o,eo⟩:=this
  exact ⟨gc (drw ns (p+2) 9) o,oZ _ _ ⟨by lia,by lia⟩,fun m h=>run1 m h _ o c rfl eo dr⟩
 ·have d0:=bH ns p (many:=9) (by decide)
  have d1:=bI ns p (many:=9) (by decide)
  obtain ⟨sz,hsz⟩:∃ sz:Nat,1+drw ns p 9=(sz:Int):=⟨(1+drw ns p 9).toNat,by lia⟩
  have ch:∀ k:Nat,∃ r:Rw,r.ok sz/\∀ (m:Nat) (h:HH),runN T G (m+6) "_law_row" [.p (.lst (ah ns)),.p (.int (p+10+40*(k:Int))),.p (.int sz)] h=some (.p r.enc,h) :=
   fun k=>Ds L ns hl _ sz
  obtain ⟨g,hg⟩:=Uj ch
  refine ⟨(PF sz).map g,⟨?_,by simp;lia,by simp;lia⟩,fun m h=>run2 m h _ c (by simp;lia) dr fun h=>?_⟩
  ·intro r hr
   simp at hr
   obtain ⟨k,_,rfl⟩:=hr
   simpa using (hg k).1
  ·rw[hsz]
   have b:big 40=true:=by decide
   have he:∀ (k:Nat) (h:HH),ev (runN T G (m+6)) G Ao [some (.p (.int k)),some (.p (.lst (ah ns))),some (.p (.int p)),some (.p (.int sz))] h=some (.p (g k).enc,h):=fun k h=>by
    have e:=(hg k).2
    simp[Ao,e,b]
   have cm:=comp_map (dF (fun _ h=>some ([],h)) (ev (runN T G (m+6)) G Ao) [some (.p (.lst (ah ns))),some (.p (.int p)),some (.p (.int sz))]) (fun d=>match d with | .int k=>(g k.toNat).enc | _=>.non) (upto 0 sz) h (by
    intro d hd h
    obtain ⟨k,hk,rfl⟩:=lQ hd
    simp[dz,he])
   rw[lR] at cm
   simp only[Int.toNat_natCast,Qs]
   rw[cm]
   rfl
end
section
noncomputable def prA:S:=(.seq (.set 3 (.tup (.cons (.cst (.str "put")) (.cons (.tup (.cons (.cst (.str "name")) (.cons (.cst (.str "a")) .nil))) (.cons (.tup (.cons (.cst (.str "num")) (.cons (.call "_law_drawn" (.cons (.var 0) (.cons (.bin .add (.var 1) (.cst (.int 2))) (.cons (.cst (.int 9)) .nil)))) .nil))) .nil)))))
 (.seq (.set 4 (.idx (.lst false (.cons (.cst (.str "add")) (.cons (.cst (.str "sub")) .nil))) (.call "_law_drawn" (.cons (.var 0) (.cons (.bin .add (.var 1) (.cst (.int 3))) (.cons (.cst (.int 2)) .nil))))))
 (.seq (.set 5 (.tup (.cons (.tup (.cons (.cst (.str "ask")) (.cons (.cst (.str "a")) .nil))) (.cons (.tup (.cons (.cst (.str "call")) (.cons (.cst (.int 4)) .nil))) (.cons (.tup (.cons (.cst (.str "say")) (.cons (.tup (.cons (.cst (.str "name")) (.cons (.cst (.str "a")) .nil))) .nil))) (.cons (.tup (.cons (.cst (.str "jump")) (.cons (.cst (.int 0)) .nil))) (.cons (.var 3) .nil)))))))
 (.ret (.bin .add (.var 5) (.tup (.cons (.tup (.cons (.cst (.str "call")) (.cons (.cst (.int 7)) .nil))) (.cons (.tup (.cons (.cst (.str "back")) .nil)) (.cons (.tup (.cons (.cst (.str "set")) (.cons (.cst (.str "b")) (.cons (.tup (.cons (.var 4) (.cons (.tup (.cons (.cst (.str "name")) (.cons (.cst (.str "b")) .nil))) (.cons (.tup (.cons (.cst (.str "name")) (.cons (.cst (.str "a")) .nil))) .nil)))) .nil)))) (.cons (.tup (.cons (.cst (.str "back")) .nil)) .nil))))))))))
noncomputable def prB:S:=(.ret (.bi .tuple false (.cons (.comp false .rng1 (.cons (.var 2) .nil) ["_law_k"] [(0,"_law_script"),(1,"_law_at"),(2,"_law_size")] .nil Ao) .nil)))
theorem eX:bN=⟨["_law_script","_law_at"],["_law_script","_law_at","_law_size","_law_put","_law_sign","_law_rows"],
 (.seq (.set 2 (.bin .add (.cst (.int 1)) (.call "_law_drawn" (.cons (.var 0) (.cons (.var 1) (.cons (.cst (.int 9)) .nil))))))
 (.seq (.ife (.cmp .eq (.call "_law_drawn" (.cons (.var 0) (.cons (.bin .add (.var 1) (.cst (.int 1))) (.cons (.cst (.int 4)) .nil)))) (.cst (.int 0))) prA .nil)
 prB))⟩:=rfl
theorem qI (L:Lw T) (hP:T "_law_program"=some bN) (ns:List Int) (hl:ns.length<=1000) (p:Int) :
 ∃ pg:Pg,Drawn pg/\∀ (m:Nat) (h:HH),runN T G (m+7) "_law_program" [.p (.lst (ah ns)),.p (.int p)] h=some (.p (bD pg),h):=by
 refine gP L ns hl p (fun m h n o c en eo dr=>?_) (fun m h pg c el dr cm=>?_)
 ·rw[run_eq hP rfl]
  have d:=fun q many hm h=>dr (m+4) q many hm h
  rw[eX]
  simp[-bT,prA,d,c,eo,aj,bD,gc,Rw.enc,Sm.enc,← en,Nm.w]
 ·rw[run_eq hP rfl]
  have d:=fun q many hm h=>dr (m+4) q many hm h
  have d0:=bH ns p (many:=9) (by decide)
  have d1:=bI ns p (many:=9) (by decide)
  have c0:-100000<=1+drw ns p 9:=by lia
  have c1:1+drw ns p 9<=100000:=by lia
  have c2:pg.length<=100000:=by lia
  have cm':=cm h
  rw[eX]
  simp[-dF,prB,d,c,c0,c1,c2,cm',aj,bD,c7]
mutual
theorem jn:∀ d:D,eqv d d=true
 | .non=>rfl
 | .bl b=>by simp
 | .int i=>by simp
 | .str x=>by simp
 | .tup xs=>by simp[iw xs]
 | .lst xs=>by simp[iw xs]
theorem iw:∀ ds:List D,mq ds ds=true
 | []=>rfl
 | d :: r=>by simp[jn d,iw r]
end
theorem lS (n:Nat) (xs:List Int):(ah xs).all (dok n)=true:=by simp[ah,Qz]
theorem qJ (n:Nat) (xs:List Nat):(aZ xs).all (dok n)=true:=by simp[aZ,Qz]
theorem ne_self (h:dok 100 x=true):d8 .ne x x=some false:=by rw[nX,if_pos (iI h),jn];rfl
@[simp] theorem G5 (ds:List D):mq ds ds=true:=iw ds
@[simp] theorem Iq (d:D):eqv d d=true:=jn d
@[simp] theorem Ir (x:D) (xs:List Int):aU x (.tup (ah xs))=true:=iI (lS 99 xs)
@[simp] theorem Iu (x:D) (xs:List Nat):aU x (.tup (aZ xs))=true:=iI (qJ 99 xs)
@[simp] theorem KN (x:D) (xs ys:List Int):aU x (.tup [.tup (ah xs),.tup (ah ys)])=true:=iI (by simp[lS])
end
section
variable {T:FK->Option Fn}{G:Str->Option W}
noncomputable def KO:S:=(.seq (.set 3 (.tup (.cons (.cst (.str "put")) (.cons (.tup (.cons (.cst (.str "name")) (.cons (.cst (.str "a")) .nil))) (.cons (.tup (.cons (.cst (.str "num")) (.cons (.call "_law_drawn" (.cons (.var 0) (.cons (.bin .add (.var 1) (.cst (.int 2))) (.cons (.cst (.int 9)) .nil)))) .nil))) .nil)))))
 (.seq (.set 4 (.idx (.lst false (.cons (.cst (.str "add")) (.cons (.cst (.str "sub")) .nil))) (.call "_law_drawn" (.cons (.var 0) (.cons (.bin .add (.var 1) (.cst (.int 3))) (.cons (.cst (.int 2)) .nil))))))
 (.seq (.set 5 (.tup (.cons (.tup (.cons (.cst (.str "ask")) (.cons (.cst (.str "a")) .nil))) (.cons (.tup (.cons (.cst (.str "call")) (.cons (.cst (.int 4)) .nil))) (.cons (.tup (.cons (.cst (.str "say")) (.cons (.tup (.cons (.cst (.str "name")) (.cons (.cst (.str "a")) .nil))) .nil))) (.cons (.tup (.cons (.cst (.str "jump")) (.cons (.cst (.int 0)) .nil))) (.cons (.var 3) .nil)))))))
 (.ret (.bin .add (.var 5) (.tup (.cons (.tup (.cons (.cst (.str "call")) (.cons (.cst (.int 7)) .nil))) (.cons (.tup (.cons (.cst (.str "back")) .nil)) (.cons (.tup (.cons (.cst (.str "set")) (.cons (.cst (.str "b")) (.cons (.tup (.cons (.var 4) (.cons (.tup (.cons (.cst (.str "name")) (.cons (.cst (.str "b")) .nil))) (.cons (.tup (.cons (.cst (.str "name")) (.cons (.cst (.str "a")) .nil))) .nil)))) .nil)))) (.cons (.tup (.cons (.cst (.str "back")) .nil)) .nil))))))))))
noncomputable def dD:Fn:=⟨["_law_script","_law_at"],["_law_script","_law_at","_law_size","_law_put_here","_law_sign","_law_rows"],
 (.seq (.set 2 (.bin .add (.cst (.int 1)) (.call "_law_drawn" (.cons (.var 0) (.cons (.var 1) (.cons (.cst (.int 9)) .nil))))))
 (.seq (.ife (.cmp .eq (.call "_law_drawn" (.cons (.var 0) (.cons (.bin .add (.var 1) (.cst (.int 1))) (.cons (.cst (.int 4)) .nil)))) (.cst (.int 0))) KO .nil)
 prB))⟩
theorem Du (L:Lw T) (hP:T "_law_program"=some dD) (ns:List Int) (hl:ns.length<=1000) (p:Int) :
 ∃ pg:Pg,Drawn pg/\∀ (m:Nat) (h:HH),runN T G (m+7) "_law_program" [.p (.lst (ah ns)),.p (.int p)] h=some (.p (bD pg),h):=by
 refine gP L ns hl p (fun m h n o c en eo dr=>?_) (fun m h pg c el dr cm=>?_)
 ·rw[run_eq hP rfl]
  have d:=fun q many hm h=>dr (m+4) q many hm h
  rw[dD]
  simp[-bT,KO,d,c,eo,aj,bD,gc,Rw.enc,Sm.enc,← en,Nm.w]
 ·rw[run_eq hP rfl]
  have d:=fun q many hm h=>dr (m+4) q many hm h
  have d0:=bH ns p (many:=9) (by decide)
  have d1:=bI ns p (many:=9) (by decide)
  have c0:-100000<=1+drw ns p 9:=by lia
  have c1:1+drw ns p 9<=100000:=by lia
  have c2:pg.length<=100000:=by lia
  have cm':=cm h
  rw[dD]
  simp[-dF,prB,d,c,c0,c1,c2,cm',aj,bD,c7]
end
section
variable {T:FK->Option Fn}{G:Str->Option W}
@[simp] theorem NO (st:St):rP st.enc (some 1) (some 3)=some (.tup [.tup (ah st.names),.tup (ah st.cells)]):=rfl
end
theorem Aq (n:Nat) (st:St):dok (n+2) st.enc=true:=by
 simp[St.enc,tX,lS,qJ]
theorem Dv (L:List St):dok 100 (.lst (L.map St.enc))=true:=by
 rw[tY,Qz]
 intro d hd
 simp at hd
 obtain ⟨st,_,rfl⟩:=hd
 exact Aq 97 st
@[simp] theorem Mr (x:D) (st:St):aU x st.enc=true:=iI (Aq 98 st)
@[simp] theorem KP (x:D) (L:List St):aU x (.lst (L.map St.enc))=true:=iI (Dv L)
noncomputable def itr (p:Pg) (asked:List Int):Nat->St
 | 0=>St.zero
 | n+1=>step p asked (itr p asked n)
structure Run (p:Pg) (asked:List Int) (most e:Nat):Prop where
 le:e<=most
 on:∀ i,i < e->over p (itr p asked i)=false
 last:e=most\/over p (itr p asked e)=true
theorem Ar (p:Pg) (asked:List Int):∀ (r j:Nat),∃ e,e<=r/\sts p asked r (itr p asked j)=(PF (e+1)).map (fun i=>itr p asked (j+i))/\(∀ i,i < e->over p (itr p asked (j+i))=false)/\(e=r\/over p (itr p asked (j+e))=true)
 | 0,j=>⟨0,O8 _,rfl,fun i hi=>absurd hi (Nat.not_lt_zero _),.inl rfl⟩
 | r+1,j=>by
  rw[sts]
  by_cases c:over p (itr p asked j)=true
  ·rw[if_pos c]
   exact ⟨0,QU _,rfl,fun i hi=>absurd hi (Nat.not_lt_zero _),.inr c⟩
  ·rw[if_neg c]
   obtain ⟨e,h1,h2,h3,h4⟩:=Ar p asked r (j+1)
   have c':over p (itr p asked j)=false:=by simpa using c
   refine ⟨e+1,by lia,?_,fun i hi=>?_,?_⟩
   ·show itr p asked j :: sts p asked r (itr p asked (j+1))=_
    rw[h2,Ro (n:=e+1),Pn,Qs]
    congr 1
    apply QO
    intro i _
    show itr p asked (j+1+i)=itr p asked (j+(i+1))
    congr 1;lia
   ·cases i with
    | zero=>exact c'
    | succ i =>
     have:=h3 i (by lia)
     rw[show j+(i+1)=j+1+i by lia];exact this
   ·rcases h4 with h4 | h4
    ·exact .inl (by lia)
    ·exact .inr (by rw[show j+(e+1)=j+1+e by lia];exact h4)
theorem Dw (p:Pg) (asked:List Int) (most:Nat):∃ e,Run p asked most e/\sts p asked most St.zero=(PF (e+1)).map (itr p asked):=by
 obtain ⟨e,h1,h2,h3,h4⟩:=Ar p asked most 0
 refine ⟨e,⟨h1,fun i hi=>by have:=h3 i hi;simpa using this,by simpa using h4⟩,?_⟩
 have:sts p asked most St.zero=sts p asked most (itr p asked 0):=rfl
 rw[this,h2]
 apply QO
 intro i _
 simp
theorem sR (hp:Pg.ok p) (ha:Ask asked) (R:Run p asked most e):∀ i,i<=e->At i (itr p asked i)
 | 0,_=>uQ
 | i+1,h=>uR hp ha (sR hp ha R i (by lia)) (R.on i (by lia))
structure Tp where
 p:Pg
 asked:List Int
 gap:Nat
 most:Nat
 kept:List St
 far:Nat
 front:St
 now:Nat
noncomputable def Tp.fs (t:Tp) (r:Nat):List (Str×W):=[("program",.p (bD t.p)),("asked",.p (.lst (ah t.asked))),("gap",.p (.int t.gap)),("most",.p (.int t.most)),("kept",.r r),("farthest",.p (.int t.far)),("front",.p t.front.enc),("now",.p (.int t.now))]
section
variable (t:Tp) (r:Nat)
@[simp] theorem G6:aN "program" (t.fs r)=some (.p (bD t.p)):=by simp[Tp.fs]
@[simp] theorem KQ:aN "asked" (t.fs r)=some (.p (.lst (ah t.asked))):=by simp[Tp.fs]
@[simp] theorem NP:aN "gap" (t.fs r)=some (.p (.int t.gap)):=by simp[Tp.fs]
@[simp] theorem Ms:aN "most" (t.fs r)=some (.p (.int t.most)):=by simp[Tp.fs]
@[simp] theorem Dy:aN "kept" (t.fs r)=some (.r r):=by simp[Tp.fs]
@[simp] theorem NQ:aN "farthest" (t.fs r)=some (.p (.int t.far)):=by simp[Tp.fs]
@[simp] theorem KR:aN "front" (t.fs r)=some (.p t.front.enc):=by simp[Tp.fs]
@[simp] theorem NR:aN "now" (t.fs r)=some (.p (.int t.now)):=by simp[Tp.fs]
@[simp] theorem NS:(t.fs r).length=8:=rfl
theorem Dz (v:Nat):aY "gap" (.p (.int v)) (t.fs r)=({ t with gap:=v }:Tp).fs r:=by simp[Tp.fs]
theorem As (r':Nat):aY "kept" (.r r') (t.fs r)=t.fs r':=by simp[Tp.fs]
theorem DA (v:Nat):aY "farthest" (.p (.int v)) (t.fs r)=({ t with far:=v }:Tp).fs r:=by simp[Tp.fs]
theorem wU (v:St):aY "front" (.p v.enc) (t.fs r)=({ t with front:=v }:Tp).fs r:=by simp[Tp.fs]
theorem uX (v:Nat):aY "now" (.p (.int v)) (t.fs r)=({ t with now:=v }:Tp).fs r:=by simp[Tp.fs]
theorem bP (h:(["program","asked","gap","most","kept","farthest","front","now"]:List String).contains m=false):aN m (t.fs r)=none:=by
 simp only[VC,List.contains_nil,UJ,Bool.or_eq_false_iff,beq_eq_false_iff_ne,ne_eq] at h
 obtain ⟨h1,h2,h3,h4,h5,h6,h7,h8⟩:=h
 simp[Tp.fs,h1,h2,h3,h4,h5,h6,h7,h8]
end
structure TAt (h:HH) (n r:Nat) (t:Tp):Prop where
 ob:oat h n=some (Pe "Tape",t.fs r)
 li:lat h r=some (t.kept.map St.enc)
theorem lT (e:oat h n=some q):n < h.length:=by
 unfold oat at e
 rcases Pz n h.length with z | z
 ·exact z
 ·rw[Pa z] at e;cases e
theorem sU (e:lat h n=some q):n < h.length:=by
 unfold lat at e
 rcases Pz n h.length with z | z
 ·exact z
 ·rw[Pa z] at e;cases e
theorem EA (e:oat h n=some q) (e':lat h r=some xs):n≠r:=by
 rintro rfl
 unfold oat at e
 unfold lat at e'
 cases g:h[n]? with
 | none=>rw[g] at e;cases e
 | some c=>rw[g] at e e';cases c<;>simp at e e'
theorem jo {h:HH}{n:Nat} (hn:n < h.length) (c:Cl):oat (h.set n c) n=pX c:=by
 unfold oat;rw[P7 hn];rfl
theorem sV (hn:i≠n) (c:Cl):oat (h.set n c) i=oat h i:=by
 unfold oat;rw[PX (Qp hn)]
theorem Au {h:HH}{n:Nat} (hn:n < h.length) (c:Cl):lat (h.set n c) n=nQ c:=by
 unfold lat;rw[P7 hn];rfl
theorem lU (hn:i≠n) (c:Cl):lat (h.set n c) i=lat h i:=by
 unfold lat;rw[PX (Qp hn)]
theorem G7 (e:h'[i]?=h[i]?):lat h' i=lat h i:=by unfold lat;rw[e]
theorem Av (e:h'[i]?=h[i]?):oat h' i=oat h i:=by unfold oat;rw[e]
theorem DB (hi:i < h.length):lat (h++g) i=lat h i:=G7 (O6 hi)
theorem uY (hi:i < h.length):oat (h++g) i=oat h i:=Av (O6 hi)
structure Go (n:Nat) (h:HH) (r:Nat) (t:Tp) (h':HH) (r':Nat) (t':Tp):Prop where
 a:TAt h n r t
 b:TAt h' n r' t'
 len:(h'.length=h.length/\r'=r)\/(h.length<=r')
 le:h.length<=h'.length
 fr:∀ i,i≠n->i≠r->i < h.length->h'[i]?=h[i]?
theorem Go.refl (a:TAt h n r t):Go n h r t h r t:=⟨a,a,.inl ⟨rfl,rfl⟩,O8 _,fun _ _ _ _=>rfl⟩
theorem Go.trans (x:Go n h r t h1 r1 t1) (y:Go n h1 r1 t1 h2 r2 t2):Go n h r t h2 r2 t2:=by
 refine ⟨x.a,y.b,?_,PD x.le y.le,fun i h1 h2 h3=>?_⟩
 ·rcases x.len with ⟨a1,a2⟩ | a1
  ·rcases y.len with ⟨b1,b2⟩ | b1
   ·exact .inl ⟨b1.trans a1,b2.trans a2⟩
   ·exact .inr (by lia)
  ·rcases y.len with ⟨b1,b2⟩ | b1
   ·exact .inr (by lia)
   ·exact .inr (by have:=x.le;lia)
 ·have:i≠r1:=by
   rcases x.len with ⟨a1,a2⟩ | a1
   ·rw[a2];exact h2
   ·lia
  rw[y.fr i h1 this (by have:=x.le;lia)]
  exact x.fr i h1 h2 h3
theorem cB (x:Go n h r t h' r' t') (w:W):fin h w h'=some (w,h'):=by
 unfold fin
 by_cases c:h'.length=h.length
 ·rw[if_pos c]
 ·rw[if_neg c]
  rw[if_neg]
  intro z
  rcases x.len with ⟨a1,a2⟩ | a1
  ·exact c a1
  ·have hn:=lT x.a.ob
   have e:h'[n]?=h[n]?:=by
    have q:=Rg (l:=h') hn
    rw[z] at q
    exact q.symm
   have e2:oat h' n=oat h n:=Av e
   rw[x.a.ob,x.b.ob] at e2
   have e3:=congrArg (fun q:Option (Str×List (Str×W))=>q.bind fun y=>aN "kept" y.2) e2
   simp only[Ru,Dy,RN,W.r.injEq] at e3
   have:=sU x.a.li
   lia
noncomputable def eY:Fn:=⟨["thing"],["thing"],
 (.ret (.and (.bi .isInt false (.cons (.var 0) .nil)) (.not (.bi .isBool false (.cons (.var 0) .nil)))))⟩
noncomputable def dM:Fn:=⟨["self","program","asked","every","most"],["self","program","asked","every","most"],
 (.seq (.setf (.var 0) "program" (.var 1))
 (.seq (.setf (.var 0) "asked" (.bi .list false (.cons (.var 2) .nil)))
 (.seq (.setf (.var 0) "gap" (.bi .max2 false (.cons (.var 3) (.cons (.cst (.int 1)) .nil))))
 (.seq (.setf (.var 0) "most" (.bi .max2 false (.cons (.var 4) (.cons (.cst (.int 0)) .nil))))
 (.seq (.setf (.var 0) "kept" (.lst true (.cons (.call "begun" .nil) .nil)))
 (.seq (.setf (.var 0) "farthest" (.cst (.int 0)))
 (.seq (.setf (.var 0) "front" (.call "begun" .nil))
 (.setf (.var 0) "now" (.cst (.int 0))))))))))⟩
noncomputable def dX:Fn:=⟨["self","moment"],["self","moment","state","step"],
 (.seq (.ex (.meth (.var 0) "check" (.cons (.var 1) .nil)))
 (.seq (.set 2 (.idx (.fld (.var 0) "kept") (.bin .fdiv (.var 1) (.fld (.var 0) "gap"))))
 (.seq (.for [(3,"step")] .rng1 (.cons (.bin .mod (.var 1) (.fld (.var 0) "gap")) .nil) (.set 2 (.meth (.var 0) "behind" (.cons (.var 2) .nil))))
 (.ret (.var 2)))))⟩
noncomputable def eZ:Fn:=⟨["self"],["self"],
 (.seq (.ex (.meth (.var 0) "reach" (.cons (.fld (.var 0) "most") .nil)))
 (.ret (.fld (.var 0) "farthest")))⟩
noncomputable def cH:Fn:=⟨["self"],["self"],
 (.ret (.fld (.var 0) "now"))⟩
noncomputable def fh:Fn:=⟨["self"],["self"],
 (.ret (.meth (.var 0) "at" (.cons (.fld (.var 0) "now") .nil)))⟩
noncomputable def dY:Fn:=⟨["self","moment"],["self","moment"],
 (.seq (.ex (.meth (.var 0) "check" (.cons (.var 1) .nil)))
 (.setf (.var 0) "now" (.var 1)))⟩
noncomputable def gf:Fn:=⟨["self","many"],["self","many","steps"],
 (.seq (.set 2 (.bi .min2 false (.cons (.bi .max2 false (.cons (.var 1) (.cons (.cst (.int 0)) .nil))) (.cons (.bin .sub (.meth (.var 0) "end" .nil) (.fld (.var 0) "now")) .nil))))
 (.seq (.augf (.var 0) "now" .add (.var 2))
 (.ret (.var 2))))⟩
noncomputable def gi:Fn:=⟨["self","many"],["self","many","steps"],
 (.seq (.set 2 (.bi .min2 false (.cons (.bi .max2 false (.cons (.var 1) (.cons (.cst (.int 0)) .nil))) (.cons (.fld (.var 0) "now") .nil))))
 (.seq (.augf (.var 0) "now" .sub (.var 2))
 (.ret (.var 2))))⟩
noncomputable def cI:Fn:=⟨["self","state"],["self","state"],
 (.ret (.call "stepped" (.cons (.fld (.var 0) "program") (.cons (.fld (.var 0) "asked") (.cons (.var 1) .nil)))))⟩
noncomputable def bE:Fn:=⟨["self","moment","state"],["self","moment","state"],
 (.ret (.or (.cmp .ge (.var 1) (.fld (.var 0) "most")) (.call "is_over" (.cons (.fld (.var 0) "program") (.cons (.var 2) .nil)))))⟩
noncomputable def cJ:Fn:=⟨["self","state"],["self","state"],
 (.seq (.ex (.me .append (.fld (.var 0) "kept") (.cons (.var 1) .nil)))
 (.ife (.cmp .gt (.bi .len false (.cons (.fld (.var 0) "kept") .nil)) (.glo "MOST_MARKS")) (.seq (.setf (.var 0) "kept" (.stp true 2 (.fld (.var 0) "kept")))
 (.augf (.var 0) "gap" .mul (.cst (.int 2)))) .nil))⟩
noncomputable def cY:Fn:=⟨["self","moment"],["self","moment"],
 (.whl (.and (.cmp .lt (.fld (.var 0) "farthest") (.var 1)) (.not (.meth (.var 0) "is_last" (.cons (.fld (.var 0) "farthest") (.cons (.fld (.var 0) "front") .nil))))) (.seq (.setf (.var 0) "front" (.meth (.var 0) "behind" (.cons (.fld (.var 0) "front") .nil)))
 (.seq (.augf (.var 0) "farthest" .add (.cst (.int 1)))
 (.ife (.cmp .eq (.bin .mod (.fld (.var 0) "farthest") (.fld (.var 0) "gap")) (.cst (.int 0))) (.ex (.meth (.var 0) "keep" (.cons (.fld (.var 0) "front") .nil))) .nil))))⟩
noncomputable def bw:Fn:=⟨["self","moment"],["self","moment"],
 (.seq (.ife (.or (.not (.call "is_whole" (.cons (.var 1) .nil))) (.or (.cmp .lt (.var 1) (.cst (.int 0))) (.cmp .gt (.var 1) (.fld (.var 0) "most")))) (.ret (.cst (.bl false))) .nil)
 (.seq (.ex (.meth (.var 0) "reach" (.cons (.var 1) .nil)))
 (.ret (.cmp .le (.var 1) (.fld (.var 0) "farthest")))))⟩
noncomputable def bZ:Fn:=⟨["self","moment"],["self","moment"],
 (.ife (.not (.meth (.var 0) "has" (.cons (.var 1) .nil))) .bad .nil)⟩
structure TpP (T:FK->Option Fn) (G:Str->Option W):Prop where
 prg:Prg T G
 is_whole:T "is_whole"=some eY
 init:T (.m "Tape" "__init__")=some dM
 behind:T (.m "Tape" "behind")=some cI
 is_last:T (.m "Tape" "is_last")=some bE
 keep:T (.m "Tape" "keep")=some cJ
 reach:T (.m "Tape" "reach")=some cY
 has:T (.m "Tape" "has")=some bw
 check:T (.m "Tape" "check")=some bZ
 at_:T (.m "Tape" "at")=some dX
 MOST_MARKS:G "MOST_MARKS"=some (.p (.int 8))
section
theorem gj (P:TpP T G) (k:Nat) (i:Int) (h:HH):runN T G (k+1) "is_whole" [.p (.int i)] h=some (.p (.bl true),h):=by
 rw[run_eq P.is_whole rfl]
 simp[eY,aj]
theorem lV (P:TpP T G) (k:Nat) (a:TAt h n r t) (hp:Pg.ok t.p) {st:St} (hj:j<=5000) (at_:At j st) (hb:over t.p st=false):runN T G (k+7) (.m "Tape" "behind") [.o n,.p st.enc] h=some (.p (step t.p t.asked st).enc,h):=by
 rw[run_eq P.behind rfl]
 have s:=jY P.prg k t.p hp t.asked st at_.ok (at_.small hj) hb
 simp[cI,a.ob,s,aj]
theorem qK (P:TpP T G) (k:Nat) (a:TAt h n r t) (mo:Nat) (st:St):runN T G (k+2) (.m "Tape" "is_last") [.o n,.p (.int mo),.p st.enc] h=some (.p (.bl (decide (t.most<=mo)||over t.p st)),h):=by
 rw[run_eq P.is_last rfl]
 have o:=jX P.prg k t.p st
 by_cases c:t.most<=mo
 ·have c1:(t.most:Int)<=(mo:Int):=by lia
  simp[bE,a.ob,c,c1,aj]
 ·have c1:¬ (t.most:Int)<=(mo:Int):=by lia
  simp[bE,a.ob,o,c,c1,aj]
theorem Aw:Ti (PM none none (some 2) 9).1 (PM none none (some 2) 9).2.1 (PM none none (some 2) 9).2.2=[0,2,4,6,8]:=by decide +kernel
theorem G8 (x0 x1 x2 x3 x4 x5 x6 x7 x8:D):qa 2 [x0,x1,x2,x3,x4,x5,x6,x7,x8]=[x0,x2,x4,x6,x8]:=by
 show (Ti (PM none none (some 2) 9).1 (PM none none (some 2) 9).2.1 (PM none none (some 2) 9).2.2).filterMap _=_
 rw[Aw];rfl
noncomputable def Tp.keep (t:Tp) (st:St):Tp:=if t.kept.length < 8 then { t with kept:=t.kept++[st] } else { t with kept:=(PF 5).filterMap fun i=>(t.kept++[st])[2*i]?,gap:=2*t.gap }
theorem Ax (P:TpP T G) (k:Nat) (a:TAt h n r t) (hg:t.gap<=100000) (hl:t.kept.length<=8) (st:St) :
 ∃ h' r',runN T G (k+1) (.m "Tape" "keep") [.o n,.p st.enc] h=some (.p .non,h')/\Go n h r t h' r' (t.keep st):=by
 have nr:=EA a.ob a.li
 have hn:=lT a.ob
 have hr:=sU a.li
 have e1:lat (h.set r (Cl.l (t.kept.map St.enc++[st.enc]))) r=some (t.kept.map St.enc++[st.enc]):=Au hr _
 have e2:oat (h.set r (Cl.l (t.kept.map St.enc++[st.enc]))) n=some (Pe "Tape",t.fs r):=(sV nr _).trans a.ob
 have l0:t.kept.length < 100000:=by lia
 by_cases c:t.kept.length < 8
 ·have c1:¬ (8:Int) < (t.kept.length:Int)+1:=by lia
  have go:Go n h r t (h.set r (Cl.l (t.kept.map St.enc++[st.enc]))) r (t.keep st):=by
   refine ⟨a,⟨?_,?_⟩,.inl ⟨by simp,rfl⟩,by simp,fun i h1 h2 h3=>PX (Qp h2)⟩
   ·rw[Tp.keep,if_pos c];exact e2
   ·rw[Tp.keep,if_pos c,e1];simp
  refine ⟨_,r,?_,go⟩
  rw[run_eq P.keep rfl]
  have f:=cB go (.p .non)
  simp[cJ,a.ob,a.li,e1,e2,P.MOST_MARKS,rd,c1,l0,f]
 ·have c8:t.kept.length=8:=by lia
  obtain ⟨x0,x1,x2,x3,x4,x5,x6,x7,ek⟩:∃ x0 x1 x2 x3 x4 x5 x6 x7,t.kept=[x0,x1,x2,x3,x4,x5,x6,x7]:=by
   match t.kept,c8 with
   | [x0,x1,x2,x3,x4,x5,x6,x7],_=>exact ⟨x0,x1,x2,x3,x4,x5,x6,x7,rfl⟩
  have ev:qa 2 (t.kept.map St.enc++[st.enc])=((t.keep st).kept).map St.enc:=by
   rw[Tp.keep,if_neg c,ek]
   exact G8 _ _ _ _ _ _ _ _ _
  have c1:(8:Int) < (t.kept.length:Int)+1:=by lia
  have e3:∀ g:HH,oat ((h.set r (Cl.l (t.kept.map St.enc++[st.enc])))++g) n=some (Pe "Tape",t.fs r):=fun g=>(uY (by simpa using hn)).trans e2
  have e4:(h.set r (Cl.l (t.kept.map St.enc++[st.enc]))).length=h.length:=by simp
  have b0:big (t.gap:Int)=true:=by unfold big;exact decide_eq_true (by lia)
  have go:Go n h r t ((h.set r (Cl.l (t.kept.map St.enc++[st.enc]))++[Cl.l ((t.keep st).kept.map St.enc)]).set n (.o "Tape" ((t.keep st).fs h.length))) h.length (t.keep st):=by
   have hn2:n < (h.set r (Cl.l (t.kept.map St.enc++[st.enc]))++[Cl.l ((t.keep st).kept.map St.enc)]).length:=by simp;lia
   refine ⟨a,⟨jo hn2 _,?_⟩,.inr (O8 _),by simp,fun i h1 h2 h3=>?_⟩
   ·rw[lU (Qp (PL hn))]
    have:=NN (h.set r (Cl.l (t.kept.map St.enc++[st.enc]))) (Cl.l ((t.keep st).kept.map St.enc)) []
    rw[e4] at this
    exact this
   ·rw[PX (Qp h1),O6 (by simpa using h3),PX (Qp h2)]
  refine ⟨_,_,?_,go⟩
  rw[run_eq P.keep rfl]
  have f:=cB go (.p .non)
  have k2:(t.keep st).fs h.length=({ t with gap:=2*t.gap }:Tp).fs h.length:=by
   rw[Tp.keep,if_neg c];rfl
  have pk:aY "gap" (.p (.int ((t.gap:Int)*2))) (t.fs h.length)=(t.keep st).fs h.length:=by
   rw[k2,← Dz t h.length (2*t.gap)]
   congr 3
   show (t.gap:Int)*2=((2*t.gap:Nat):Int)
   lia
  have hn2:n < (h.set r (Cl.l (t.kept.map St.enc++[st.enc]))++[Cl.l ((t.keep st).kept.map St.enc)]).length:=by simp;lia
  have e5:=jo hn2 (.o "Tape" (t.fs h.length))
  rw[Fp] at e5
  have s2:∀ x y:Cl,((h.set r (Cl.l (t.kept.map St.enc++[st.enc]))++[Cl.l ((t.keep st).kept.map St.enc)]).set n x).set n y=(h.set r (Cl.l (t.kept.map St.enc++[st.enc]))++[Cl.l ((t.keep st).kept.map St.enc)]).set n y:=fun x y=>by rw[UW]
  simp[cJ,a.ob,a.li,e1,e2,e3,e4,P.MOST_MARKS,rd,c1,l0,ev,As,e5,b0,pk,s2,f]
end
structure TI (t:Tp) (e gv:Nat):Prop where
 run:Run t.p t.asked t.most e
 ok:Pg.ok t.p
 ask:Ask t.asked
 g0:0 < t.gap
 g1:t.gap<=1000
 m1:t.most<=1000
 far:t.far<=e
 front:t.front=itr t.p t.asked t.far
 len:t.kept.length=t.far / t.gap+1
 l8:t.kept.length<=8
 kept:∀ j,j < t.kept.length->t.kept[j]?=some (itr t.p t.asked (j*t.gap))
 now:t.now<=t.far
 pw:∃ j,t.gap=gv*2 ^ j/\(0 < j->8<=t.far / (t.gap / 2))
structure Sm8 (t t':Tp):Prop where
 p:t'.p=t.p
 asked:t'.asked=t.asked
 most:t'.most=t.most
 now:t'.now=t.now
theorem Sm8.refl (t:Tp):Sm8 t t:=⟨rfl,rfl,rfl,rfl⟩
theorem Sm8.trans (x:Sm8 t u) (y:Sm8 u v):Sm8 t v:=⟨y.p.trans x.p,y.asked.trans x.asked,y.most.trans x.most,y.now.trans x.now⟩
noncomputable def Tp.on (t:Tp):Tp:={ t with front:=step t.p t.asked t.front,far:=t.far+1 }
noncomputable def Tp.nx (t:Tp):Tp:=if (t.far+1) % t.gap=0 then t.on.keep t.on.front else t.on
theorem Ay (hg:0 < g) (c:¬ (f+1) % g=0):(f+1) / g=f / g:=by
 have h1:=SN f g
 have h2:f % g < g:=Nat.mod_lt _ hg
 have e:f+1=g*(f / g)+(f % g+1):=by lia
 have h3:f % g+1 < g:=by
  rcases Pz (f % g+1) g with z | z
  ·exact z
  ·exfalso;apply c
   have:f % g+1=g:=by lia
   rw[e,this,Nat.mul_add_mod,Nat.mod_self]
 rw[e,Nat.mul_add_div hg,Nat.div_eq_of_lt h3];lia
theorem Az (hg:0 < g) (c:(f+1) % g=0):(f+1) / g=f / g+1/\(f / g+1)*g=f+1:=by
 have h1:=SN f g
 have h2:f % g < g:=Nat.mod_lt _ hg
 have h3:f % g+1=g:=by
  rcases Pz (f % g+1) g with z | z
  ·exfalso
   have e:f+1=g*(f / g)+(f % g+1):=by lia
   rw[e,Nat.mul_add_mod,Nat.mod_eq_of_lt z] at c
   lia
  ·lia
 have e:f+1=(f / g+1)*g:=by rw[Nat.add_mul,Q3 (f / g) g];lia
 exact ⟨by rw[e,R6 _ hg],e.symm⟩
theorem TI.nx (I:TI t e gv) (h:t.far < e):TI t.nx e gv/\Sm8 t t.nx/\t.nx.far=t.far+1:=by
 have g0:=I.g0
 have hf:step t.p t.asked t.front=itr t.p t.asked (t.far+1):=by rw[I.front];rfl
 have mono:∀ g:Nat,t.far / g<=(t.far+1) / g:=fun g=>SR (P9 _)
 unfold Tp.nx
 by_cases c:(t.far+1) % t.gap=0
 ·rw[if_pos c]
  obtain ⟨d1,d2⟩:=Az g0 c
  have hfr:t.on.front=itr t.p t.asked (t.far+1):=hf
  have kp:∀ j,j < t.kept.length+1->(t.kept++[itr t.p t.asked (t.far+1)])[j]?=some (itr t.p t.asked (j*t.gap)):=fun j hj=>by
   rcases Pz j t.kept.length with z | z
   ·rw[O6 z];exact I.kept j z
   ·have ej:j=t.kept.length:=by lia
    subst ej
    rw[Py (O8 _),Nat.sub_self]
    have:t.kept.length*t.gap=t.far+1:=by rw[I.len];exact d2
    rw[this];rfl
  unfold Tp.keep
  by_cases c2:t.kept.length < 8
  ·have c2':t.on.kept.length < 8:=c2
   rw[if_pos c2']
   refine ⟨⟨I.run,I.ok,I.ask,g0,I.g1,I.m1,h,hf,?_,?_,fun j hj=>?_,?_,?_⟩,⟨rfl,rfl,rfl,rfl⟩,rfl⟩
   ·show (t.kept++[t.on.front]).length=(t.far+1) / t.gap+1
    rw[d1,PJ,I.len];rfl
   ·show (t.kept++[t.on.front]).length<=8
    rw[PJ];simp;lia
   ·have hj':j < t.kept.length+1:=by
     have:(t.kept++[t.on.front]).length=t.kept.length+1:=by simp
     rw[← this];exact hj
    show (t.kept++[t.on.front])[j]?=some (itr t.p t.asked (j*t.gap))
    rw[hfr];exact kp j hj'
   ·show t.now<=t.far+1;have:=I.now;lia
   ·obtain ⟨j,h1,h2⟩:=I.pw
    exact ⟨j,h1,fun hj=>PD (h2 hj) (mono _)⟩
  ·have c2':¬ t.on.kept.length < 8:=c2
   rw[if_neg c2']
   have l8:t.kept.length=8:=by have:=I.l8;lia
   have f8:t.far+1=8*t.gap:=by rw[← d2,← I.len,l8]
   have le:=I.run.le
   have m1:=I.m1
   have hk:∀ i,i < 5->(t.kept++[itr t.p t.asked (t.far+1)])[2*i]?=some (itr t.p t.asked (i*(2*t.gap))):=fun i hi=>by
    rw[kp (2*i) (by lia)]
    congr 2
    rw[Q3 2 i,Tz]
   have ek:(PF 5).filterMap (fun i=>(t.kept++[t.on.front])[2*i]?)=(PF 5).map fun i=>itr t.p t.asked (i*(2*t.gap)):=by
    rw[hfr,show PF 5=[0,1,2,3,4] from rfl]
    simp only[Ql,List.filterMap_nil,hk 0 (by decide),hk 1 (by decide),hk 2 (by decide),hk 3 (by decide),hk 4 (by decide),Pn,QC]
   have dv:(t.far+1) / (2*t.gap)=4:=by
    rw[f8,show 8*t.gap=4*(2*t.gap) by lia]
    exact R6 _ (by lia)
   refine ⟨⟨I.run,I.ok,I.ask,?_,?_,I.m1,h,hf,?_,?_,fun j hj=>?_,?_,?_⟩,⟨rfl,rfl,rfl,rfl⟩,rfl⟩
   ·show 0 < 2*t.gap;lia
   ·show 2*t.gap<=1000;lia
   ·show ((PF 5).filterMap fun i=>(t.kept++[t.on.front])[2*i]?).length=(t.far+1) / (2*t.gap)+1
    rw[ek,dv];simp
   ·show ((PF 5).filterMap fun i=>(t.kept++[t.on.front])[2*i]?).length<=8
    rw[ek];simp
   ·have hj':j < 5:=by
     have q:j < ((PF 5).filterMap fun i=>(t.kept++[t.on.front])[2*i]?).length:=hj
     rw[ek] at q;simpa using q
    show ((PF 5).filterMap fun i=>(t.kept++[t.on.front])[2*i]?)[j]?=some (itr t.p t.asked (j*(2*t.gap)))
    rw[ek,PR,Rf hj'];rfl
   ·show t.now<=t.far+1;have:=I.now;lia
   ·obtain ⟨j,h1,h2⟩:=I.pw
    refine ⟨j+1,?_,fun _=>?_⟩
    ·show 2*t.gap=gv*2 ^ (j+1)
     rw[h1,U7];rw[Q3 2,Tz]
    ·show 8<=(t.far+1) / (2*t.gap / 2)
     rw[Nat.mul_div_cancel_left _ (by lia:0 < 2),f8,R6 _ g0]
     exact O8 _
 ·rw[if_neg c]
  refine ⟨⟨I.run,I.ok,I.ask,g0,I.g1,I.m1,h,hf,?_,I.l8,I.kept,?_,?_⟩,⟨rfl,rfl,rfl,rfl⟩,rfl⟩
  ·show t.kept.length=(t.far+1) / t.gap+1
   rw[I.len,Ay g0 c]
  ·show t.now<=t.far+1;have:=I.now;lia
  ·obtain ⟨j,h1,h2⟩:=I.pw
   exact ⟨j,h1,fun hj=>PD (h2 hj) (mono _)⟩
section
noncomputable def rcC:E:=(.and (.cmp .lt (.fld (.var 0) "farthest") (.var 1)) (.not (.meth (.var 0) "is_last" (.cons (.fld (.var 0) "farthest") (.cons (.fld (.var 0) "front") .nil)))))
noncomputable def rcB:S:=(.seq (.setf (.var 0) "front" (.meth (.var 0) "behind" (.cons (.fld (.var 0) "front") .nil)))
 (.seq (.augf (.var 0) "farthest" .add (.cst (.int 1)))
 (.ife (.cmp .eq (.bin .mod (.fld (.var 0) "farthest") (.fld (.var 0) "gap")) (.cst (.int 0))) (.ex (.meth (.var 0) "keep" (.cons (.fld (.var 0) "front") .nil))) .nil)))
theorem nF (t:Tp) (r:Nat):aN "is_last" (t.fs r)=none:=bP t r rfl
theorem qL (t:Tp) (r:Nat):aN "behind" (t.fs r)=none:=bP t r rfl
theorem G9 (t:Tp) (r:Nat):aN "keep" (t.fs r)=none:=bP t r rfl
theorem uZ (t:Tp) (r:Nat):aN "reach" (t.fs r)=none:=bP t r rfl
theorem AA (t:Tp) (r:Nat):aN "has" (t.fs r)=none:=bP t r rfl
theorem dN (t:Tp) (r:Nat):aN "check" (t.fs r)=none:=bP t r rfl
theorem KS (t:Tp) (r:Nat):aN "at" (t.fs r)=none:=bP t r rfl
theorem EB (t:Tp) (r:Nat):aN "end" (t.fs r)=none:=bP t r rfl
theorem AB (a:TAt h n r t) (t':Tp) (k:t'.kept=t.kept):Go n h r t (h.set n (.o "Tape" (t'.fs r))) r t':=by
 have hn:=lT a.ob
 have nr:=EA a.ob a.li
 exact ⟨a,⟨jo hn _,by rw[lU (Qp nr),k];exact a.li⟩,.inl ⟨by simp,rfl⟩,by simp,fun i h1 _ _=>PX (Qp h1)⟩
theorem DC (P:TpP T G) (k:Nat) (a:TAt h n r t) (I:TI t e gv) (hl:t.far < e) (w:W) :
 ∃ h' r',evS (runN T G (k+7)) G rcB [some (.o n),some w] h=some (.nx [some (.o n),some w] h')/\Go n h r t h' r' t.nx:=by
 have hn:=lT a.ob
 have atf:=sR I.ok I.ask I.run t.far (by lia)
 have le:=I.run.le
 have m1:=I.m1
 have bh:=lV P k a I.ok (j:=t.far) (st:=t.front) (by lia) (by rw[I.front];exact atf) (by rw[I.front];exact I.run.on _ hl)
 have go1:=AB a t.on rfl
 have e1:oat (h.set n (.o "Tape" (({ t with front:=step t.p t.asked t.front }:Tp).fs r))) n=some (Pe "Tape",({ t with front:=step t.p t.asked t.front }:Tp).fs r):=jo hn _
 have pf:=wU t r (step t.p t.asked t.front)
 have pa:aY "farthest" (.p (.int ((t.far:Int)+1))) (({ t with front:=step t.p t.asked t.front }:Tp).fs r)=t.on.fs r:=DA ({ t with front:=step t.p t.asked t.front }:Tp) r (t.far+1)
 have e2:oat (h.set n (.o "Tape" (t.on.fs r))) n=some (Pe "Tape",t.on.fs r):=jo hn _
 have g0:(0:Int) < (t.gap:Int):=by have:=I.g0;lia
 have s2:∀ x y:Cl,(h.set n x).set n y=h.set n y:=fun x y=>by rw[UW]
 have of:t.on.far=t.far+1:=rfl
 have og:t.on.gap=t.gap:=rfl
 have pre:evS (runN T G (k+7)) G rcB [some (.o n),some w] h=evS (runN T G (k+7)) G (.ife (.cmp .eq (.bin .mod (.fld (.var 0) "farthest") (.fld (.var 0) "gap")) (.cst (.int 0))) (.ex (.meth (.var 0) "keep" (.cons (.fld (.var 0) "front") .nil))) .nil) [some (.o n),some w] (h.set n (.o "Tape" (t.on.fs r))):=by
  rw[rcB]
  simp[a.ob,bh,qL,pf,e1,pa,s2]
 rw[pre]
 unfold Tp.nx
 have cm:(((t.far+1) % t.gap:Nat):Int)=((t.far:Int)+1) % (t.gap:Int):=by simp
 by_cases c:(t.far+1) % t.gap=0
 ·rw[if_pos c]
  have c1:((t.far:Int)+1) % (t.gap:Int)=0:=by lia
  obtain ⟨h2,r2,k1,k2⟩:=Ax P (k+6) go1.b (by show t.gap<=100000;have:=I.g1;lia) (by show t.kept.length<=8;exact I.l8) t.on.front
  refine ⟨h2,r2,?_,go1.trans k2⟩
  simp[e2,of,og,g0,I.g0,c1,G9,k1]
 ·rw[if_neg c]
  have c1:¬ ((t.far:Int)+1) % (t.gap:Int)=0:=by lia
  refine ⟨_,r,?_,go1⟩
  have c2:(((t.far:Int)+1) % (t.gap:Int)==0)=false:=by simpa using c1
  simp[e2,of,og,g0,I.g0,c2]
theorem o4 (P:TpP T G) (k:Nat) (a:TAt h n r t) (I:TI t e gv) (m:Nat) :
 BT.ev (runN T G (k+7)) G rcC [some (.o n),some (.p (.int m))] h=some (.p (.bl (decide (t.far < min m e))),h):=by
 have il:=qK P (k+5) a t.far t.front
 have le:=I.run.le
 by_cases c:t.far < m
 ·have c1:(t.far:Int) < (m:Int):=by lia
  by_cases c2:t.far < e
  ·have o:over t.p t.front=false:=by rw[I.front];exact I.run.on _ c2
   have q:(decide (t.most<=t.far)||over t.p t.front)=false:=by
    rw[o,UJ];exact decide_eq_false (by lia)
   rw[q] at il
   have d:decide (t.far < min m e)=true:=decide_eq_true (by lia)
   rw[d]
   simp[rcC,a.ob,c1,c,nF,il]
  ·have fe:t.far=e:=by have:=I.far;lia
   have q:(decide (t.most<=t.far)||over t.p t.front)=true:=by
    rcases I.run.last with z | z
    ·rw[decide_eq_true (by lia)];rfl
    ·rw[I.front,fe,z,Bool.or_true]
   rw[q] at il
   have d:decide (t.far < min m e)=false:=decide_eq_false (by lia)
   rw[d]
   simp[rcC,a.ob,c1,c,nF,il]
 ·have c1:¬ (t.far:Int) < (m:Int):=by lia
  have d:decide (t.far < min m e)=false:=decide_eq_false (by lia)
  rw[d]
  simp[rcC,a.ob,c1,c]
theorem DE (P:TpP T G) (k:Nat) (n:Nat) (e gv m:Nat):∀ (d f:Nat) (h:HH) (r:Nat) (t:Tp),TAt h n r t->TI t e gv->min m e - t.far<=d->d<=f →
 ∃ h' r' t',cE (BT.ev (runN T G (k+7)) G rcC) (evS (runN T G (k+7)) G rcB) (f+1) [some (.o n),some (.p (.int m))] h=some (.nx [some (.o n),some (.p (.int m))] h')/\Go n h r t h' r' t'/\TI t' e gv/\Sm8 t t'/\t'.far=max t.far (min m e):=by
 intro d
 induction d with
 | zero =>
  intro f h r t a I hd hf
  have q:=o4 P k a I m
  rw[decide_eq_false (by lia)] at q
  refine ⟨h,r,t,?_,.refl a,I,.refl t,by lia⟩
  rw[cE,q,iK,n8]
 | succ d ih =>
  intro f h r t a I hd hf
  by_cases c:t.far < min m e
  ·have q:=o4 P k a I m
   rw[decide_eq_true c] at q
   obtain ⟨h1,r1,b1,g1⟩:=DC P k a I (by lia) (.p (.int m))
   obtain ⟨I1,s1,f1⟩:=I.nx (by lia)
   cases f with
   | zero=>lia
   | succ f =>
    obtain ⟨h2,r2,t2,b2,g2,I2,s2,f2⟩:=ih f h1 r1 t.nx g1.b I1 (by lia) (by lia)
    refine ⟨h2,r2,t2,?_,g1.trans g2,I2,s1.trans s2,by lia⟩
    rw[cE,q,iK,kZ,b1,gC,b2]
  ·have q:=o4 P k a I m
   rw[decide_eq_false c] at q
   refine ⟨h,r,t,?_,.refl a,I,.refl t,by lia⟩
   rw[cE,q,iK,n8]
theorem qM:cY=⟨["self","moment"],["self","moment"],.whl rcC rcB⟩:=rfl
inductive KU {α:Type} (x:Option (α×HH)) (y:α) (n:Nat) (h:HH) (r:Nat) (t:Tp) (e gv:Nat):Prop where
 | mk (h':HH) (r':Nat) (t':Tp) (q:x=some (y,h')) (g:Go n h r t h' r' t') (i:TI t' e gv) (m:Sm8 t t'):KU x y n h r t e gv
inductive qN {α:Type} (x:Option (α×HH)) (y:α) (n:Nat) (h:HH) (r:Nat) (t:Tp) (e gv f:Nat):Prop where
 | mk (h':HH) (r':Nat) (t':Tp) (q:x=some (y,h')) (g:Go n h r t h' r' t') (i:TI t' e gv) (m:Sm8 t t') (a:t'.far=f):qN x y n h r t e gv f
theorem nG (P:TpP T G) (k:Nat) (a:TAt h n r t) (I:TI t e gv) (m:Nat) :
 qN (runN T G (k+8) (.m "Tape" "reach") [.o n,.p (.int m)] h) (.p .non) n h r t e gv (max t.far (min m e)):=by
 have le:=I.run.le
 have m1:=I.m1
 obtain ⟨h',r',t',b,g,I',s,f⟩:=DE P k n e gv m 99999 99999 h r t a I (by lia) (O8 _)
 refine ⟨h',r',t',?_,g,I',s,f⟩
 rw[run_eq P.reach rfl,qM]
 have fn:=cB g (.p .non)
 simp[turns,b,fn]
theorem o5 (P:TpP T G) (k:Nat) (a:TAt h n r t) (I:TI t e gv) (m:Nat) (hm:m<=t.most) :
 qN (runN T G (k+9) (.m "Tape" "has") [.o n,.p (.int m)] h) (.p (.bl (decide (m<=e)))) n h r t e gv (max t.far (min m e)):=by
 obtain ⟨h',r',t',b,g,I',s,f⟩:=nG P k a I m
 refine ⟨h',r',t',?_,g,I',s,f⟩
 rw[run_eq P.has rfl]
 have w:=gj P (k+7) m
 have c1:¬ ((m:Int) < 0):=by lia
 have c2:¬ ((t.most:Int) < (m:Int)):=by lia
 have fn:=fun w=>cB g w
 have far:=I.far
 have d:decide ((m:Int)<=(t'.far:Int))=decide (m<=e):=by
  by_cases c:m<=e
  ·rw[decide_eq_true c];exact decide_eq_true (by lia)
  ·rw[decide_eq_false c];exact decide_eq_false (by lia)
 simp[bw,w,c1,a.ob,c2,uZ,b,g.b.ob,fn]
 simpa using d
theorem jL (P:TpP T G) (k:Nat) (a:TAt h n r t) (I:TI t e gv) (m:Nat) (hm:m<=e) :
 qN (runN T G (k+10) (.m "Tape" "check") [.o n,.p (.int m)] h) (.p .non) n h r t e gv (max t.far m):=by
 obtain ⟨h',r',t',b,g,I',s,f⟩:=o5 P k a I m (PD hm I.run.le)
 rw[decide_eq_true hm] at b
 refine ⟨h',r',t',?_,g,I',s,by lia⟩
 rw[run_eq P.check rfl]
 have fn:=cB g (.p .non)
 simp[bZ,a.ob,AA,b,fn]
noncomputable def atB:S:=(.set 2 (.meth (.var 0) "behind" (.cons (.var 2) .nil)))
theorem u0 (P:TpP T G) (k:Nat) (a:TAt h n r t) (I:TI t e gv) (w1:W):∀ (q j:Nat) (x:Option W) (lo:Int),j+q<=e →
 ∃ x',fE (evS (runN T G (k+7)) G atB) [(3,"step")] (upto lo q) [some (.o n),some w1,some (.p (itr t.p t.asked j).enc),x] h=some (.nx [some (.o n),some w1,some (.p (itr t.p t.asked (j+q)).enc),x'] h)
 | 0,j,x,lo,_=>⟨x,rfl⟩
 | q+1,j,x,lo,hj=>by
  have le:=I.run.le
  have m1:=I.m1
  obtain ⟨x',b⟩:=u0 P k a I w1 q (j+1) (some (.p (.int lo))) (lo+1) (by lia)
  refine ⟨x',?_⟩
  have bh:=lV P k a I.ok (j:=j) (st:=itr t.p t.asked j) (by lia) (sR I.ok I.ask I.run j (by lia)) (I.run.on j (by lia))
  have up:upto lo (q+1)=.int lo :: upto (lo+1) q:=by
   unfold upto
   rw[Ro,Pn,Qs]
   simp only[Int.natCast_zero,Int.add_zero,Ry,true_and]
   apply QO
   intro i _
   simp;lia
  rw[up]
  have s1:step t.p t.asked (itr t.p t.asked j)=itr t.p t.asked (j+1):=rfl
  rw[s1] at bh
  have ej:j+1+q=j+(q+1):=by lia
  rw[ej] at b
  have hb:evS (runN T G (k+7)) G atB [some (.o n),some w1,some (.p (itr t.p t.asked j).enc),some (.p (.int lo))] h=some (.nx [some (.o n),some w1,some (.p (itr t.p t.asked (j+1)).enc),some (.p (.int lo))] h):=by
   simp[atB,a.ob,qL,bh]
  simp[hb,b]
theorem AC:dX=⟨["self","moment"],["self","moment","state","step"],(.seq (.ex (.meth (.var 0) "check" (.cons (.var 1) .nil)))
 (.seq (.set 2 (.idx (.fld (.var 0) "kept") (.bin .fdiv (.var 1) (.fld (.var 0) "gap"))))
 (.seq (.for [(3,"step")] .rng1 (.cons (.bin .mod (.var 1) (.fld (.var 0) "gap")) .nil) atB)
 (.ret (.var 2)))))⟩:=rfl
theorem Hf (P:TpP T G) (k:Nat) (a:TAt h n r t) (I:TI t e gv) (m:Nat) (hm:m<=e) :
 qN (runN T G (k+11) (.m "Tape" "at") [.o n,.p (.int m)] h) (.p (itr t.p t.asked m).enc) n h r t e gv (max t.far m):=by
 obtain ⟨h',r',t',b,g,I',s,f⟩:=jL P k a I m hm
 refine ⟨h',r',t',?_,g,I',s,f⟩
 rw[run_eq P.at_ rfl,AC]
 have fn:=fun w=>cB g w
 have g0:=I'.g0
 have g1:=I'.g1
 have dm:=SN m t'.gap
 have md:=Nat.mod_lt m g0
 have hq:m / t'.gap < t'.kept.length:=by
  rw[I'.len]
  have:m / t'.gap<=t'.far / t'.gap:=SR (by lia)
  lia
 have hk:=I'.kept _ hq
 have le:=I'.run.le
 have m1:=I'.m1
 rw[s.p,s.asked] at hk
 have gz:(0:Int) < (t'.gap:Int):=by lia
 have gm:(t'.gap:Int) < 1073741824:=by lia
 have e1:(m:Int) / (t'.gap:Int)=((m / t'.gap:Nat):Int):=by simp
 have e2:(m:Int) % (t'.gap:Int)=((m % t'.gap:Nat):Int):=by simp
 have ix:aX (.lst (t'.kept.map St.enc)) (.int ((m / t'.gap:Nat):Int))=some (itr t.p t.asked (m / t'.gap*t'.gap)).enc:=by
  show atP _ _=_
  rw[Dl,PR,hk];rfl
 obtain ⟨x',lp⟩:=u0 P (k+3) g.b I' (.p (.int m)) (m % t'.gap) (m / t'.gap*t'.gap) none 0 (by rw[Q3];lia)
 rw[s.p,s.asked] at lp
 have em:m / t'.gap*t'.gap+m % t'.gap=m:=by rw[Q3];exact dm
 rw[em] at lp
 have rg:dQ .rng1 [.int ((m % t'.gap:Nat):Int)]=some (upto 0 (m % t'.gap)):=by
  rw[cD]
  have c:((-100000<=(((m % t'.gap:Nat):Int)):Bool)&&(((m % t'.gap:Nat):Int)<=100000:Bool))=true:=by
   simp only[OY,decide_eq_true_eq];lia
  rw[if_pos c];rfl
 simp[-bT,-cD,-Int.natCast_ediv,-Ug,a.ob,dN,b,g.b.ob,g.b.li,rd,gz,g0,gm,e1,e2,ix,rg,c7,lp,fn]
structure TpM (T:FK->Option Fn):Prop where
 end_:T (.m "Tape" "end")=some eZ
 moment:T (.m "Tape" "moment")=some cH
 state:T (.m "Tape" "state")=some fh
 to:T (.m "Tape" "to")=some dY
 go:T (.m "Tape" "go")=some gf
 back:T (.m "Tape" "back")=some gi
theorem TI.to (I:TI t e gv) (m:Nat) (h:m<=t.far):TI { t with now:=m } e gv:=⟨I.run,I.ok,I.ask,I.g0,I.g1,I.m1,I.far,I.front,I.len,I.l8,I.kept,h,I.pw⟩
theorem u5 (P:TpP T G) (M:TpM T) (k:Nat) (a:TAt h n r t) (I:TI t e gv) :
 qN (runN T G (k+9) (.m "Tape" "end") [.o n] h) (.p (.int e)) n h r t e gv e:=by
 obtain ⟨h',r',t',b,g,I',s,f⟩:=nG P k a I t.most
 have le:=I.run.le
 have fr:=I.far
 have fe:t'.far=e:=by lia
 refine ⟨h',r',t',?_,g,I',s,fe⟩
 rw[run_eq M.end_ rfl]
 have fn:=fun w=>cB g w
 simp[eZ,a.ob,uZ,b,g.b.ob,fe,fn]
theorem sW (M:TpM T) (k:Nat) (a:TAt h n r t):runN T G (k+1) (.m "Tape" "moment") [.o n] h=some (.p (.int t.now),h):=by
 rw[run_eq M.moment rfl]
 simp[cH,a.ob,aj]
structure Sm7 (t t':Tp):Prop where
 p:t'.p=t.p
 asked:t'.asked=t.asked
 most:t'.most=t.most
theorem Sm8.s7 (s:Sm8 t t'):Sm7 t t':=⟨s.p,s.asked,s.most⟩
theorem Hg (P:TpP T G) (M:TpM T) (k:Nat) (a:TAt h n r t) (I:TI t e gv) (m:Nat) (hm:m<=e) :
 ∃ h' r' t',runN T G (k+11) (.m "Tape" "to") [.o n,.p (.int m)] h=some (.p .non,h')/\Go n h r t h' r' t'/\TI t' e gv/\Sm7 t t'/\t'.now=m/\t'.far=max t.far m:=by
 obtain ⟨h',r',t',b,g,I',s,f⟩:=jL P k a I m hm
 have g2:=AB g.b { t' with now:=m } rfl
 refine ⟨_,_,_,?_,g.trans g2,I'.to m (by lia),⟨s.p,s.asked,s.most⟩,rfl,f⟩
 rw[run_eq M.to rfl]
 have fn:=cB (g.trans g2) (.p .non)
 have pn:=uX t' r' m
 simp[dY,a.ob,dN,b,g.b.ob,pn,fn]
theorem Hh (P:TpP T G) (M:TpM T) (k:Nat) (a:TAt h n r t) (I:TI t e gv) (m:Nat) :
 ∃ h' r' t',runN T G (k+10) (.m "Tape" "go") [.o n,.p (.int m)] h=some (.p (.int ((min m (e - t.now):Nat):Int)),h')/\Go n h r t h' r' t'/\TI t' e gv/\Sm7 t t'/\t'.now=t.now+min m (e - t.now)/\t'.far=e:=by
 obtain ⟨h',r',t',b,g,I',s,f⟩:=u5 P M k a I
 have nw:=I.now
 have fr:=I.far
 have sn:=s.now
 have g2:=AB g.b { t' with now:=t.now+min m (e - t.now) } rfl
 refine ⟨_,_,_,?_,g.trans g2,I'.to _ (by lia),⟨s.p,s.asked,s.most⟩,rfl,f⟩
 rw[run_eq M.go rfl]
 have fn:=fun w=>cB (g.trans g2) w
 have pn:=uX t' r' (t.now+min m (e - t.now))
 have c0:(if (0:Int) > (m:Int) then (0:Int) else (m:Int))=(m:Int):=if_neg (by lia)
 have c1:(if (e:Int) - (t.now:Int) < (m:Int) then (e:Int) - (t.now:Int) else (m:Int))=((min m (e - t.now):Nat):Int):=by
  by_cases c:(e:Int) - (t.now:Int) < (m:Int)
  ·rw[if_pos c];lia
  ·rw[if_neg c];lia
 have c2:(t.now:Int)+((min m (e - t.now):Nat):Int)=((t.now+min m (e - t.now):Nat):Int):=by lia
 have sq:∀ z:Int,oat h' n=some (Pe "Tape",t'.fs r'):=fun _=>g.b.ob
 rw[gf]
 simp only[aL,Pn,QC,Po,Qe]
 simp[-Int.natCast_add,a.ob,EB,b,g.b.ob,sn,c0,c1,c2,pn,fn]
end
section
theorem AD (i:Nat) (hi:i < h.length) (ne:h'[i]?≠h[i]?) (w:W):fin h w h'=some (w,h'):=by
 unfold fin
 by_cases c:h'.length=h.length
 ·rw[if_pos c]
 ·rw[if_neg c,if_neg]
  intro z
  apply ne
  have q:=Rg (l:=h') hi
  rw[z] at q
  exact q.symm
noncomputable def Tp.new (p:Pg) (asked:List Int) (ev most:Nat):Tp:=⟨p,asked,ev,most,[St.zero],0,St.zero,0⟩
theorem AE (P:TpP T G) (k:Nat) (p:Pg) (asked:List Int) (ev most:Nat) (hv:1<=ev) (h:HH) :
 runN T G (k+2) (.m "Tape" "__init__") [.o h.length,.p (bD p),.p (.lst (ah asked)),.p (.int ev),.p (.int most)] (h++[.o "Tape" []])=some (.p .non,h++[.o "Tape" ((Tp.new p asked ev most).fs (h.length+1)),.l [St.zero.enc]]):=by
 rw[run_eq P.init rfl]
 have b:=nE P.prg k
 have c0:(if (1:Int) > (ev:Int) then (1:Int) else (ev:Int))=(ev:Int):=if_neg (by lia)
 have c1:(if (0:Int) > (most:Int) then (0:Int) else (most:Int))=(most:Int):=if_neg (by lia)
 have f:∀ (c:Cl) (g:HH) (w:W),c≠.o "Tape" []->fin (h++[.o "Tape" []]) w (h++c :: g)=some (w,h++c :: g):=fun c g w hc=>by
  refine AD h.length (by simp) ?_ w
  simp
  exact hc
 have f2:=f (.o "Tape" ((Tp.new p asked ev most).fs (h.length+1))) [.l [St.zero.enc]] (.p .non) (by simp[Tp.fs])
 have fs:(Tp.new p asked ev most).fs (h.length+1)=([("program",.p (bD p)),("asked",.p (.lst (ah asked))),("gap",.p (.int ev)),("most",.p (.int most)),("kept",.r (h.length+1)),("farthest",.p (.int 0)),("front",.p St.zero.enc),("now",.p (.int 0))]:List (Str×W)):=by simp[Tp.fs,Tp.new]
 rw[fs] at f2 ⊢
 rw[dM]
 simp only[aL,Pn,QC,Po,Qe]
 simp[c0,c1,b,f2]
theorem Hi {ev:Nat} (hp:Pg.ok p) (ha:Ask asked) (R:Run p asked most e) (h1:1<=ev) (h2:ev<=1000) (h3:most<=1000):TI (Tp.new p asked ev most) e ev :=
 ⟨R,hp,ha,h1,h2,h3,QU _,rfl,by simp[Tp.new],by simp[Tp.new],fun j hj=>by
  have:j=0:=by simpa [Tp.new] using hj
  subst this
  simp[Tp.new,itr],QU _,⟨0,by simp[Tp.new],fun z=>absurd z (PZ _)⟩⟩
theorem Hj (h:HH) (p:Pg) (asked:List Int) (ev most:Nat):TAt (h++[.o "Tape" ((Tp.new p asked ev most).fs (h.length+1)),.l [St.zero.enc]]) h.length (h.length+1) (Tp.new p asked ev most) :=
 ⟨by simp,by simp[Tp.new]⟩
theorem TAt.app (a:TAt h n r t):TAt (h++g) n r t:=⟨(uY (lT a.ob)).trans a.ob,(DB (sU a.li)).trans a.li⟩
end
section
variable {T:FK->Option Fn}{G:Str->Option W}
theorem KW (t:Tp) (r:Nat):aN "to" (t.fs r)=none:=bP t r rfl
theorem NT (t:Tp) (r:Nat):aN "go" (t.fs r)=none:=bP t r rfl
theorem AF (t:Tp) (r:Nat):aN "moment" (t.fs r)=none:=bP t r rfl
noncomputable def sX (p:Pg) (asked:List Int) (e:Nat):D:=.lst ((PF (e+1)).map fun i=>(itr p asked i).enc)
theorem DF (p:Pg) (asked:List Int) (e:Nat):biD .len [sX p asked e]=some (.int ((e:Int)+1)):=by simp[sX]
end
section
variable {T:FK->Option Fn}{G:Str->Option W}
end
noncomputable def mkE:E:=.bin .mul (.var 0) (.fld (.var 1) "gap")
noncomputable def aR:Fn:=⟨["self","moment"],["self","moment"],
 (.seq (.ex (.meth (.var 0) "check" (.cons (.var 1) .nil)))
 (.ret (.bin .mod (.var 1) (.fld (.var 0) "gap"))))⟩
theorem DG (f:List D->HH->Option (Option D×HH)) (g:D->D) (h:HH):∀ (ds:List D),(∀ d∈ds,f [d] h=some (some (g d),h))->aV f 1 ds h=some (ds.map g,h):=by
 intro ds
 induction ds with
 | nil=>intro _;rfl
 | cons d r ih =>
  intro hf
  have e1:=hf d Pq
  have e2:=ih fun x hx=>hf x (Pc _ hx)
  rw[aV,gA]
  simp[e1,e2]
noncomputable def aQ (g a n:Nat):List D:=(PF n).map fun i=>.int (((a+i)*g:Nat):Int)
theorem sY (g a n:Nat):aQ g a (n+1)=.int ((a*g:Nat):Int) :: aQ g (a+1) n:=by
 unfold aQ
 rw[Ro,Pn,Qs]
 simp only[Nat.add_zero,Ry,true_and]
 apply QO
 intro i _
 simp only[Function.comp_apply]
 congr 3
 omega
theorem jM (g a n:Nat):(aQ g a n).length=n:=by simp[aQ]
theorem qO (g a n:Nat):dok 100 (.lst (aQ g a n))=true:=by
 simp[aQ]
section
variable {T:FK->Option Fn}{G:Str->Option W}
theorem o6 (t:Tp) (r:Nat):aN "marks" (t.fs r)=none:=bP t r rfl
theorem AG (t:Tp) (r:Nat):aN "cost" (t.fs r)=none:=bP t r rfl
end
section
variable {F:FK->List W->HH->Option (W×HH)}{R:XF}{D:Str->Bool}{G:Str->Option W}{c e a b:E}{s x:S}{sl:Sl}{h g:HH}{q:Str×HH}
noncomputable def Nay (F:FK->List W->HH->Option (W×HH)) (R:XF) (D:Str->Bool) (G:Str->Option W) (s:S) (sl:Sl) (h:HH) (q:Str×HH):Prop:=evS F G s sl h=none/\rsS F R D G s sl h=some q
theorem KY (h1:BT.ev F G c sl h=some (.p (.bl true),h)):BT.ev F G (.ite c a b) sl h=BT.ev F G a sl h:=by simp[h1]
theorem KZ (h1:BT.ev F G c sl h=some (.p (.bl false),h)):BT.ev F G (.ite c a b) sl h=BT.ev F G b sl h:=by simp[h1]
theorem AH (h1:BT.ev F G c sl h=some (.p (.bl false),h)) (n:Nay F R D G x sl h q):Nay F R D G (.seq (.ife c s .nil) x) sl h q:=⟨(iE h1).trans n.1,by
 rw[xs2,show evS F G (.ife c s .nil) sl h=some (.nx sl h) by simp[h1]];exact n.2⟩
theorem sZ (h1:BT.ev F G c sl h=some (.p (.bl true),h)) (h2:BT.ev F G e sl h=none) (h3:rsE F R D G e sl h=some q):Nay F R D G (.seq (.ife c (.ret e) .nil) x) sl h q:=⟨by simp[h1,h2],by
 rw[xs2,show evS F G (.ife c (.ret e) .nil) sl h=none by simp[h1,h2],xs3,h1];exact h3⟩
end
noncomputable def gQ:Fn:=⟨["self","moment"],["self","moment"],(.ife (.not (.meth (.var 0) "has" (.cons (.var 1) .nil))) (.rai "NoMoment" (.var 1)) .nil)⟩
noncomputable def qP:Fn:=⟨["self","moment"],["self","moment","state","step"],(.seq (.ex (.meth (.var 0) "check" (.cons (.var 1) .nil))) .bad)⟩
noncomputable def qQ:Fn:=⟨["self","moment"],["self","moment"],(.seq (.ex (.meth (.var 0) "check" (.cons (.var 1) .nil))) .bad)⟩
structure TpX (TX:FK->Option Fn):Prop where
 check:TX (.m "Tape" "check")=some gQ
 at_:TX (.m "Tape" "at")=some qP
noncomputable def NoM (e:Nat) (z:Int):Prop:=z < 0\/(e:Int) < z
section
theorem Hl (P:TpP T G) (k:Nat) (a:TAt h n r t) (I:TI t e gv) (z:Int) (hz:NoM e z) :
 KU (runN T G (k+9) (.m "Tape" "has") [.o n,.p (.int z)] h) (.p (.bl false)) n h r t e gv:=by
 by_cases c:0<=z/\z<=(t.most:Int)
 ·obtain ⟨m,rfl⟩:∃ m:Nat,z=(m:Int):=⟨z.toNat,by lia⟩
  obtain ⟨h',r',t',b,g,I',s,f⟩:=o5 P k a I m (by lia)
  refine ⟨h',r',t',?_,g,I',s⟩
  rw[b,decide_eq_false]
  rcases hz with hz | hz<;>lia
 ·refine ⟨h,r,t,?_,.refl a,I,⟨rfl,rfl,rfl,rfl⟩⟩
  rw[run_eq P.has rfl]
  have w:=gj P (k+7) z
  have c1:z < 0\/(t.most:Int) < z:=by lia
  by_cases c2:z < 0
  ·simp[bw,w,c2,aj]
  ·have c3:(t.most:Int) < z:=by lia
   simp[bw,w,c2,c3,a.ob,aj]
theorem jq (P:TpP T G) (k:Nat) (a:TAt h n r t) (I:TI t e gv) (z:Int) (hz:NoM e z):runN T G (k+10) (.m "Tape" "check") [.o n,.p (.int z)] h=none:=by
 obtain ⟨h',r',t',b,g,I',s⟩:=Hl P k a I z hz
 rw[run_eq P.check rfl]
 simp[bZ,a.ob,AA,b]
theorem K0 (P:TpP T G) (k:Nat) (a:TAt h n r t) (I:TI t e gv) (z:Int) (hz:NoM e z):runN T G (k+11) (.m "Tape" "at") [.o n,.p (.int z)] h=none:=by
 have b:=jq P k a I z hz
 rw[run_eq P.at_ rfl]
 simp[dX,a.ob,dN,b]
theorem K1 (P:TpP T G) (M:TpM T) (k:Nat) (a:TAt h n r t) (I:TI t e gv) (z:Int) (hz:NoM e z):runN T G (k+11) (.m "Tape" "to") [.o n,.p (.int z)] h=none:=by
 have b:=jq P k a I z hz
 rw[run_eq M.to rfl]
 simp[dY,a.ob,dN,b]
end
noncomputable def jr:Fn:=⟨["self","moment"],["self","moment"],(.seq (.ex (.meth (.var 0) "check" (.cons (.var 1) .nil))) .bad)⟩
structure TpY (TX:FK->Option Fn):Prop where
 x:TpX TX
 to:TX (.m "Tape" "to")=some qQ
 cost:TX (.m "Tape" "cost")=some jr
noncomputable def iz (t:Tp) (e:Nat) (z:Int):Nat:=if 0<=z/\z<=(t.most:Int) then max t.far (min z.toNat e) else t.far
section
variable {T TX:FK->Option Fn}{G:Str->Option W}
theorem DH (P:TpP T G) (k:Nat) {n r:Nat}{t:Tp}{h:HH}{e gv:Nat} (a:TAt h n r t) (I:TI t e gv) (z:Int) (hz:NoM e z) :
 qN (runN T G (k+9) (.m "Tape" "has") [.o n,.p (.int z)] h) (.p (.bl false)) n h r t e gv (iz t e z):=by
 by_cases c:0<=z/\z<=(t.most:Int)
 ·obtain ⟨m,rfl⟩:∃ m:Nat,z=(m:Int):=⟨z.toNat,by lia⟩
  obtain ⟨h',r',t',b,g,I',s,f⟩:=o5 P k a I m (by lia)
  refine ⟨h',r',t',?_,g,I',s,by rw[f,iz,if_pos c];rfl⟩
  rw[b,decide_eq_false]
  rcases hz with hz | hz<;>lia
 ·refine ⟨h,r,t,?_,.refl a,I,⟨rfl,rfl,rfl,rfl⟩,by rw[iz,if_neg c]⟩
  rw[run_eq P.has rfl]
  have w:=gj P (k+7) z
  have c1:z < 0\/(t.most:Int) < z:=by lia
  by_cases c2:z < 0
  ·simp[bw,w,c2,aj]
  ·have c3:(t.most:Int) < z:=by lia
   simp[bw,w,c2,c3,a.ob,aj]
theorem AI (P:TpP T G) (X:TpX TX) (k:Nat) {n r:Nat}{t:Tp}{h:HH}{e gv:Nat} (a:TAt h n r t) (I:TI t e gv) (z:Int) (hz:NoM e z) (hb:big z=true) :
 qN (dS T TX G (k+10) (.m "Tape" "check") [.o n,.p (.int z)] h) (Pe "NoMoment") n h r t e gv (iz t e z):=by
 obtain ⟨h',r',t',b,g,I',s,f⟩:=DH P k a I z hz
 refine ⟨h',r',t',?_,g,I',s,f⟩
 rw[kI X.check rfl]
 simp[gQ,xs1,xs3,xs8,rsI,a.ob,AA,b,hb]
theorem DI (P:TpP T G) (hc:T (.m "Tape" "cost")=some aR) (k:Nat) {n r:Nat}{t:Tp}{h:HH}{e gv:Nat} (a:TAt h n r t) (I:TI t e gv) (z:Int) (hz:NoM e z):runN T G (k+11) (.m "Tape" "cost") [.o n,.p (.int z)] h=none:=by
 have b:=jq P k a I z hz
 rw[run_eq hc rfl]
 simp[aR,a.ob,dN,b]
theorem Ho (P:TpP T G) (hc:T (.m "Tape" "cost")=some aR) (k:Nat) {n r:Nat}{t:Tp}{h:HH}{e ev:Nat} (a:TAt h n r t) (I:TI t e ev) (m:Nat) (hm:m<=e) :
 ∃ h' r' t',runN T G (k+11) (.m "Tape" "cost") [.o n,.p (.int m)] h=some (.p (.int ((m % t'.gap:Nat):Int)),h')/\Go n h r t h' r' t'/\TI t' e ev/\Sm8 t t'/\t'.far=max t.far m:=by
 obtain ⟨h',r',t',b,g,I',s,f⟩:=jL P k a I m hm
 refine ⟨h',r',t',?_,g,I',s,f⟩
 rw[run_eq hc rfl]
 have fn:=fun w=>cB g w
 have g0:=I'.g0
 have gz:(0:Int) < (t'.gap:Int):=by lia
 have e2:(m:Int) % (t'.gap:Int)=((m % t'.gap:Nat):Int):=by simp
 simp[-Ug,aR,a.ob,dN,b,g.b.ob,gz,g0,e2,fn]
theorem jt {F:FK->List W->HH->Option (W×HH)}{R:XF}{D:Str->Bool}{fn:Fn}{cn:Str}{ws:List W}{u:W}{h g:HH}{r:W×HH} (hl:ws.length=fn.ps.length) (e:evS F G fn.body (aL fn.ns.length ws) h=some (.rt u g)) (f:fin h u g=some r):BS.jj F R D G fn cn ws h=some r:=by
 unfold BS.jj
 rw[if_pos hl,e,show iy (some (Fl.rt u g)) (fin h)=fin h u g from rfl,f]
theorem DJ {F:FK->List W->HH->Option (W×HH)}{R:XF}{D:Str->Bool}{fn:Fn}{cn:Str}{ws:List W}{h g:HH} (hl:ws.length=fn.ps.length) (n:Nay F R D G fn.body (aL fn.ns.length ws) h (cn,g)):BS.jj F R D G fn cn ws h=some (.p (.bl true),g):=by
 unfold BS.jj
 rw[if_pos hl,n.1,n.2]
 exact if_pos rfl
noncomputable def fj:Fn:=⟨["_law_tape","_law_way","_law_number"],["_law_tape","_law_way","_law_number","e"],
 (.seq (.ife (.cmp .eq (.var 1) (.cst (.int 0))) (.ret (.idx (.meth (.var 0) "at" (.cons (.var 2) .nil)) (.cst (.int 0)))) .nil)
 (.seq (.ife (.cmp .eq (.var 1) (.cst (.int 1))) (.ret (.meth (.var 0) "cost" (.cons (.var 2) .nil))) .nil)
 (.seq (.ife (.cmp .eq (.var 1) (.cst (.int 2))) (.ret (.meth (.var 0) "to" (.cons (.var 2) .nil))) .nil)
 (.ret (.ite (.cmp .eq (.var 1) (.cst (.int 3))) (.meth (.var 0) "end" .nil) (.meth (.var 0) "go" (.cons (.var 2) .nil)))))))⟩
noncomputable def jN (T TX:FK->Option Fn) (G:Str->Option W) (k:Nat):List W->HH->Option (W×HH):=BS.jj (runN T G k) (dS T TX G k) (dk T) G fj "NoMoment"
structure R12 (t:Tp) (e way:Nat) (z:Int) (d:D) (t':Tp):Prop where
 far:t'.far=if 2 < way then e else iz t e z
 s:Sm7 t t'
 bad:way < 3->NoM e z->d=.bl true
 cost:∀ m:Nat,way=1->z=m->m<=e->d=.int ((m % t'.gap:Nat):Int)
 all:way=3->d=.int e
 go:∀ m:Nat,way=4->z=m->d=.int ((min m (e - t.now):Nat):Int)
theorem qR {t:Tp}{e gv m:Nat} (I:TI t e gv) (hm:m<=e):iz t e (m:Int)=max t.far m:=by
 have:=I.run.le
 rw[iz,if_pos (by lia)]
 show max t.far (min m e)=_
 rw[Nat.min_eq_left hm]
theorem wV (P:TpP T G) (M:TpM T) (hc:T (.m "Tape" "cost")=some aR) (Y:TpY TX) (k:Nat) {n r:Nat}{t:Tp}{h:HH}{e gv:Nat} (a:TAt h n r t) (I:TI t e gv) (way:Nat) (hw:way < 5) (z:Int) (hb:big z=true) (h4:way=4->0<=z) :
 ∃ d h' r' t',jN T TX G (k+12) [.o n,.p (.int (way:Int)),.p (.int z)] h=some (.p d,h')/\Go n h r t h' r' t'/\TI t' e gv/\R12 t e way z d t':=by
 by_cases w3:way < 3
 ·have hh:way=0\/way=1\/way=2:=by lia
  by_cases q:NoM e z
  ·have key:∀ m:Str,aN m (t.fs r)=none->runN T G (k+12) (.m "Tape" m) [.o n,.p (.int z)] h=none->∀ g,dS T TX G (k+12) (.m "Tape" m) [.o n,.p (.int z)] h=some (Pe "NoMoment",g)->(m="at"/\way=0\/m="cost"/\way=1\/m="to"/\way=2)->jN T TX G (k+12) [.o n,.p (.int (way:Int)),.p (.int z)] h=some (.p (.bl true),g):=fun m h1 h2 g h3 hm=>by
    refine DJ rfl ?_
    rcases hm with ⟨rfl,rfl⟩ | ⟨rfl,rfl⟩ | ⟨rfl,rfl⟩
    ·exact sZ rfl (by simp[a.ob,h1,h2]) (by rw[xe5,xe1];simp[rsM,a.ob,h1,h3])
    ·exact AH rfl (sZ rfl (by simp[a.ob,h1,h2]) (by rw[xe1];simp[rsM,a.ob,h1,h3]))
    ·exact AH rfl (AH rfl (sZ rfl (by simp[a.ob,h1,h2]) (by rw[xe1];simp[rsM,a.ob,h1,h3])))
   have fr:∀ {x:Nat},x=iz t e z->x=if 2 < way then e else iz t e z:=fun {x} q=>by rw[if_neg (by lia)];exact q
   have cx:=jq P (k+1) a I z q
   obtain ⟨h',r',t',b,g,I',s,f⟩:=AI P Y.x (k+1) a I z q hb
   have R:R12 t e way z (.bl true) t':=⟨fr f,s.s7,fun _ _=>rfl,fun m _ hz hm=>absurd q (by subst hz;unfold NoM;lia),fun z=>by lia,fun m z=>by lia⟩
   rcases hh with rfl | rfl | rfl
   ·exact ⟨_,h',r',t',key "at" (KS t r) (K0 P (k+1) a I z q) h' (by rw[kI Y.x.at_ rfl];simp[qP,xs2,xs4,xe1,rsM,a.ob,dN,cx,b]) (.inl ⟨rfl,rfl⟩),g,I',R⟩
   ·exact ⟨_,h',r',t',key "cost" (AG t r) (DI P hc (k+1) a I z q) h' (by rw[kI Y.cost rfl];simp[jr,xs2,xs4,xe1,rsM,a.ob,dN,cx,b]) (.inr (.inl ⟨rfl,rfl⟩)),g,I',R⟩
   ·exact ⟨_,h',r',t',key "to" (KW t r) (K1 P M (k+1) a I z q) h' (by rw[kI Y.to rfl];simp[qQ,xs2,xs4,xe1,rsM,a.ob,dN,cx,b]) (.inr (.inr ⟨rfl,rfl⟩)),g,I',R⟩
  ·obtain ⟨m,rfl⟩:∃ m:Nat,z=(m:Int):=⟨z.toNat,by unfold NoM at q;lia⟩
   have hm:m<=e:=by unfold NoM at q;lia
   have fz:=qR I hm
   have fr:∀ {x:Nat},x=max t.far m->x=if 2 < way then e else iz t e (m:Int):=fun {x} q=>by rw[if_neg (by lia),fz];exact q
   rcases hh with rfl | rfl | rfl
   ·obtain ⟨h',r',t',b,g,I',s,f⟩:=Hf P (k+1) a I m hm
    exact ⟨.int (itr t.p t.asked m).row,h',r',t',jt rfl (sM rfl (by simp[a.ob,KS,b,St.enc])) (cB g _),g,I',fr f,s.s7,fun _ z=>absurd z q,fun _ z=>by lia,fun z=>by lia,fun _ z=>by lia⟩
   ·obtain ⟨h',r',t',b,g,I',s,f⟩:=Ho P hc (k+1) a I m hm
    exact ⟨_,h',r',t',jt rfl ((iE rfl).trans (sM rfl (by simp[-Ug,a.ob,AG,b];rfl))) (cB g _),g,I',fr f,s.s7,fun _ z=>absurd z q,fun m' _ z _=>(by rw[show m=m' by lia]),fun z=>by lia,fun _ z=>by lia⟩
   ·obtain ⟨h',r',t',b,g,I',s,_,f⟩:=Hg P M (k+1) a I m hm
    exact ⟨_,h',r',t',jt rfl ((iE rfl).trans ((iE rfl).trans (sM rfl (by simp[a.ob,KW,b];rfl)))) (cB g _),g,I',fr f,s,fun _ z=>absurd z q,fun _ z=>by lia,fun z=>by lia,fun _ z=>by lia⟩
 ·have hh:way=3\/way=4:=by lia
  rcases hh with rfl | rfl
  ·obtain ⟨h',r',t',b,g,I',s,f⟩:=u5 P M (k+3) a I
   exact ⟨_,h',r',t',jt rfl ((iE rfl).trans ((iE rfl).trans ((iE rfl).trans (oU ((KY rfl).trans (by simp[a.ob,EB,b])))))) (cB g _),g,I',f,s.s7,fun z=>by lia,fun _ z=>by lia,fun _=>rfl,fun _ z=>by lia⟩
  ·obtain ⟨m,rfl⟩:∃ m:Nat,z=(m:Int):=⟨z.toNat,by have:=h4 rfl;lia⟩
   obtain ⟨h',r',t',b,g,I',s,_,f⟩:=Hh P M (k+2) a I m
   exact ⟨_,h',r',t',jt rfl ((iE rfl).trans ((iE rfl).trans ((iE rfl).trans (oU ((KZ rfl).trans (by simp[a.ob,NT,b];rfl)))))) (cB g _),g,I',f,s,fun z=>by lia,fun _ z=>by lia,fun z=>by lia,fun m' _ z=>by
    have:m=m':=by lia
    subst this;rfl⟩
end
theorem K3 (s:Sl) (h:HH) (k:Sl->HH->Option Fl):jS (some (.nx s h)) k=k s h:=Eq.trans rfl rfl
theorem wW {x:D} (h:dok 100 x=true):d8 .eq x x=some true:=by rw[nW,if_pos (iI h),jn]
theorem qS (lo:Int) (q:Nat):upto lo (q+1)=.int lo :: upto (lo+1) q:=by
 unfold upto
 rw[Ro,Pn,Qs]
 refine congr (congrArg List.cons ?_) (QO fun i _=>?_)
 ·simp
 ·simp only[Function.comp_apply]
  congr 1
  lia
noncomputable def lmB:S:=(.set 0 (.bin .mul (.cst (.int 2)) (.var 0)))
noncomputable def lmC:E:=(.cmp .gt (.bin .fdiv (.var 1) (.var 0)) (.cst (.int 7)))
noncomputable def cK:Fn:=⟨["_law_every","_law_far"],["_law_every","_law_far"],
 (.seq (.whl lmC lmB)
 (.ret (.bi .lrng3 false (.cons (.cst (.int 0)) (.cons (.bin .add (.var 1) (.cst (.int 1))) (.cons (.var 0) .nil))))))⟩
noncomputable def bG:Fn:=⟨["self"],["self"],
 (.ret (.comp true .rng1 (.cons (.bi .len false (.cons (.fld (.var 0) "kept") .nil)) .nil) ["number"] [(0,"self")] .nil mkE))⟩
section
variable {T TX:FK->Option Fn}{G:Str->Option W}{F:FK->List W->HH->Option (W×HH)}
theorem u6 {gv J far:Nat} (g0:0 < gv*2 ^ J) (g1:gv*2 ^ J<=1000) (hf:far<=1000) (lo:far / (gv*2 ^ J)<=7) (hi:0 < J->8<=far / (gv*2 ^ J / 2)) (h:HH):∀ (q i u:Nat),i+q=J->cE (BT.ev F G lmC) (evS F G lmB) (q+1+u) [some (.p (.int ((gv*2 ^ i:Nat):Int))),some (.p (.int (far:Int)))] h=some (.nx [some (.p (.int ((gv*2 ^ J:Nat):Int))),some (.p (.int (far:Int)))] h)
 | 0,i,u,e=>by
  have:i=J:=by lia
  subst this
  have ts:BT.ev F G lmC [some (.p (.int ((gv*2 ^ i:Nat):Int))),some (.p (.int (far:Int)))] h=some (.p (.bl false),h):=by
   have d:(far:Int) / ((gv*2 ^ i:Nat):Int)=((far / (gv*2 ^ i):Nat):Int):=by simp
   have c1:(0:Int) < ((gv*2 ^ i:Nat):Int):=by lia
   have c2:((gv*2 ^ i:Nat):Int) < 1073741824:=by lia
   generalize ((gv*2 ^ i:Nat):Int)=zz at *
   have c3:¬ ((7:Int) < ((far / (gv*2 ^ i):Nat):Int)):=by lia
   generalize ((far / (gv*2 ^ i):Nat):Int)=yy at *
   simp[lmC,d,c1,c2,c3]
  rw[show 0+1+u=u+1 by lia,cE,ts,iK,n8]
 | q+1,i,u,e=>by
  have dv:far / (gv*2 ^ J / 2)<=far / (gv*2 ^ i):=by
   refine Nat.div_le_div_left ?_ ?_
   ·have:gv*2 ^ J=gv*2 ^ (J - 1)*2:=by rw[Tz,← U7,show (J - 1).succ=J by lia]
    rw[this,R6 _ (by decide)]
    exact VA _ (Vf (by decide) (by lia))
   ·exact Nat.mul_pos (So g0) (Nat.pow_pos (by decide))
  have le:gv*2 ^ i<=gv*2 ^ J:=VA _ (Vf (by decide) (by lia))
  have gp:0 < gv*2 ^ i:=Nat.mul_pos (So g0) (Nat.pow_pos (by decide))
  have h8:=hi (by lia)
  have ts:BT.ev F G lmC [some (.p (.int ((gv*2 ^ i:Nat):Int))),some (.p (.int (far:Int)))] h=some (.p (.bl true),h):=by
   have d:(far:Int) / ((gv*2 ^ i:Nat):Int)=((far / (gv*2 ^ i):Nat):Int):=by simp
   have c1:(0:Int) < ((gv*2 ^ i:Nat):Int):=by lia
   have c2:((gv*2 ^ i:Nat):Int) < 1073741824:=by lia
   generalize ((gv*2 ^ i:Nat):Int)=zz at *
   have c3:((7:Int) < ((far / (gv*2 ^ i):Nat):Int)):=by lia
   generalize ((far / (gv*2 ^ i):Nat):Int)=yy at *
   simp[lmC,d,c1,c2,c3]
  have bd:evS F G lmB [some (.p (.int ((gv*2 ^ i:Nat):Int))),some (.p (.int (far:Int)))] h=some (.nx [some (.p (.int ((gv*2 ^ (i+1):Nat):Int))),some (.p (.int (far:Int)))] h):=by
   have z:(2:Int)*((gv*2 ^ i:Nat):Int)=((gv*2 ^ (i+1):Nat):Int):=by rw[U7,← Tz];lia
   have b2:big 2=true:=by decide
   generalize ((gv*2 ^ i:Nat):Int)=zz at *
   generalize ((gv*2 ^ (i+1):Nat):Int)=yy at *
   simp[lmB,z,b2]
  rw[show q+1+1+u=(q+1+u)+1 by lia,cE,ts,iK,kZ,bd,gC]
  exact u6 g0 g1 hf lo hi h q (i+1) u (by lia)
theorem tw {g far:Nat} (g0:0 < g) (g1:g<=1000) (hf:far<=1000):biD .lrng3 [.int 0,.int ((far:Int)+1),.int (g:Int)]=some (.lst (aQ g 0 (far / g+1))):=by
 rw[mY,if_pos (by simp;lia)]
 have sn:gx 0 ((far:Int)+1) (g:Int)=far / g+1:=by
  unfold gx
  rw[if_pos (by lia)]
  have:((far:Int)+1 - 0 - 1) / (g:Int)=((far / g:Nat):Int):=by rw[show (far:Int)+1 - 0 - 1=(far:Int) by lia];simp
  rw[this];lia
 rw[sn]
 unfold stepI aQ
 rw[Qs]
 congr 2
 apply QO
 intro i _
 simp
theorem jZ (hm:T "_law_marks"=some cK) (k:Nat) {t:Tp}{e gv:Nat} (I:TI t e gv) (h:HH) :
 runN T G (k+1) "_law_marks" [.p (.int (gv:Int)),.p (.int (t.far:Int))] h=some (.p (.lst (aQ t.gap 0 (t.far / t.gap+1))),h):=by
 obtain ⟨J,e1,h1⟩:=I.pw
 have g0:=I.g0
 have g1:=I.g1
 have m1:=I.m1
 have le:=I.run.le
 have fr:=I.far
 have l8:=I.l8
 have len:=I.len
 have jl:J < 1000:=by
  have:J < 2 ^ J:=Nat.lt_two_pow_self
  have:2 ^ J<=gv*2 ^ J:=Nat.le_mul_of_pos_left _ (So (by rw[← e1];exact g0))
  lia
 have lp:=u6 (F:=runN T G k) (G:=G) (gv:=gv) (J:=J) (far:=t.far) (by rw[← e1];exact g0) (by rw[← e1];exact g1) (by lia) (by rw[← e1];lia) (by rw[← e1];exact h1) h J 0 (100000 - J - 1) (by lia)
 rw[show J+1+(100000 - J - 1)=turns by unfold turns;lia,Nat.pow_zero,Nat.mul_one,← e1] at lp
 refine GT hm rfl ((uP (s':=[some (.p (.int (t.gap:Int))),some (.p (.int (t.far:Int)))]) (g:=h) ?_).trans (oU ?_))
 ·exact lp
 ·have b:=tw g0 g1 (show t.far<=1000 by lia)
  simp[b,c7]
theorem iV (k:Nat) {n r:Nat}{t:Tp}{h:HH}{e ev:Nat} (a:TAt h n r t) (I:TI t e ev) :
 BS.runK (runN T G k) G bG [.o n] h=some (.r h.length,h++[.l (aQ t.gap 0 (t.far / t.gap+1))]):=by
 have g1:=I.g1
 have l8:=I.l8
 have len:=I.len
 have cm:aV (dF (fun _ h=>some ([],h)) (BT.ev (runN T G k) G mkE) [some (.o n)]) 1 (upto 0 t.kept.length) h=some (aQ t.gap 0 (t.far / t.gap+1),h):=by
  rw[DG _ (fun d=>match d with | .int i=>.int (i*t.gap) | d=>d) h _ (fun d hd=>?_),len]
  ·rw[lR]
   unfold aQ
   simp
  ·obtain ⟨i,hi,rfl⟩:=lQ hd
   have bg:big (t.gap:Int)=true:=jK (by omega) (by omega)
   simp[mkE,a.ob,bg,dz]
 have rg:dQ .rng1 [.int (t.kept.length:Int)]=some (upto 0 t.kept.length):=by
  rw[cD]
  have c:((-100000<=((t.kept.length:Int)):Bool)&&((t.kept.length:Int)<=100000:Bool))=true:=by
   simp only[OY,decide_eq_true_eq];omega
  rw[if_pos c];rfl
 have ml:(aQ t.gap 0 (t.far / t.gap+1)).length<=100000:=by rw[jM];omega
 rw[BS.runK,if_pos (show [W.o n].length=bG.ps.length from rfl),bG]
 simp only[aL,Pn,QC,Po,Qe]
 simp[-cD,-dF,a.ob,a.li,rd,rg,c7,cm,ml]
noncomputable def lW:E:=(.bi .len false (.cons (.var 5) .nil))
noncomputable def Hq:S:=(.ife (.or (.cmp .gt (.var 9) (.cst (.int 2))) (.chain .le .le (.cst (.int 0)) (.var 10) (.var 3))) (.set 7 (.bi .max2 false (.cons (.var 7) (.cons (.idx (.lst false (.cons (.bi .min2 false (.cons (.var 10) (.cons (.bin .sub lW (.cst (.int 1))) .nil))) (.cons (.bin .sub lW (.cst (.int 1))) .nil))) (.bi .int false (.cons (.cmp .gt (.var 9) (.cst (.int 2))) .nil))) .nil)))) .nil)
noncomputable def Hr:E:=(.or (.cmp .ne (.meth (.var 6) "marks" .nil) (.var 13)) (.cmp .gt (.bi .len false (.cons (.var 13) .nil)) (.cst (.int 8))))
noncomputable def Hs:E:=(.and (.cmp .lt (.var 9) (.cst (.int 3))) (.and (.not (.var 14)) (.cmp .notN (.var 12) (.cst (.bl true)))))
noncomputable def Hu:E:=(.bi .maxd false (.cons (.comp false .seq (.cons (.var 13) .nil) ["_law_mark"] [(10,"_law_number")] (.cons (.cmp .le (.var 0) (.var 1)) .nil) (.var 0)) (.cons (.cst (.int 0)) .nil)))
noncomputable def Hv:E:=(.and (.cmp .eq (.var 9) (.cst (.int 1))) (.and (.var 14) (.cmp .ne (.var 12) (.bin .sub (.var 10) (.var 15)))))
noncomputable def Hw:E:=(.or (.and (.cmp .eq (.var 9) (.cst (.int 3))) (.cmp .ne (.var 12) (.bin .sub lW (.cst (.int 1))))) (.and (.cmp .eq (.var 9) (.cst (.int 4))) (.cmp .ne (.var 12) (.bi .min2 false (.cons (.var 10) (.cons (.bin .sub (.bin .sub lW (.cst (.int 1))) (.var 11)) .nil))))))
noncomputable def Hx:S:=(.ife (.cmp .eq (.var 9) (.cst (.int 4))) (.set 10 (.bi .abs false (.cons (.var 10) .nil))) .nil)
noncomputable def qT:S:=(.seq (.set 9 (.call "_law_drawn" (.cons (.var 0) (.cons (.bin .add (.cst (.int 500)) (.bin .mul (.cst (.int 3)) (.var 8))) (.cons (.cst (.int 5)) .nil)))))
 (.seq (.set 10 (.bin .sub (.call "_law_drawn" (.cons (.var 0) (.cons (.bin .add (.cst (.int 501)) (.bin .mul (.cst (.int 3)) (.var 8))) (.cons (.cst (.int 46)) .nil)))) (.cst (.int 2))))
 (.seq Hx
 (.seq (.set 11 (.meth (.var 6) "moment" .nil))
 (.seq Hq
 (.seq (.set 12 (.call "_law_told" (.cons (.var 6) (.cons (.var 9) (.cons (.var 10) .nil)))))
 (.seq (.set 13 (.call "_law_marks" (.cons (.var 4) (.cons (.var 7) .nil))))
 (.seq (.ife Hr (.ret (.cst (.bl false))) .nil)
 (.seq (.set 14 (.chain .le .lt (.cst (.int 0)) (.var 10) lW))
 (.seq (.ife Hs (.ret (.cst (.bl false))) .nil)
 (.seq (.set 15 Hu)
 (.seq (.ife Hv (.ret (.cst (.bl false))) .nil)
 (.ife Hw (.ret (.cst (.bl false))) .nil)))))))))))))
section
variable {w0 w1 w2:W}{du:D}{mo gv far e:Nat}{h:HH}{x8 x9 x10 x11 x12 x13 x14 x15:Option W}
noncomputable def aG (w0 w1 w2:W) (mo gv:Nat) (du:D) (far:Nat) (x8 x9 x10 x11 x12 x13 x14 x15:Option W):Sl :=
 [some w0,some w1,some w2,some (.p (.int (mo:Int))),some (.p (.int (gv:Int))),some (.p du),some (.o 0),some (.p (.int (far:Int))),x8,x9,x10,x11,x12,x13,x14,x15]
theorem tE {c:E}{a b:S}{s:Sl}{h g:HH} (h1:BT.ev F G c s h=some (.p (.bl false),g)):evS F G (.seq (.ife c a .nil) b) s h=evS F G b s g:=by simp[h1]
theorem o7 (hd:biD .len [du]=some (.int ((e:Int)+1))):BT.ev F G lW (aG w0 w1 w2 mo gv du far x8 x9 x10 x11 x12 x13 x14 x15) h=some (.p (.int ((e:Int)+1)),h):=by
 simp[-mX,-jD,lW,aG,hd,c7]
theorem K4 (hd:biD .len [du]=some (.int ((e:Int)+1))) {t:Tp} (hf:t.far=far) (hm:t.most=mo) (le:far<=e) (way:Nat) (hw:way < 5) (z:Int) :
 evS F G Hq (aG w0 w1 w2 mo gv du far x8 (some (.p (.int (way:Int)))) (some (.p (.int z))) x11 x12 x13 x14 x15) h=some (.nx (aG w0 w1 w2 mo gv du (if 2 < way then e else iz t e z) x8 (some (.p (.int (way:Int)))) (some (.p (.int z))) x11 x12 x13 x14 x15) h):=by
 have ln:=o7 (F:=F) (G:=G) (w0:=w0) (w1:=w1) (w2:=w2) (mo:=mo) (gv:=gv) (far:=far) (h:=h) (x8:=x8) (x9:=some (.p (.int (way:Int)))) (x10:=some (.p (.int z))) (x11:=x11) (x12:=x12) (x13:=x13) (x14:=x14) (x15:=x15) hd
 rw[Hq]
 generalize lW=kd at *
 rw[aG] at ln
 by_cases c:2 < way
 ·have c1:(2:Int) < (way:Int):=by lia
  have c2:(if (e:Int) > (far:Int) then (e:Int) else (far:Int))=(e:Int):=by split<;>lia
  have e1:(e:Int)+1 - 1=(e:Int):=by lia
  have ix:∀ y:D,aX (.lst [y,.int (e:Int)]) (.int 1)=some (.int (e:Int)):=fun y=>rfl
  rw[if_pos c,aG,aG]
  simp[-bT,ln,c1,e1,ix,c7]
  intro z;lia
 ·have c1:¬ (2:Int) < (way:Int):=by lia
  rw[if_neg c]
  by_cases q:0<=z/\z<=(mo:Int)
  ·have e1:(e:Int)+1 - 1=(e:Int):=by lia
   have ix:∀ y y2:D,aX (.lst [y,y2]) (.int 0)=some y:=fun y y2=>rfl
   have fz:iz t e z=max far (min z.toNat e):=by rw[iz,hm,if_pos q,hf]
   have c2:(if (if (e:Int) < z then (e:Int) else z) > (far:Int) then (if (e:Int) < z then (e:Int) else z) else (far:Int))=((max far (min z.toNat e):Nat):Int):=by
    by_cases a:(e:Int) < z
    ·rw[if_pos a];split<;>lia
    ·rw[if_neg a];split<;>lia
   rw[fz,aG,aG]
   simp[-bT,ln,c1,q.1,q.2,e1,ix,c7]
   exact c2
  ·have fz:iz t e z=far:=by rw[iz,hm,if_neg q,hf]
   rw[fz,aG]
   by_cases z0:0<=z
   ·have:¬ z<=(mo:Int):=by lia
    simp[c1,z0,this]
   ·simp[c1,z0]
theorem k12_m {ms:List D} (hF:F (.m "Tape" "marks") [.o 0] h=some (.r h.length,h++[.l ms])) {t:Tp}{r:Nat} (a:TAt h 0 r t) (dk:dok 100 (.lst ms)=true) (l8:ms.length<=8) :
 BT.ev F G Hr (aG w0 w1 w2 mo gv du far x8 x9 x10 x11 x12 (some (.p (.lst ms))) x14 x15) h=some (.p (.bl false),h++[.l ms]):=by
 have ok:=ne_self dk
 have la:lat (h++[.l ms]) h.length=some ms:=by simp[lat]
 have c:¬ (8:Int) < (ms.length:Int):=by lia
 rw[Hr,aG]
 simp[-nX,a.ob,o6,hF,rd,la,ok,c,c7]
theorem K5 {way:Nat} (hw:way < 5) {z:Int}{d:D} (b:Bool) (hb:b=decide (0<=z/\z<=(e:Int))) (bad:way < 3->NoM e z->d=.bl true) :
 BT.ev F G Hs (aG w0 w1 w2 mo gv du far x8 (some (.p (.int (way:Int)))) x10 x11 (some (.p d)) x13 (some (.p (.bl b))) x15) h=some (.p (.bl false),h):=by
 rw[Hs,aG]
 by_cases c:way < 3
 ·have c1:(way:Int) < 3:=by lia
  cases b with
  | true=>simp[c1]
  | false =>
   have q:=of_decide_eq_false hb.symm
   rw[bad c (by unfold NoM;lia)]
   simp[c1]
 ·have c1:¬ (way:Int) < 3:=by lia
  simp[c1]
theorem nI (g:Nat) (z:Int) (f:List D->HH->Option (Option D×HH)) (h:HH) (hf:∀ i:Int,f [.int i] h=some (if i<=z then some (.int i) else none,h)):∀ (n a:Nat),aV f 1 (aQ g a n) h=some (((QF a n).filter fun i=>decide (((i*g:Nat):Int)<=z)).map fun i=>.int ((i*g:Nat):Int),h)
 | 0,a=>rfl
 | n+1,a=>by
  rw[sY,aV,gA]
  have e1:=hf ((a*g:Nat):Int)
  have e2:=nI g z f h hf n (a+1)
  show bnd (f [.int ((a*g:Nat):Int)] h) (BI (aV f 1 (aQ g (a+1) n)))=_
  rw[e1,bX,BJ,e2,bX,T9,List.filter_cons]
  by_cases c:((a*g:Nat):Int)<=z
  ·rw[if_pos c,decide_eq_true c,if_pos rfl];rfl
  ·rw[if_neg c,decide_eq_false c,if_neg (by decide)];rfl
theorem tF (g:Nat) (l:List Nat):intsOf (l.map fun i=>D.int ((i*g:Nat):Int))=some (l.map fun i=>((i*g:Nat):Int)):=by
 induction l with
 | nil=>rfl
 | cons a r ih=>rw[Pn,intsOf,ih];rfl
theorem AJ {F:FK->List W->HH->Option (W×HH)}{G:Str->Option W}{sr:Sr}{sa:Es}{tg:List Str}{fv:List (Nat×Str)}{cond:Es}{elt:E}{s:Sl}{h h1 h2:HH}{ws:List W}{ds xs:List D}{fs:Sl} (e1:evs F G sa s h=some (ws,h1)) (e2:(rds ws h1).bind (dQ sr)=some ds) (e3:frees s fv=some fs) (e4:c7 ws=true) (e5:aV (dF (evs F G cond) (BT.ev F G elt) fs) tg.length ds h1=some (xs,h2)) (e6:xs.length<=100000):BT.ev F G (.comp false sr sa tg fv cond elt) s h=some (.p (.lst xs),h2):=by
 rw[BT.ev,e1,bX]
 unfold m8
 rw[e2,e3]
 show (if c7 ws=true then _ else _)=_
 rw[if_pos e4,e5,bX]
 unfold fD
 rw[if_pos (show xs.length<=lim from e6)];rfl
theorem K6 {g:Nat} (g0:0 < g) (far':Nat) (hf:far'<=1000) (z:Int) :
 ∃ L:Int,BT.ev F G Hu (aG w0 w1 w2 mo gv du far x8 x9 (some (.p (.int z))) x11 x12 (some (.p (.lst (aQ g 0 (far' / g+1))))) x14 x15) h=some (.p (.int L),h)/\∀ m:Nat,z=m->m<=far'->L=((m / g*g:Nat):Int):=by
 have cm:aV (dF (evs F G (.cons (.cmp .le (.var 0) (.var 1)) .nil)) (BT.ev F G (.var 0)) [some (.p (.int z))]) 1 (aQ g 0 (far' / g+1)) h=some (((QF 0 (far' / g+1)).filter fun i=>decide (((i*g:Nat):Int)<=z)).map fun i=>.int ((i*g:Nat):Int),h):=by
  refine nI g z _ h (fun i=>?_) _ 0
  by_cases c:i<=z
  ·simp[dF,c,dz]
  ·simp[dF,c,dz]
 have dl:far' / g<=far':=Nat.div_le_self _ _
 have ln:(((QF 0 (far' / g+1)).filter fun i=>decide (((i*g:Nat):Int)<=z)).map fun i=>D.int ((i*g:Nat):Int)).length<=lim:=by
  rw[Pr]
  have:=List.length_filter_le (fun i=>decide (((i*g:Nat):Int)<=z)) (QF 0 (far' / g+1))
  rw[List.length_range'] at this
  show _<=100000
  lia
 have bm:biD .maxd [.lst (((QF 0 (far' / g+1)).filter fun i=>decide (((i*g:Nat):Int)<=z)).map fun i=>D.int ((i*g:Nat):Int)),.int 0]=some (.int ((nU (((QF 0 (far' / g+1)).filter fun i=>decide (((i*g:Nat):Int)<=z)).map fun i=>((i*g:Nat):Int))).getD 0)):=by
  rw[pZ,tF];rfl
 obtain ⟨L,hv⟩:∃ L:Int,L=(nU (((QF 0 (far' / g+1)).filter fun i=>decide (((i*g:Nat):Int)<=z)).map fun i=>((i*g:Nat):Int))).getD 0:=⟨_,rfl⟩
 rw[← hv] at bm
 refine ⟨L,?_,fun m hm le=>?_⟩
 ·clear hv
  rw[Hu,aG]
  generalize (((QF 0 (far' / g+1)).filter fun i=>decide (((i*g:Nat):Int)<=z)).map fun i=>D.int ((i*g:Nat):Int))=LL at *
  generalize aQ g 0 (far' / g+1)=MM at *
  have ln':LL.length<=100000:=ln
  have cp:=AJ (F:=F) (G:=G) (sr:=.seq) (sa:=.cons (.var 13) .nil) (tg:=["_law_mark"]) (fv:=[(10,"_law_number")]) (cond:=.cons (.cmp .le (.var 0) (.var 1)) .nil) (elt:=.var 0) (s:=[some w0,some w1,some w2,some (.p (.int (mo:Int))),some (.p (.int (gv:Int))),some (.p du),some (.o 0),some (.p (.int (far:Int))),x8,x9,some (.p (.int z)),x11,x12,some (.p (.lst MM)),x14,x15]) (h:=h) (ws:=[.p (.lst MM)]) (ds:=MM) (fs:=[some (.p (.int z))]) rfl rfl rfl rfl cm ln'
  rw[BT.ev,evs,cp,bX]
  simp[bm]
 ·subst hm
  rw[hv]
  generalize hl:((QF 0 (far' / g+1)).filter fun i=>decide (((i*g:Nat):Int)<=(m:Int))).map (fun i=>((i*g:Nat):Int))=l
  have mem:((m / g*g:Nat):Int)∈l:=by
   rw[← hl]
   refine List.mem_map.mpr ⟨m / g,List.mem_filter.mpr ⟨?_,?_⟩,rfl⟩
   ·rw[List.mem_range']
    exact ⟨m / g,by have:=SR (c:=g) le;lia,by lia⟩
   ·have:=Nat.div_mul_le_self m g
    exact decide_eq_true (by lia)
  cases gm:nU l with
  | none =>
   cases l with
   | nil=>simp at mem
   | cons _ _=>cases gm
  | some M =>
   obtain ⟨s1,s2⟩:=mZ gm
   show M=_
   refine Int.le_antisymm ?_ (s2 _ mem)
   rw[← hl] at s1
   obtain ⟨i,hi,rfl⟩:=List.mem_map.mp s1
   have:=of_decide_eq_true (List.mem_filter.mp hi).2
   have:i<=m / g:=(Nat.le_div_iff_mul_le g0).mpr (by lia)
   have:=Nat.mul_le_mul_right g this
   lia
theorem K7 {way:Nat} (hw:way < 5) {z L:Int}{d:D}{g far':Nat} (b:Bool) (hb:b=decide (0<=z/\z<=(e:Int))) (cost:∀ m:Nat,way=1->z=m->m<=e->d=.int ((m % g:Nat):Int)) (hL:∀ m:Nat,z=m->m<=far'->L=((m / g*g:Nat):Int)) (hf:∀ m:Nat,way=1->z=m->m<=e->m<=far') :
 BT.ev F G Hv (aG w0 w1 w2 mo gv du far x8 (some (.p (.int (way:Int)))) (some (.p (.int z))) x11 (some (.p d)) x13 (some (.p (.bl b))) (some (.p (.int L)))) h=some (.p (.bl false),h):=by
 rw[Hv,aG]
 by_cases c:way=1
 ·subst c
  cases b with
  | false=>simp
  | true =>
   have q:=of_decide_eq_true hb.symm
   obtain ⟨m,rfl⟩:∃ m:Nat,z=(m:Int):=⟨z.toNat,by lia⟩
   rw[cost m rfl rfl (by lia),hL m rfl (hf m rfl rfl (by lia))]
   have:(m:Int) - ((m / g*g:Nat):Int)=((m % g:Nat):Int):=by
    have:=SN m g
    rw[Q3] at this
    lia
   generalize ((m / g*g:Nat):Int)=yy at *
   generalize ((m % g:Nat):Int)=zz at *
   simp[this]
 ·have c1:((way:Int)==1)=false:=by simp;lia
  simp[c1]
theorem K8 (hd:biD .len [du]=some (.int ((e:Int)+1))) {way:Nat} (hw:way < 5) {z:Int}{d:D}{now:Nat} (hn:now<=e) (all:way=3->d=.int e) (go:∀ m:Nat,way=4->z=m->d=.int ((min m (e - now):Nat):Int)) (h4:way=4->0<=z) :
 BT.ev F G Hw (aG w0 w1 w2 mo gv du far x8 (some (.p (.int (way:Int)))) (some (.p (.int z))) (some (.p (.int (now:Int)))) (some (.p d)) x13 x14 x15) h=some (.p (.bl false),h):=by
 have ln:=o7 (F:=F) (G:=G) (w0:=w0) (w1:=w1) (w2:=w2) (mo:=mo) (gv:=gv) (far:=far) (h:=h) (x8:=x8) (x9:=some (.p (.int (way:Int)))) (x10:=some (.p (.int z))) (x11:=some (.p (.int (now:Int)))) (x12:=some (.p d)) (x13:=x13) (x14:=x14) (x15:=x15) hd
 have e1:(e:Int)+1 - 1=(e:Int):=by lia
 rw[Hw]
 generalize lW=kd at *
 rw[aG] at ln ⊢
 by_cases c3:way=3
 ·have c1:((way:Int)==3)=true:=by simp;lia
  have c2:((way:Int)==4)=false:=by simp;lia
  rw[all c3] at ln ⊢
  simp[ln,e1,c1,c2]
 ·have c1:((way:Int)==3)=false:=by simp;lia
  by_cases c4:way=4
  ·have c2:((way:Int)==4)=true:=by simp;lia
   obtain ⟨m,rfl⟩:∃ m:Nat,z=(m:Int):=⟨z.toNat,by have:=h4 c4;lia⟩
   have mi:(if (e:Int) - (now:Int) < (m:Int) then (e:Int) - (now:Int) else (m:Int))=((min m (e - now):Nat):Int):=by split<;>lia
   rw[go m c4 rfl] at ln ⊢
   generalize ((min m (e - now):Nat):Int)=yy at *
   simp[ln,e1,mi,c1,c2,c7]
  ·have c2:((way:Int)==4)=false:=by simp;lia
   simp[c1,c2]
theorem K9 {ex:E}{b:S}{w:W}{g:HH} (h1:BT.ev F G ex (aG w0 w1 w2 mo gv du far x8 x9 x10 x11 x12 x13 x14 x15) h=some (w,g)):evS F G (.seq (.set 9 ex) b) (aG w0 w1 w2 mo gv du far x8 x9 x10 x11 x12 x13 x14 x15) h=evS F G b (aG w0 w1 w2 mo gv du far x8 (some w) x10 x11 x12 x13 x14 x15) g:=iT h1
theorem Hy {ex:E}{b:S}{w:W}{g:HH} (h1:BT.ev F G ex (aG w0 w1 w2 mo gv du far x8 x9 x10 x11 x12 x13 x14 x15) h=some (w,g)):evS F G (.seq (.set 10 ex) b) (aG w0 w1 w2 mo gv du far x8 x9 x10 x11 x12 x13 x14 x15) h=evS F G b (aG w0 w1 w2 mo gv du far x8 x9 (some w) x11 x12 x13 x14 x15) g:=iT h1
theorem Hz {ex:E}{b:S}{w:W}{g:HH} (h1:BT.ev F G ex (aG w0 w1 w2 mo gv du far x8 x9 x10 x11 x12 x13 x14 x15) h=some (w,g)):evS F G (.seq (.set 11 ex) b) (aG w0 w1 w2 mo gv du far x8 x9 x10 x11 x12 x13 x14 x15) h=evS F G b (aG w0 w1 w2 mo gv du far x8 x9 x10 (some w) x12 x13 x14 x15) g:=iT h1
theorem HA {ex:E}{b:S}{w:W}{g:HH} (h1:BT.ev F G ex (aG w0 w1 w2 mo gv du far x8 x9 x10 x11 x12 x13 x14 x15) h=some (w,g)):evS F G (.seq (.set 12 ex) b) (aG w0 w1 w2 mo gv du far x8 x9 x10 x11 x12 x13 x14 x15) h=evS F G b (aG w0 w1 w2 mo gv du far x8 x9 x10 x11 (some w) x13 x14 x15) g:=iT h1
theorem HB {ex:E}{b:S}{w:W}{g:HH} (h1:BT.ev F G ex (aG w0 w1 w2 mo gv du far x8 x9 x10 x11 x12 x13 x14 x15) h=some (w,g)):evS F G (.seq (.set 13 ex) b) (aG w0 w1 w2 mo gv du far x8 x9 x10 x11 x12 x13 x14 x15) h=evS F G b (aG w0 w1 w2 mo gv du far x8 x9 x10 x11 x12 (some w) x14 x15) g:=iT h1
theorem HC {ex:E}{b:S}{w:W}{g:HH} (h1:BT.ev F G ex (aG w0 w1 w2 mo gv du far x8 x9 x10 x11 x12 x13 x14 x15) h=some (w,g)):evS F G (.seq (.set 14 ex) b) (aG w0 w1 w2 mo gv du far x8 x9 x10 x11 x12 x13 x14 x15) h=evS F G b (aG w0 w1 w2 mo gv du far x8 x9 x10 x11 x12 x13 (some w) x15) g:=iT h1
theorem HD {ex:E}{b:S}{w:W}{g:HH} (h1:BT.ev F G ex (aG w0 w1 w2 mo gv du far x8 x9 x10 x11 x12 x13 x14 x15) h=some (w,g)):evS F G (.seq (.set 15 ex) b) (aG w0 w1 w2 mo gv du far x8 x9 x10 x11 x12 x13 x14 x15) h=evS F G b (aG w0 w1 w2 mo gv du far x8 x9 x10 x11 x12 x13 x14 (some w)) g:=iT h1
theorem La (hd:biD .len [du]=some (.int ((e:Int)+1))) {z:Int}:BT.ev F G (.chain .le .lt (.cst (.int 0)) (.var 10) lW) (aG w0 w1 w2 mo gv du far x8 x9 (some (.p (.int z))) x11 x12 x13 x14 x15) h=some (.p (.bl (decide (0<=z/\z<=(e:Int)))),h):=by
 have ln:=o7 (F:=F) (G:=G) (w0:=w0) (w1:=w1) (w2:=w2) (mo:=mo) (gv:=gv) (far:=far) (h:=h) (x8:=x8) (x9:=x9) (x10:=some (.p (.int z))) (x11:=x11) (x12:=x12) (x13:=x13) (x14:=x14) (x15:=x15) hd
 generalize lW=kd at *
 rw[aG] at ln ⊢
 by_cases c:0<=z
 ·have c1:decide (0<=z/\z<=(e:Int))=decide (z < (e:Int)+1):=by
   apply decide_eq_decide.mpr;lia
  rw[c1]
  simp[ln,c]
 ·have c1:decide (0<=z/\z<=(e:Int))=false:=decide_eq_false (by lia)
  rw[c1]
  simp[c]
theorem Lb {way:Nat}{z:Int}:evS F G Hx (aG w0 w1 w2 mo gv du far x8 (some (.p (.int (way:Int)))) (some (.p (.int z))) x11 x12 x13 x14 x15) h=some (.nx (aG w0 w1 w2 mo gv du far x8 (some (.p (.int (way:Int)))) (some (.p (.int (if way=4 then (if z < 0 then -z else z) else z)))) x11 x12 x13 x14 x15) h):=by
 rw[Hx,aG,aG]
 by_cases c:way=4
 ·have c1:((way:Int)==4)=true:=by simp;lia
  rw[if_pos c]
  simp[c1,c7]
 ·have c1:((way:Int)==4)=false:=by simp;lia
  rw[if_neg c]
  simp[c1]
end
structure A12 (h:HH) (r:Nat) (t:Tp) (e gv mo far:Nat):Prop where
 a:TAt h 0 r t
 i:TI t e gv
 m:t.most=mo
 f:t.far=far
structure AK (T TX:FK->Option Fn):Prop where
 lw:Lw T
 program:T "_law_program"=some bN
 states:T "states"=some fK
 marks:T "_law_marks"=some cK
 m:TpM T
 cost:T (.m "Tape" "cost")=some aR
 y:TpY TX
structure F12 (T TX:FK->Option Fn) (G:Str->Option W) (k:Nat) (F:FK->List W->HH->Option (W×HH)):Prop where
 moment:F (.m "Tape" "moment")=runN T G (k+13) (.m "Tape" "moment")
 init:F (.m "Tape" "__init__")=runN T G (k+13) (.m "Tape" "__init__")
 fn:∀ y:Str,¬ y="_law_told"->F (.f y)=runN T G (k+13) (.f y)
 told:F (.f "_law_told")=jN T TX G (k+12)
 marks:F (.m "Tape" "marks")=BS.runK (runN T G (k+12)) G bG
theorem AL (P:TpP T G) (L:AK T TX) {k:Nat} (Y:F12 T TX G k F) (ns:List Int) (hl:ns.length<=1000) {w1 w2:W}{du:D}{mo gv far e:Nat}{h:HH}{x9 x10 x11 x12 x13 x14 x15:Option W}{r:Nat}{t:Tp} (hd:biD .len [du]=some (.int ((e:Int)+1))) (A:A12 h r t e gv mo far) (q:Nat) :
 ∃ far' y9 y10 y11 y12 y13 y14 y15 h' r' t',evS F G qT (aG (.p (.lst (ah ns))) w1 w2 mo gv du far (some (.p (.int (q:Int)))) x9 x10 x11 x12 x13 x14 x15) h=some (.nx (aG (.p (.lst (ah ns))) w1 w2 mo gv du far' (some (.p (.int (q:Int)))) y9 y10 y11 y12 y13 y14 y15) h')/\A12 h' r' t' e gv mo far':=by
 have b3:big 3=true:=by decide
 obtain ⟨way,hw,b9⟩:∃ way:Nat,way < 5/\∀ h,F "_law_drawn" [.p (.lst (ah ns)),.p (.int (500+3*(q:Int))),.p (.int 5)] h=some (.p (.int (way:Int)),h):=by
  have h0:=bH ns (500+3*(q:Int)) (show (0:Int) < 5 by decide)
  have h1:=bI ns (500+3*(q:Int)) (show (0:Int) < 5 by decide)
  refine ⟨(drw ns (500+3*(q:Int)) 5).toNat,by lia,fun h=>?_⟩
  rw[Y.fn _ (by decide),bF L.lw (k+11) ns hl _ _ (by decide) h,VE h0]
 obtain ⟨z0,z1,z2,b10⟩:∃ z:Int,0<=z/\z < 46/\∀ h,F "_law_drawn" [.p (.lst (ah ns)),.p (.int (501+3*(q:Int))),.p (.int 46)] h=some (.p (.int z),h) :=
  ⟨_,bH ns (501+3*(q:Int)) (by decide),bI ns (501+3*(q:Int)) (by decide),fun h=>by rw[Y.fn _ (by decide),bF L.lw (k+11) ns hl _ _ (by decide) h]⟩
 obtain ⟨z,hz⟩:∃ z:Int,z=(if way=4 then (if z0 - 2 < 0 then -(z0 - 2) else z0 - 2) else z0 - 2):=⟨_,rfl⟩
 have zb:-2<=z/\z<=43/\(way=4->0<=z):=by
  subst hz
  by_cases c:way=4
  ·rw[if_pos c];split<;>lia
  ·rw[if_neg c];lia
 have bz:big z=true:=by simp[big];lia
 have fe:far<=e:=by rw[← A.f];exact A.i.far
 obtain ⟨d,h1,r1,t1,b12,g,I1,R⟩:=wV P L.m L.cost L.y k A.a A.i way hw z bz zb.2.2
 obtain ⟨far',hf'⟩:∃ f:Nat,f=if 2 < way then e else iz t e z:=⟨_,rfl⟩
 have f1:t1.far=far':=by rw[R.far,← hf']
 have le:=I1.run.le
 have m1:=I1.m1
 have fr1:=I1.far
 have bm:=jZ (G:=G) L.marks (k+12) I1 h1
 rw[f1] at bm
 have bk:=iV (T:=T) (G:=G) (k+12) g.b I1
 rw[f1,← Y.marks] at bk
 have l8:(aQ t1.gap 0 (far' / t1.gap+1)).length<=8:=by rw[jM,← f1,← I1.len];exact I1.l8
 obtain ⟨Lz,bl,hL⟩:=K6 (F:=F) (G:=G) (w0:=.p (.lst (ah ns))) (w1:=w1) (w2:=w2) (mo:=mo) (gv:=gv) (du:=du) (far:=far') (h:=h1++[.l (aQ t1.gap 0 (far' / t1.gap+1))]) (x8:=some (.p (.int (q:Int)))) (x9:=some (.p (.int (way:Int)))) (x11:=some (.p (.int (t.now:Int)))) (x12:=some (.p d)) (x14:=some (.p (.bl (decide (0<=z/\z<=(e:Int)))))) (x15:=x15) I1.g0 far' (by lia) z
 have hm1:∀ m:Nat,way=1->z=m->m<=e->m<=far':=fun m w zm hm=>by
  rw[hf',if_neg (by lia),zm,qR A.i hm];lia
 refine ⟨far',some (.p (.int (way:Int))),some (.p (.int z)),some (.p (.int (t.now:Int))),some (.p d),some (.p (.lst (aQ t1.gap 0 (far' / t1.gap+1)))),some (.p (.bl (decide (0<=z/\z<=(e:Int))))),some (.p (.int Lz)),h1++[.l (aQ t1.gap 0 (far' / t1.gap+1))],r1,t1,?_,⟨g.b.app,I1,R.s.most.trans A.m,f1⟩⟩
 rw[qT]
 refine (K9 (w:=.p (.int (way:Int))) (g:=h) (by rw[aG];simp[b9,b3])).trans ?_
 refine (Hy (w:=.p (.int (z0 - 2))) (g:=h) (by rw[aG];simp[b10,b3])).trans ?_
 refine (uP Lb).trans ?_
 rw[← hz]
 refine (Hz (w:=.p (.int (t.now:Int))) (g:=h) (by rw[aG];simp[A.a.ob,AF,Y.moment,sW (G:=G) L.m (k+12) A.a])).trans ?_
 refine (uP (K4 hd A.f A.m fe way hw z)).trans ?_
 rw[← hf']
 refine (HA (w:=.p d) (g:=h1) (by rw[aG];simp[Y.told,b12])).trans ?_
 refine (HB (w:=.p (.lst (aQ t1.gap 0 (far' / t1.gap+1)))) (g:=h1) (by rw[aG];simp[Y.fn,bm])).trans ?_
 refine (tE (k12_m bk g.b (qO _ _ _) l8)).trans ?_
 refine (HC (w:=.p (.bl (decide (0<=z/\z<=(e:Int))))) (g:=h1++[.l (aQ t1.gap 0 (far' / t1.gap+1))]) ?_).trans ?_
 ·exact La hd
 refine (tE (K5 hw _ rfl R.bad)).trans ?_
 refine (HD bl).trans ?_
 refine (tE (K7 hw _ rfl R.cost hL hm1)).trans ?_
 have be:=K8 (F:=F) (G:=G) (w0:=.p (.lst (ah ns))) (w1:=w1) (w2:=w2) (mo:=mo) (gv:=gv) (far:=far') (h:=h1++[.l (aQ t1.gap 0 (far' / t1.gap+1))]) (x8:=some (.p (.int (q:Int)))) (x13:=some (.p (.lst (aQ t1.gap 0 (far' / t1.gap+1))))) (x14:=some (.p (.bl (decide (0<=z/\z<=(e:Int)))))) (x15:=some (.p (.int Lz))) hd hw (PD A.i.now A.i.far) R.all R.go zb.2.2
 generalize decide (0<=z/\z<=(e:Int))=bb at be ⊢
 simp[be]
theorem qU (P:TpP T G) (L:AK T TX) {k:Nat} (Y:F12 T TX G k F) (ns:List Int) (hl:ns.length<=1000) {w1 w2:W}{du:D}{mo gv e:Nat} (hd:biD .len [du]=some (.int ((e:Int)+1))):∀ (q lo far:Nat) (h:HH) (x8 x9 x10 x11 x12 x13 x14 x15:Option W) (r:Nat) (t:Tp),A12 h r t e gv mo far →
 ∃ far' y8 y9 y10 y11 y12 y13 y14 y15 h' r' t',fE (evS F G qT) [(8,"_law_k")] (upto (lo:Int) q) (aG (.p (.lst (ah ns))) w1 w2 mo gv du far x8 x9 x10 x11 x12 x13 x14 x15) h=some (.nx (aG (.p (.lst (ah ns))) w1 w2 mo gv du far' y8 y9 y10 y11 y12 y13 y14 y15) h')/\A12 h' r' t' e gv mo far'
 | 0,lo,far,h,x8,x9,x10,x11,x12,x13,x14,x15,r,t,A=>⟨far,x8,x9,x10,x11,x12,x13,x14,x15,h,r,t,rfl,A⟩
 | q+1,lo,far,h,x8,x9,x10,x11,x12,x13,x14,x15,r,t,A=>by
  obtain ⟨f1,y9,y10,y11,y12,y13,y14,y15,h1,r1,t1,b1,A1⟩:=AL P L Y ns hl (w1:=w1) (w2:=w2) (x9:=x9) (x10:=x10) (x11:=x11) (x12:=x12) (x13:=x13) (x14:=x14) (x15:=x15) hd A lo
  obtain ⟨f2,z8,z9,z10,z11,z12,z13,z14,z15,h2,r2,t2,b2,A2⟩:=qU P L Y ns hl (w1:=w1) (w2:=w2) hd q (lo+1) f1 h1 (some (.p (.int (lo:Int)))) y9 y10 y11 y12 y13 y14 y15 r1 t1 A1
  refine ⟨f2,z8,z9,z10,z11,z12,z13,z14,z15,h2,r2,t2,?_,A2⟩
  have e1:((lo:Int)+1)=((lo+1:Nat):Int):=by lia
  rw[qS,e1]
  have st:fE (evS F G qT) [(8,"_law_k")] (.int (lo:Int) :: upto ((lo+1:Nat):Int) q) (aG (.p (.lst (ah ns))) w1 w2 mo gv du far x8 x9 x10 x11 x12 x13 x14 x15) h =
   i7 (evS F G qT (aG (.p (.lst (ah ns))) w1 w2 mo gv du far (some (.p (.int (lo:Int)))) x9 x10 x11 x12 x13 x14 x15) h) (fE (evS F G qT) [(8,"_law_k")] (upto ((lo+1:Nat):Int) q)):=rfl
  rw[st,b1,gC,b2]
noncomputable def HE:S:=(.seq (.ex (.me .append (.meth (.var 6) "marks" .nil) (.cons (.cst (.int 99)) .nil)))
 (.ret (.cmp .eq (.meth (.var 6) "marks" .nil) (.call "_law_marks" (.cons (.var 4) (.cons (.var 7) .nil))))))
theorem Lc (P:TpP T G) (L:AK T TX) {k:Nat} (Y:F12 T TX G k F) {w0 w1 w2:W}{du:D}{mo gv far e:Nat}{h:HH}{x8 x9 x10 x11 x12 x13 x14 x15:Option W}{r:Nat}{t:Tp} (A:A12 h r t e gv mo far) :
 ∃ h',evS F G HE (aG w0 w1 w2 mo gv du far x8 x9 x10 x11 x12 x13 x14 x15) h=some (.rt (.p (.bl true)) h'):=by
 have b1:=iV (T:=T) (G:=G) (k+12) A.a A.i
 rw[A.f,← Y.marks] at b1
 have ml:(aQ t.gap 0 (far / t.gap+1)).length<=8:=by rw[jM,← A.f,← A.i.len];exact A.i.l8
 have dk:=qO t.gap 0 (far / t.gap+1)
 have A2:TAt (h++[.l (aQ t.gap 0 (far / t.gap+1)++[.int 99])]) 0 r t:=A.a.app
 have b2:=iV (T:=T) (G:=G) (k+12) A2 A.i
 rw[A.f,← Y.marks] at b2
 have b3:=fun g=>jZ (G:=G) L.marks (k+12) A.i g
 rw[A.f] at b3
 generalize aQ t.gap 0 (far / t.gap+1)=ms at *
 have l1:lat (h++[.l ms]) h.length=some ms:=by simp[lat]
 have st:(h++[Cl.l ms]).set h.length (.l (ms++[.int 99]))=h++[.l (ms++[.int 99])]:=by simp
 have c:ms.length < 100000:=by lia
 refine ⟨(h++[.l (ms++[.int 99])])++[.l ms],?_⟩
 have s1:evS F G (.ex (.me .append (.meth (.var 6) "marks" .nil) (.cons (.cst (.int 99)) .nil))) (aG w0 w1 w2 mo gv du far x8 x9 x10 x11 x12 x13 x14 x15) h=some (.nx (aG w0 w1 w2 mo gv du far x8 x9 x10 x11 x12 x13 x14 x15) (h++[.l (ms++[.int 99])])):=by
  rw[aG]
  simp[A.a.ob,o6,b1,l1,c]
 rw[HE]
 refine (uP s1).trans (oU ?_)
 have l2:lat ((h++[.l (ms++[.int 99])])++[.l ms]) (h++[Cl.l (ms++[.int 99])]).length=some ms:=by simp[lat]
 have eq:=wW dk
 generalize h++[Cl.l (ms++[.int 99])]=g at *
 rw[aG]
 simp[-nW,A2.ob,o6,b2,Y.fn,b3,rd,l2,eq]
noncomputable def dZ:Fn:=⟨["_law_script"],["_law_script","_law_program_here","_law_asked_here","_law_most","_law_every","_law_due","_law_tape","_law_far","_law_k","_law_way","_law_number","_law_here","_law_told_here","_law_row_here","_law_is_there","_law_last"],
 (.seq (.set 1 (.call "_law_program" (.cons (.var 0) (.cons (.cst (.int 20)) .nil))))
 (.seq (.set 2 (.call "_law_asked" (.cons (.var 0) (.cons (.cst (.int 450)) .nil))))
 (.seq (.set 3 (.call "_law_drawn" (.cons (.var 0) (.cons (.cst (.int 440)) (.cons (.cst (.int 41)) .nil)))))
 (.seq (.set 4 (.bin .add (.cst (.int 1)) (.call "_law_drawn" (.cons (.var 0) (.cons (.cst (.int 441)) (.cons (.cst (.int 4)) .nil))))))
 (.seq (.set 5 (.call "states" (.cons (.var 1) (.cons (.var 2) (.cons (.var 3) .nil)))))
 (.seq (.set 6 (.make "Tape" (.cons (.var 1) (.cons (.var 2) (.cons (.var 4) (.cons (.var 3) .nil))))))
 (.seq (.set 7 (.cst (.int 0)))
 (.seq (.for [(8,"_law_k")] .rng1 (.cons (.bi .max2 false (.cons (.cst (.int 1)) (.cons (.bi .min2 false (.cons (.cst (.int 10)) (.cons (.bi .len false (.cons (.var 0) .nil)) .nil))) .nil))) .nil) qT)
 HE))))))))⟩
theorem wX (P:TpP T G) (L:AK T TX) {k:Nat} (Y:F12 T TX G k F) (ns:List Int) (hl:ns.length<=1000):∃ h',BS.qA F G dZ [.p (.lst (ah ns))] []=some (.p (.bl true),h'):=by
 obtain ⟨pg,dp,rp⟩:=qI (G:=G) L.lw L.program ns hl 20
 obtain ⟨asked,ha,hal,ra⟩:=wR (G:=G) L.lw ns hl 450
 have rp':∀ h,F "_law_program" [.p (.lst (ah ns)),.p (.int 20)] h=some (.p (bD pg),h):=fun h=>by rw[Y.fn _ (by decide)];exact rp (k+6) h
 have ra':∀ h,F "_law_asked" [.p (.lst (ah ns)),.p (.int 450)] h=some (.p (.lst (ah asked)),h):=fun h=>by rw[Y.fn _ (by decide)];exact ra (k+10) h
 have dr:∀ (q many:Int),0 < many->∃ z:Nat,(z:Int) < many/\∀ h,F "_law_drawn" [.p (.lst (ah ns)),.p (.int q),.p (.int many)] h=some (.p (.int (z:Int)),h):=fun q many hm=>by
  have h0:=bH ns q hm
  have h1:=bI ns q hm
  exact ⟨(drw ns q many).toNat,by lia,fun h=>by rw[Y.fn _ (by decide),bF L.lw (k+11) ns hl q many hm h,VE h0]⟩
 obtain ⟨mo,hmo,rmo⟩:=dr 440 41 (by decide)
 obtain ⟨v1,hv1,rv1⟩:=dr 441 4 (by decide)
 obtain ⟨e,R,es⟩:=Dw pg asked mo
 have le:=R.le
 have du:(D.lst ((sts pg asked mo St.zero).map St.enc))=sX pg asked e:=by
  rw[es,Qs];rfl
 have rs:∀ h,F "states" [.p (bD pg),.p (.lst (ah asked)),.p (.int (mo:Int))] h=some (.p (sX pg asked e),h):=fun h=>by
  have:=sO P.prg L.states (k+6) pg dp.ok asked ha mo (by lia) h
  rw[du] at this
  rw[Y.fn _ (by decide)];exact this
 have ln:=DF pg asked e
 have c1:1+(v1:Int)=((v1+1:Nat):Int):=by lia
 have in1:F (.m "Tape" "__init__") [.o 0,.p (bD pg),.p (.lst (ah asked)),.p (.int ((v1+1:Nat):Int)),.p (.int (mo:Int))] [.o "Tape" []]=some (.p .non,[.o "Tape" ((Tp.new pg asked (v1+1) mo).fs 1),.l [St.zero.enc]]):=by
  rw[Y.init];exact AE P (k+11) pg asked (v1+1) mo (by lia) []
 have A0:A12 [.o "Tape" ((Tp.new pg asked (v1+1) mo).fs 1),.l [St.zero.enc]] 1 (Tp.new pg asked (v1+1) mo) e (v1+1) mo 0:=⟨Hj [] pg asked (v1+1) mo,Hi dp.ok ha R (by lia) (by lia) (by lia),rfl,rfl⟩
 obtain ⟨tn,ht1,htn,rtn⟩:∃ tn:Nat,1<=tn/\tn<=10/\dQ .rng1 [.int (if (if ((ns.length:Nat):Int) < 10 then ((ns.length:Nat):Int) else 10) > 1 then (if ((ns.length:Nat):Int) < 10 then ((ns.length:Nat):Int) else 10) else 1)]=some (upto 0 tn):=by
  refine ⟨(if (if ((ns.length:Nat):Int) < 10 then ((ns.length:Nat):Int) else 10) > 1 then (if ((ns.length:Nat):Int) < 10 then ((ns.length:Nat):Int) else 10) else 1:Int).toNat,?_,?_,?_⟩
  ·split<;>split at *<;>omega
  ·split<;>split at *<;>omega
  ·rw[cD]
   have:∀ z:Int,0<=z->z<=10->((decide (-100000<=z)&&decide (z<=100000))=true):=fun z h1 h2=>by simp;omega
   rw[if_pos (this _ (by split<;>split at *<;>omega) (by split<;>split at *<;>omega))]
 obtain ⟨f2,z8,z9,z10,z11,z12,z13,z14,z15,h2,r2,t2,b2,A2⟩:=qU P L Y ns hl (w1:=.p (bD pg)) (w2:=.p (.lst (ah asked))) ln tn 0 0 _ none none none none none none none none 1 _ A0
 obtain ⟨h3,b3⟩:=Lc P L Y (w0:=.p (.lst (ah ns))) (w1:=.p (bD pg)) (w2:=.p (.lst (ah asked))) (du:=sX pg asked e) (x8:=z8) (x9:=z9) (x10:=z10) (x11:=z11) (x12:=z12) (x13:=z13) (x14:=z14) (x15:=z15) A2
 have f0:fin [] (.p (.bl true)) h3=some (.p (.bl true),[]):=by
  have:=jm [] h3 (.bl true)
  simpa using this
 have lL:biD .len [.lst (ah ns)]=some (.int (ns.length:Int)):=by simp[ah]
 refine ⟨[],?_⟩
 rw[BS.qA,if_pos (show [W.p (D.lst (ah ns))].length=dZ.ps.length from rfl),dZ]
 have b2:fE (evS F G qT) [(8,"_law_k")] (upto 0 tn) [some (.p (.lst (ah ns))),some (.p (bD pg)),some (.p (.lst (ah asked))),some (.p (.int (mo:Int))),some (.p (.int ((v1+1:Nat):Int))),some (.p (sX pg asked e)),some (.o 0),some (.p (.int 0)),none,none,none,none,none,none,none,none] [.o "Tape" ((Tp.new pg asked (v1+1) mo).fs 1),.l [St.zero.enc]]=_:=b2
 generalize hz1:((v1+1:Nat):Int)=z1 at in1 c1 b2
 generalize sX pg asked e=RR at *
 generalize bD pg=PP at *
 simp[-yj,K3,-mX,-cD,-fE,rp',ra',rmo,rv1,c1,rs,in1,lL,rtn,c7,b2,b3,f0]
end
end BT
end
section
namespace BF
open PySem PySem.Spec PyProof.Rows L2 BS
noncomputable def tG (P:Pv) (w:P0) (K:OX) (mg:Str->Option Value) (x:Str) (z:BT.W):Prop:=∃ u v,mg x=some u/\RelV v u/\∀ m H,RW P w K m H v z
theorem AM {K:OX} (X:K.In h) (G:h.Ns Pd mg) (a:P1 K Pd x=some (some (.int n t))):tG P w K mg x (.p (.int n)) :=
 ⟨_,.int n,P5 X G a,⟨t,rfl⟩,fun _ _=>.p (.int n)⟩
inductive cL:List Str->List Value->Prop where
 | nil:cL [] []
 | cons {x:Str}{xs:List Str}{t:Tok}{vs:List Value} (h:PyData.strOk x=true) (r:cL xs vs):cL (x :: xs) (.str x t :: vs)
theorem cL.vals:∀ {xs:List Str}{vs:List Value},cL xs vs->ao (xs.map V.str) vs
 | _,_,.nil=>.nil
 | _,_,.cons _ r=>.cons ⟨_,rfl⟩ r.vals
theorem cL.rds {K:OX}:∀ {xs:List Str}{vs:List Value},cL xs vs->RDs K m H (xs.map V.str) (xs.map BT.D.str)
 | _,_,.nil=>.nil
 | _,_,.cons h r=>.cons (.str _ h) r.rds
theorem cL.len:∀ {xs:List Str}{vs:List Value},cL xs vs->vs.length=xs.length
 | _,_,.nil=>rfl
 | _,_,.cons _ r=>by simp[r.len]
theorem AN {K:OX} (X:K.In h) (G:h.Ns Pd mg) (a:P1 K Pd x=some (some (.ref f)))
 (l:K.lookup f=some ⟨.type "tuple",none,.seq its n,sl⟩) (hl:xs.length<=1000) (r:cL xs its.toList):tG P w K mg x (.p (.tup (xs.map BT.D.str))):=by
 refine ⟨_,.ref f,P5 X G a,rfl,fun m H=>.p (.tup (.inr ⟨_,its,n,⟨l,rfl,rfl,?_,r.vals⟩,rfl⟩) r.rds)⟩
 have:=r.len
 have e:its.size=xs.length:=by rw[← this];simp
 rw[e]
 exact QE (vF hl)
inductive e9 (w:P0):List (Str×Int)->List Ui->Prop where
 | nil:e9 w [] []
 | cons {x:Str}{n:Int}{kvs:List (Str×Int)}{t u:Tok}{es:List Ui} (r:e9 w kvs es):e9 w ((x,n) :: kvs) (⟨PyData.keyHash w.params x,.str x t,.int n u⟩ :: es)
theorem e9.ex:∀ {kvs:List (Str×Int)}{es:List Ui},e9 w kvs es->∃ vs:List (Key×Value),KV ((kvs.map fun q=>(q.1,V.int q.2)).map fun q=>((Sum.inr q.1:Key),q.2)) vs/\Pairs (aF P w) es vs/\vs.map (·.1)=kvs.map (fun q=>(Sum.inr q.1:Key))/\(∀ e∈es,∃ k,(aF P w).is k e.key=true/\e.hash=(aF P w).hash k)
 | _,_,.nil=>⟨[],.nil,.nil,rfl,fun e he=>nomatch he⟩
 | _,_,@e9.cons _ x n kvs t u es r=>by
  obtain ⟨vs,h1,h2,h3,h4⟩:=r.ex (P:=P)
  have is:(aF P w).is (Sum.inr x) (.str x t)=true:=by show Td x (.str x t)=true;simp[Td]
  refine ⟨(Sum.inr x,.int n u) :: vs,.cons ⟨rfl,u,rfl⟩ h1,.cons is rfl h2,by simp[h3],fun e he=>?_⟩
  rcases List.mem_cons.mp he with rfl | he
  ·exact ⟨Sum.inr x,is,rfl⟩
  ·exact h4 e he
theorem wY {P:Pv}{w:P0}{K:OX}{h:Heap}{mg:Str->Option Value} (X:K.In h) (G:h.Ns Pd mg) {x:Str}{f:O9}{es:Array Ui}{n:Nat}{kvs:List (Str×Int)} (a:P1 K Pd x=some (some (.ref f)))
 (l:K.lookup f=some { cls:=.type "dict",data:=.dict es n }) (hf:(f==Q0)=false) (r:e9 w kvs es.toList) (nd:(kvs.map (·.1)).Nodup):tG P w K mg x (.k (.t (kvs.map fun q=>(q.1,BT.D.int q.2)))):=by
 obtain ⟨vs,h1,h2,h3,h4⟩:=r.ex (P:=P)
 refine ⟨_,.ref f,P5 X G a,rfl,fun m H=>.k (es:=kvs.map fun q=>(q.1,V.int q.2)) ⟨hf,vs,h1,fun hh Kh=>⟨_,es,n,Kh _ _ l,⟨rfl,rfl,rfl⟩,rfl,fun e he=>h4 e (by simpa using he),h2,?_⟩⟩ ?_⟩
 ·rw[h3]
  have e:(kvs.map fun q=>(Sum.inr q.1:Key))=(kvs.map (·.1)).map Sum.inr:=by simp
  rw[e]
  exact List.pairwise_map.mpr (nd.imp fun h z=>h (Sum.inr.inj z))
 ·clear r nd h1 h2 h3 h4 l
  induction kvs with
  | nil=>exact .nil
  | cons q kvs ih=>exact .cons (fun _ _=>.int _) ih
noncomputable def look {κ α:Type} [DecidableEq κ] (l:List (κ×α)) (x:κ):Option α:=match l with
 | []=>none
 | (y,a) :: r=>if y=x then some a else look r x
theorem d7 {κ α:Type} [DecidableEq κ] {Q:κ->α->Prop}:∀ {l:List (κ×α)} (_:∀ p∈l,Q p.1 p.2) {x:κ}{a:α},look l x=some a->Q x a
 | [],_,_,_,e=>by cases e
 | (y,b) :: r,h,x,a,e=>by
  rw[look] at e
  split at e
  ·rename_i z
   cases e
   subst z
   exact h (y,b) Pq
  ·exact d7 (fun p hp=>h p (Pc _ hp)) e
theorem gI {K:OX}:∀ ns:List Int,RDs K m H (ns.map V.int) (BT.ah ns)
 | []=>.nil
 | n :: r=>.cons (.int n) (gI r)
theorem AO {K:OX} (tb:TB K H) (hS:LL K H a (ns.map V.int)) (e:∃ h',g [.p (.lst (BT.ah ns))] []=some (.p (.bl true),h')):spF P w K g [.ref a] H (fun v _=>v=.bl true) fun _ _ _=>False:=by
 obtain ⟨h',e⟩:=e
 refine ⟨[],_,[],_,h',⟨Ux,rfl,fun i a xs z=>by simp at z,tb⟩,.cons (.p (.lst (hS.elim (fun q=>.inl ⟨q,by simp⟩) .inr) (gI ns))) .nil,e,fun v H' m' _ _ r=>jF r⟩
end BF
end
section
namespace BG
open PySem PySem.Spec PySem.Calls PyProof.Rows L2 BS BF
theorem DK {K:OX} (H:∀ p∈K,h.get? p.1=some p.2):K.In h:=by
 intro a o e
 obtain ⟨p,hp,he⟩:∃ p∈K,p.1=a/\p.2=o:=by
  clear H
  induction K with
  | nil=>cases e
  | cons q r ih =>
   rw[Qg] at e
   split at e
   ·rename_i c
    cases e
    exact ⟨q,Pq,(eq_of_beq c).symm,rfl⟩
   ·obtain ⟨p,hp,he⟩:=ih e
    exact ⟨p,Pc _ hp,he⟩
 rw[← he.1,← he.2]
 exact H p hp
inductive Ld (K:OX) (x qual:Str) (st:TY) (f:O9):Prop where
 | mk (fd:Qm) (F:Fun K x qual st f fd) (kV doc pm:Value) (an:Option O9) (cdv ct:Value) (e:fd=Qo x qual (b8 st) (aq st) (aa st) .none kV doc pm an cdv ct):Ld K x qual st f
theorem o8 {K:OX}{st:TY} (e:A6 K f=some (tL x qual st)):Ld K x qual st f:=by
 unfold A6 at e
 split at e
 ·rename_i oc od fd sl l
  have e':=O5 e
  unfold tL at e'
  obtain ⟨nm,ql,pa,bo,sc,gl,cl,de,kw,dc,pm,an,co,ct,bu⟩:=fd
  simp only[FS.mk.injEq] at e'
  obtain ⟨rfl,rfl,rfl,rfl,rfl,rfl,rfl,rfl,rfl,hc⟩:=e'
  have F:=Fk (K:=K) (x:=nm) (qual:=ql) (st:=st) (f:=f) (kV:=kw) (doc:=dc) (pm:=pm) (an:=an) (cdv:=co) (ct:=ct) l hc (by simp only[PK,l])
  exact ⟨_,F,kw,dc,pm,an,co,ct,rfl⟩
 ·cases e
theorem nth {α:Type}{l:List α}{a:α} (i:Nat) (h:l[i]?=some a):a∈l:=Pb h
noncomputable def lX (ns:List Str):Bool:=ns.all fun n=>!(n.cps[0]?==some 60)
theorem Lf (y:Str):(BT.bU y).cps[0]?=some 60:=by
 show (((#[60]:Array Nat)++y.cps)++#[62])[0]?=some 60
 rw[← US]
 simp
theorem qV (h:lX ns=true) (y:Str):ns.contains (BT.bU y)=false:=by
 cases e:ns.contains (BT.bU y) with
 | false=>rfl
 | true =>
  have:=List.all_eq_true.mp h _ (List.contains_iff_mem.mp e)
  rw[Lf] at this
  cases this
theorem tH {K:OX} (h:lX fn.ns=true):fJ K q fd fn:=fun y hy=>by rw[qV h y] at hy;cases hy
section
variable {K:OX}
theorem lY (e:refOf o=some f):o=some (some (.ref f)):=by
 unfold refOf at e
 split at e
 ·cases e;rfl
 ·cases e
theorem HF (X:K.In h) (G:h.Ns Pd mg) {st:TY} (e:aS K (.fn x f st)=aT w (.fn x f st))
 (sc:aM fn.ns fn.ps (aa st)) (hb:∀ (kV doc pm:Value) (an:Option O9) (cdv ct:Value) (us:List Value),us.length=fn.ps.length->UG (Qo x x (b8 st) (aq st) (aa st) .none kV doc pm an cdv ct) ⟨us,[]⟩=pure (fn.ps.zip us))
 (ck:CSs (aa st) fn.ns fn.body (aq st)) (tg:∀ fd,P1 K Pd x=some (some (.ref f))->(∃ oc od sl,K.lookup f=some ⟨oc,od,.func fd,sl⟩)->fJ K x fd fn):Def K mg x fn:=by
 simp only[aS,aT,Ov.fn.injEq] at e
 obtain ⟨fd,F,kV,doc,pm,an,cdv,ct,rfl⟩:=o8 e.2
 refine ⟨f,_,st,P5 X G (lY e.1),F,sc,F.binds hb,ck,tg _ (lY e.1) ?_⟩
 obtain ⟨oc,od,kV,doc,pm,an,cdv,ct,osl,e1,lk,_⟩:=F.ex
 exact ⟨oc,od,osl,lk⟩
theorem qW (e:aS K (.cls c C)=aT w (.cls c C)):iB K c C:=by
 simp only[aS,aT,Ov.b.injEq,Iv,OY,decide_eq_true_eq] at e
 obtain ⟨⟨⟨⟨⟨h1,h2⟩,h3⟩,h4⟩,h5⟩,h6⟩:=e
 refine ⟨h1,⟨h2,h3,h4,h5⟩,fun f hf=>?_⟩
 have hm:f∈attrs:=List.contains_iff_mem.mp hf
 exact of_decide_eq_true (p:=PB K (.ref C) f=some none) (List.all_eq_true.mp h6 f hm)
theorem DL (X:K.In h) (G:h.Ns Pd mg) {st:TY} (ec:aS K (.cls c C)=aT w (.cls c C)) (em:aS K (.mk C)=aT w (.mk C)) (e:aS K (.me C m x qual f st)=aT w (.me C m x qual f st))
 (sc:aM fn.ns fn.ps (aa st)) (hb:∀ (kV doc pm:Value) (an:Option O9) (cdv ct:Value) (us:List Value),us.length=fn.ps.length->UG (Qo x qual (b8 st) (aq st) (aa st) .none kV doc pm an cdv ct) ⟨us,[]⟩=pure (fn.ps.zip us))
 (ck:CSs (aa st) fn.ns fn.body (aq st)) (tg:lX fn.ns=true):zQ K mg c m fn:=by
 have hC:=qW ec
 simp only[aS,aT,Ov.fn.injEq] at e
 obtain ⟨e1,e2⟩:=e
 obtain ⟨fd,F,kV,doc,pm,an,cdv,ct,rfl⟩:=o8 e2
 have e1':meB K C m f=true:=by
  cases q:meB K C m f with
  | true=>rfl
  | false=>rw[q] at e1;cases e1
 simp only[meB,OY,decide_eq_true_eq] at e1'
 simp only[aS,aT,Ov.b.injEq,mkB,OY] at em
 refine ⟨C,f,_,x,qual,st,hC,P5 X G hC.cn,⟨e1'.1,e1'.2,F.kp⟩,fun z=>?_,F,sc,F.binds hb,ck,tH tg⟩
 subst z
 exact ⟨em.1,e1'.1,e1'.2,em.2⟩
theorem none_of (X:K.In h) (G:h.Ns Pd mg) (e:aS K (.no x)=aT w (.no x)):mg x=none:=by
 simp only[aS,aT,Ov.b.injEq,decide_eq_true_eq] at e
 exact PySem.W.mg_none_of X G e
theorem AQ (h:intOf v=some x):∃ t,v=.int x t:=by
 cases v<;>simp[intOf] at h
 exact ⟨_,by rw[h]⟩
theorem AR (h:strOf v=some x):∃ t,v=.str x t:=by
 cases v<;>simp[strOf] at h
 exact ⟨_,by rw[h]⟩
theorem b7 (X:K.In h) (G:h.Ns Pd mg) (e:aS K (.int x n)=aT w (.int x n)):tG P w K mg x (.p (.int n)):=by
 simp only[aS,aT,Ov.int.injEq] at e
 split at e
 ·rename_i v hv
  obtain ⟨t,rfl⟩:=AQ e
  exact AM X G hv
 ·cases e
theorem u9:∀ {xs:List Str}{vs:List Value},xs.all PyData.strOk=true->vs.map strOf=xs.map some->cL xs vs
 | [],[],_,_=>.nil
 | [],_ :: _,_,h=>by simp at h
 | _ :: _,[],_,h=>by simp at h
 | x :: xs,v :: vs,k,h=>by
  simp only[Pn,Ry] at h
  simp only[UI,OY] at k
  obtain ⟨t,rfl⟩:=AR h.1
  exact .cons k.1 (u9 k.2 h.2)
theorem vc:∀ {kvs:List (Str×Int)}{es:List Ui},es.map (fun e=>(e.hash,strOf e.key,intOf e.val))=kvs.map (fun q=>(PyData.keyHash w.params q.1,some q.1,some q.2))->e9 w kvs es
 | [],[],_=>.nil
 | [],_ :: _,h=>by simp at h
 | _ :: _,[],h=>by simp at h
 | (x,n) :: kvs,⟨ha,k,v⟩ :: es,h=>by
  simp only[Pn,Ry,Us] at h
  obtain ⟨⟨rfl,h2,h3⟩,hr⟩:=h
  obtain ⟨t,rfl⟩:=AR h2
  obtain ⟨u,rfl⟩:=AQ h3
  exact .cons (vc hr)
theorem AS (X:K.In h) (G:h.Ns Pd mg) (e:aS K (.tup x f xs)=aT w (.tup x f xs)) (hl:xs.length<=1000) (hs:xs.all PyData.strOk=true):tG P w K mg x (.p (.tup (xs.map BT.D.str))):=by
 simp only[aS,aT,Ov.seq.injEq] at e
 obtain ⟨e1,e2,e3⟩:=e
 obtain ⟨o,l,e4⟩:=Option.map_eq_some_iff.mp e2
 rw[l] at e3
 obtain ⟨cl,di,da,sl⟩:=o
 simp only[shp,Us] at e4
 obtain ⟨rfl,rfl,e5⟩:=e4
 have:sl=#[]:=TQ e5
 subst this
 simp only[Ru,DV] at e3
 cases da<;>simp only[RN,reduceCtorEq] at e3
 exact AN X G (lY e1) l hl (u9 hs e3)
theorem AU (X:K.In h) (G:h.Ns Pd mg) {x:Str}{f:O9}{kvs:List (Str×Int)} (e:aS K (.dct x f kvs)=aT w (.dct x f kvs)) (hf:(f==Q0)=false) (nd:(kvs.map (·.1)).Nodup):tG P w K mg x (.k (.t (kvs.map fun q=>(q.1,BT.D.int q.2)))):=by
 simp only[aS,aT,Ov.dct.injEq] at e
 obtain ⟨e1,e2,e3⟩:=e
 obtain ⟨o,l,e4⟩:=Option.map_eq_some_iff.mp e2
 rw[l] at e3
 obtain ⟨cl,di,da,sl⟩:=o
 simp only[shp,Us] at e4
 obtain ⟨rfl,rfl,e5⟩:=e4
 have:sl=#[]:=TQ e5
 subst this
 simp only[Ru,DW] at e3
 cases da<;>simp only[RN,reduceCtorEq] at e3
 exact wY X G (lY e1) l hf (vc e3) nd
end
theorem wZ {α:Type}{us:List α}{n:Nat} (h:us.length=n+1):∃ a r,us=a :: r/\r.length=n:=by
 cases us with
 | nil=>simp at h
 | cons a r=>exact ⟨a,r,rfl,by simpa using h⟩
theorem len0 {α:Type}{us:List α} (h:us.length=0):us=[]:=RC h
theorem DM {α:Type}{us:List α} (h:us.length=1):∃ a0,us=[a0]:=by
 obtain ⟨a0,r,rfl,g⟩:=wZ h
 exact ⟨a0,by rw[len0 g]⟩
theorem AV {α:Type}{us:List α} (h:us.length=2):∃ a0 a1,us=[a0,a1]:=by
 obtain ⟨a0,r,rfl,g⟩:=wZ h
 obtain ⟨a1,rfl⟩:=DM g
 exact ⟨a0,a1,rfl⟩
theorem w5 {α:Type}{us:List α} (h:us.length=3):∃ a0 a1 a2,us=[a0,a1,a2]:=by
 obtain ⟨a0,r,rfl,g⟩:=wZ h
 obtain ⟨a1,a2,rfl⟩:=AV g
 exact ⟨a0,a1,a2,rfl⟩
theorem AW {α:Type}{us:List α} (h:us.length=4):∃ a0 a1 a2 a3,us=[a0,a1,a2,a3]:=by
 obtain ⟨a0,r,rfl,g⟩:=wZ h
 obtain ⟨a1,a2,a3,rfl⟩:=w5 g
 exact ⟨a0,a1,a2,a3,rfl⟩
theorem Lg {α:Type}{us:List α} (h:us.length=5):∃ a0 a1 a2 a3 a4,us=[a0,a1,a2,a3,a4]:=by
 obtain ⟨a0,r,rfl,g⟩:=wZ h
 obtain ⟨a1,a2,a3,a4,rfl⟩:=AW g
 exact ⟨a0,a1,a2,a3,a4,rfl⟩
theorem NU {α:Type}{us:List α} (h:us.length=6):∃ a0 a1 a2 a3 a4 a5,us=[a0,a1,a2,a3,a4,a5]:=by
 obtain ⟨a0,r,rfl,g⟩:=wZ h
 obtain ⟨a1,a2,a3,a4,a5,rfl⟩:=Lg g
 exact ⟨a0,a1,a2,a3,a4,a5,rfl⟩
noncomputable abbrev BdT (x qual:Str) (st:TY) (fn:BT.Fn):Prop:=∀ (kV doc pm:Value) (an:Option O9) (cdv ct:Value) (us:List Value),us.length=fn.ps.length->UG (Qo x qual (b8 st) (aq st) (aa st) .none kV doc pm an cdv ct) ⟨us,[]⟩=pure (fn.ps.zip us)
structure CkB (x qual:Str) (s:TY) (f:BT.Fn):Prop where
 ck:CSs (aa s) f.ns f.body (aq s):=by repeat' (first | rfl | constructor | decide +kernel)
 sc:aM f.ns f.ps (aa s):=by constructor<;>first | rfl | decide +kernel
 bd:BdT x qual s f:=by intro _ _ _ _ _ _ us hl;first | (obtain ⟨a0,a1,rfl⟩:=AV hl;rfl) | (obtain ⟨a0,rfl⟩:=DM hl;rfl) | (obtain ⟨a0,a1,a2,rfl⟩:=w5 hl;rfl) | (obtain ⟨a0,a1,a2,a3,rfl⟩:=AW hl;rfl) | (obtain rfl:=len0 hl;rfl) | (obtain ⟨a0,a1,a2,a3,a4,rfl⟩:=Lg hl;rfl) | (obtain ⟨a0,a1,a2,a3,a4,a5,rfl⟩:=NU hl;rfl)
theorem ce {p:Prop} (h:p:=by repeat' (first | rfl | constructor | decide +kernel)):p:=h
theorem dk {p:Prop} (h:p:=by decide +kernel):p:=h
theorem hn {K:OX}{w:P0}{qs:List Qy} (hq:∀ q∈qs,aS K q=aT w q) (i:Nat) {a:Qy} (h:qs[i]?=some a):aS K a=aT w a:=hq _ (nth i h)
noncomputable def qX (K:OX) (mg:Str->Option Value) (p:BT.FK×BT.Fn):Prop:=(∀ x,p.1=.f x->Def K mg x p.2)/\(∀ c m,p.1=.m c m->zQ K mg c m p.2)/\∀ L,p.1=.l L->BT.mD L=some p.2/\∃ ns bt,p.2=⟨ns,ns,.ret bt⟩/\∀ y,ns.contains (BT.bU y)=false
theorem dd {K:OX} (d:Def K mg x fn):qX K mg (.f x,fn):=⟨fun y e=>by cases e;exact d,fun c m e=>(by cases e),fun L e=>by cases e⟩
theorem dm {K:OX} (d:zQ K mg c m fn):qX K mg (.m c m,fn):=⟨fun y e=>(by cases e),fun c m e=>by cases e;exact d,fun L e=>by cases e⟩
section
variable {K:OX}
theorem dd0 (X:K.In h) (G:h.Ns Pd mg) {st:TY} (e:aS K (.fn x f st)=aT w (.fn x f st)) (c:CkB x x st fn) (tg:lX fn.ns=true:=by decide +kernel):qX K mg (.f x,fn) :=
 dd (HF X G e c.sc c.bd c.ck fun _ _ _=>tH tg)
theorem dm0 (X:K.In h) (G:h.Ns Pd mg) {st:TY} (ec:aS K (.cls c C)=aT w (.cls c C)) (em:aS K (.mk C)=aT w (.mk C)) (e:aS K (.me C m x qual f st)=aT w (.me C m x qual f st)) (k:CkB x qual st fn) (tg:lX fn.ns=true:=by decide +kernel):qX K mg (.m c m,fn) :=
 dm (DL X G ec em e k.sc k.bd k.ck tg)
end
structure HG (K:OX) (tl:List (Str×O9×O9)):Prop where
 all:∀ z∈BT.dG,(∃ c P,(z,c,P)∈tl/\Qj K z=some (c,P))\/Qj K z=none
 hd:∀ q∈tl,Tw K q.2.1 q.2.2=true
theorem aP {K:OX} (e:aS K (.no x)=aT w (.no x)):Qj K x=none:=by
 simp only[aS,aT,Ov.b.injEq,decide_eq_true_eq] at e
 unfold Qj
 rw[e]
theorem tK {K:OX} (e:K.lookup b=some o):b∈K.map (·.1):=List.mem_map.mpr ⟨(b,o),PySem.W.mem_of_lookupK e,rfl⟩
theorem w6 {K:OX}
 (KX:K.In s₁.heap) (hns:s₁.heap.Ns Pd mg) (hb:s₁.heap.Ns Rm mb) (hbb:∀ x:Str,x≠"__name__"->mb x=Ss x) (hlim:s₁.heap.NoLimit) (hg:s₁.gens=#[])
 (ha:s₁.heap.get? a=some { cls:=.type "list",data:=.seq vs.toArray }) (hi:VD vs ns) (hl:ns.length<=sizeLine) (hr:bA k Vu)
 (hT:HG K tl) (hTs:∀ p∈tl,s₁.heap.get? p.2.2=some (Q7 #[])) (hTk:∀ p∈tl,K.lookup p.2.2=none)
 (F:∀ base:Heap,bS P w K mg base CX0 k fa fd [x] sp) (hbind:∀ (s:O4) (u:Value),K.In s.heap->BindsTo s fd ⟨[u],[]⟩ [(x,u)])
 (hsp:∀ H:Hp,TB K H->LL K H a (ns.map V.int)->sp [.ref a] H (fun v _=>v=.bl true) fun _ _ _=>False) :
 codeAny (Pp P w) Vu (.call (.ref fa) ⟨[.ref a],[]⟩) (fun r s'=>r=.ok (.ret (.bool true))/\OldK s₁.heap s'.heap/\s'.os=s₁.os/\T7 s'.gens) s₁:=by
 have rv:=mW hi
 have lenV:=hi.length
 have tne:∀ p∈tl,p.2.2≠a:=fun p hp z=>by
  have:=hTs p hp
  rw[z,ha] at this;cases this
 let so:HO:=.frz { cls:=.type "list",data:=.seq vs.toArray } (.lst (ns.map V.int))
 let H:Hp:=fun b=>if ∃ p∈tl,p.2.2=b then some (.tbl #[]) else if b=a/\K.lookup a=none then some so else none
 have Ht:∀ p∈tl,H p.2.2=some (.tbl #[]):=fun p hp=>if_pos ⟨p,hp,rfl⟩
 have Hcase:∀ b u,H b=some u->(∃ p∈tl,p.2.2=b/\u=.tbl #[])\/(b=a/\K.lookup a=none/\u=so):=fun b u e=>by
  by_cases c1:∃ p∈tl,p.2.2=b
  ·have e':some (HO.tbl #[])=some u:=(if_pos c1).symm.trans e
   obtain ⟨p,hp,h2⟩:=c1
   exact .inl ⟨p,hp,h2,(O5 e').symm⟩
  ·have e':(if b=a/\K.lookup a=none then some so else none)=some u:=(if_neg c1).symm.trans e
   by_cases c2:b=a/\K.lookup a=none
   ·rw[if_pos c2] at e'
    exact .inr ⟨c2.1,c2.2,(O5 e').symm⟩
   ·rw[if_neg c2] at e';cases e'
 have noA:∀ {b:O9}{o:Obj}{es:Array Ui}{ep:Nat},s₁.heap.get? b=some o->o.data=.dict es ep->H b=none:=fun {b o es ep} e d=>by
  cases q:H b with
  | none=>rfl
  | some u =>
   rcases Hcase b u q with ⟨p,hp,h2,_⟩ | ⟨h2,_⟩
   ·have z:=hTs p hp
    rw[h2,e] at z;cases z;cases d
   ·rw[h2,ha] at e;cases e
    have d':Data.seq vs.toArray _=Data.dict es ep:=d
    cases d'
 have nsK:∀ {b:O9}{m:Str->Option Value},s₁.heap.Ns b m->(pB s₁.heap H).Ns b m:=fun {b m} ⟨o,es,ep,e,d,r⟩=>⟨o,es,ep,pC e (noA e d),d,r⟩
 have hKb:K.In (pB s₁.heap H):=fun b o e=>pC (KX b o e) (by
  cases q:H b with
  | none=>rfl
  | some u =>
   rcases Hcase b u q with ⟨p,hp,h2,_⟩ | ⟨h2,h3,_⟩
   ·rw[← h2,hTk p hp] at e;cases e
   ·rw[h2,h3] at e;cases e)
 have hM:Mod K mg (pB s₁.heap H):=⟨hKb,nsK hns,⟨mb,nsK hb,hbb⟩,let ⟨mc,h1,h2⟩:=hlim;⟨mc,nsK h1,h2⟩⟩
 have hok:HOk P w H s₁.heap:=fun b u e=>by
  rcases Hcase b u e with ⟨p,hp,h2,rfl⟩ | ⟨h2,_,rfl⟩
  ·subst h2;exact hTs p hp
  ·subst h2;exact ⟨ha,by rw[Pr];exact hl,vs,_,rv,ha⟩
 have e0:kP P w K mg (pB s₁.heap H) Vu [] s₁ H:=⟨rfl,hM,fun b o e=>A8 e,Nat.le_of_eq (vf _ _),trivial,fun b hb=>absurd (show b∈([]:List O9) from hb) (by simp),hok,.of_eq hg⟩
 have tb:TB K H:=fun z hz c Pt e=>by
  rcases hT.all z hz with ⟨c3,P3,m3,e3⟩ | e3
  ·rw[e] at e3;cases e3
   exact ⟨#[],Ht _ m3,trivial,fun pos v q=>by cases q⟩
  ·rw[e] at e3;cases e3
 have hS:LL K H a (ns.map V.int):=by
  cases hk:K.lookup a with
  | some o =>
   have e:=KX a o hk
   rw[ha] at e
   cases e
   exact .inr ⟨vs,_,hk,by rw[lenV];exact hl,rv⟩
  | none =>
   refine .inl (.inr ⟨{ cls:=.type "list",data:=.seq vs.toArray },?_⟩)
   have e1:H a=(if a=a/\K.lookup a=none then some so else none):=if_neg fun ⟨p,hp,z⟩=>tne p hp z
   rw[e1,if_pos ⟨rfl,hk⟩]
 refine RM ((F _).run Vu [] s₁ H ⟨[.ref a],[]⟩ [.ref a] [.ref a] _ _ hr e0 (hbind s₁ (.ref a) KX) (.cons rfl .nil) (hsp H tb hS)) fun r s' h=>?_
 cases r with
 | error e=>exact PN h
 | ok fl =>
  cases fl with
  | next=>exact PN h
  | brk=>exact PN h
  | cont=>exact PN h
  | ret u =>
   obtain ⟨v,H',os,bare,un,hok',r',q⟩:=h
   have q':v=.bl true:=q
   subst q'
   obtain rfl:u=Vv true:=r'
   have kp:∀ b o,s₁.heap.get? b=some o->(s'.heap.get? b=some o)\/∃ p∈tl,p.2.2=b/\∃ more,s'.heap.get? b=some (Q7 (#[]++more)):=fun b o e=>by
    cases q:H b with
    | none=>exact .inl (un.keep b o e q (by intro z;exact absurd (show b∈([]:List O9) from z) (by simp)) (by simp))
    | some u =>
     rcases Hcase b u q with ⟨p,hp,h2,rfl⟩ | ⟨h2,h3,rfl⟩
     ·obtain ⟨more,z⟩:=un.tbls b _ q
      exact .inr ⟨p,hp,h2,more,hok' b _ z⟩
     ·have z2:=un.frzs b _ _ q
      obtain ⟨e1,_⟩:=hok b _ q
      obtain ⟨e2,_⟩:=hok' b _ z2
      rw[e] at e1;cases e1
      exact .inl e2
   refine ⟨rfl,⟨fun b o e=>?_,fun b o e=>?_⟩,os,bare⟩
   ·rcases kp b o e with z | ⟨p,hp,rfl,more,z⟩
    ·exact .inl z
    ·have e2:=hTs p hp
     rw[e] at e2
     cases e2
     have tA:=(RK KX (hT.hd p hp)).tab e
     exact .inr (.inl ⟨tA.isCodeTable,rfl,#[],more,rfl,z⟩)
   ·rcases kp b o e with z | ⟨p,hp,rfl,more,z⟩
    ·exact ⟨o,z⟩
    ·exact ⟨_,z⟩
noncomputable def AX:List Str:=["NoMoment","NoRun","NoThing","NoText"]
theorem Lh (h:uf c=true):c∈AX:=by
 have:=List.contains_iff_mem.mp h
 simp only[QB,Qf,or_false] at this
 simp only[AX,QB,Qf,or_false]
 rcases this with h | h | h | h<;>simp[h]
theorem Li {c:Str} (h:raN c=true):c="NoMoment"\/c="NoThing":=by
 have:=List.contains_iff_mem.mp h
 simpa only[QB,Qf,or_false] using this
section
variable {K:OX}{D:O9}
theorem ju (e:A7 K c C=true):CN K c C/\kg K C:=by
 unfold A7 at e
 obtain ⟨e1,e2⟩:=Bool.and_eq_true_iff.mp e
 exact ⟨of_decide_eq_true (p:=P1 K Pd c=some (some (.ref C))) e1,⟨e2⟩⟩
theorem jv {st:TY} (ec:aS K (.cls c C)=aT w (.cls c C)) (e:aS K (.me C m x qual f st)=aT w (.me C m x qual f st))
 (ck:ff (aa st) fn.ns true fn.body (aq st)) (sc:aM fn.ns fn.ps (aa st):=by constructor<;>first | rfl | decide +kernel) (hb:BdT x qual st fn:=by intro _ _ _ _ _ _ us hl;first | (obtain ⟨a0,a1,rfl⟩:=AV hl;rfl) | (obtain ⟨a0,rfl⟩:=DM hl;rfl) | (obtain ⟨a0,a1,a2,rfl⟩:=w5 hl;rfl) | (obtain ⟨a0,a1,a2,a3,rfl⟩:=AW hl;rfl)) (tg:lX fn.ns=true:=by decide +kernel):qy K c m fn:=by
 have hC:=qW ec
 simp only[aS,aT,Ov.fn.injEq] at e
 obtain ⟨e1,e2⟩:=e
 obtain ⟨fd,F,kV,doc,pm,an,cdv,ct,rfl⟩:=o8 e2
 have e1':meB K C m f=true:=by
  cases q:meB K C m f with
  | true=>rfl
  | false=>rw[q] at e1;cases e1
 simp only[meB,OY,decide_eq_true_eq] at e1'
 exact ⟨C,f,_,x,qual,st,hC,⟨e1'.1,e1'.2,F.kp⟩,F,sc,F.binds hb,ck,tH tg⟩
noncomputable def DN:List TY->List TY
 | [.Try b _ _ _ _]=>b
 | _=>[]
end
section
variable {P:Pv}{w:P0}{K:OX}{h:Heap}{mg:Str->Option Value}{D:O9}{xs:List (Str×O9)}
theorem qY (e:aS K (.exc D xs)=aT w (.exc D xs)) (hx:xs.map (·.1)=(["NoMoment","NoThing"]:List Str)):(∀ c,raN c=true->∃ C,CN K c C/\kg K C/\oQ K C D=true)/\kg K D/\CN K "TapeError" D:=by
 simp only[aS,aT,Ov.b.injEq] at e
 unfold Iz at e
 obtain ⟨e1,e2⟩:=Bool.and_eq_true_iff.mp e
 have e3:=List.all_eq_true.mp e2
 refine ⟨fun c hc=>?_,(ju e1).2,(ju e1).1⟩
 have:c∈(["NoMoment","NoThing"]:List Str):=by rcases Li hc with rfl | rfl<;>simp
 rw[← hx] at this
 obtain ⟨p,hp,rfl⟩:=List.mem_map.mp this
 have q:=e3 _ hp
 unfold Iw at q
 simp only[OY,decide_eq_true_eq] at q
 obtain ⟨⟨⟨⟨⟨⟨⟨⟨⟨⟨⟨q1,q2⟩,q3⟩,q4⟩,q5⟩,q6⟩,q7⟩,q8⟩,q9⟩,q10⟩,q11⟩,q12⟩:=q
 exact ⟨p.2,(ju q1).1,(ju q1).2,q2⟩
theorem AY {TX:BT.FK->Option BT.Fn} (X:K.In h) (Gh:h.Ns Pd mg) (e:aS K (.exc D xs)=aT w (.exc D xs)) (hx:xs.map (·.1)=(["NoMoment","NoThing"]:List Str)) (df:∀ x fn,TX (.f x)=some fn->C7 K mg x fn) (me:∀ c m fn,TX (.m c m)=some fn->qy K c m fn):wJ K mg TX :=
 ⟨df,me,fun c hc=>by
  obtain ⟨C,h1,h3,_⟩:=(qY e hx).1 c hc
  exact ⟨C,h1,P5 X Gh h1,h3⟩⟩
theorem w9 {T TX:BT.FK->Option BT.Fn}{G:Str->Option BT.W} (X:K.In h) (Gh:h.Ns Pd mg) (XT:Txt P w K mg T G) (YT:wJ K mg TX) (e:aS K (.exc D xs)=aT w (.exc D xs)) (hx:xs.map (·.1)=(["NoMoment","NoThing"]:List Str))
 {k i:Nat}{fn:BT.Fn}{n tn cn:Str}{f:O9}{st:TY}{p1 p2 p3 p4 p5 p6 hp pos:Pos} (et:aS K (.fn tn f st)=aT w (.fn tn f st)) (hcn:raN cn=true)
 (hB:aq st=[.Try (DN (aq st)) [.ExceptHandler (some (.Name "TapeError" p1)) (some n) [.Return (some (.Call (.Name "isinstance" p2) [.Name n p3,.Name cn p4] [] p5)) p6] hp] [] [] pos])
 (h6:ff (aa st) fn.ns false fn.body (DN (aq st))) (hi:fn.ns[i]?=some n) (hln:(aa st).names.lookup n=some .local)
 (hgD:av (aa st) "TapeError"=true) (hgC:av (aa st) cn=true) (hgI:av (aa st) "isinstance"=true)
 (h5:CSs (aa st) fn.ns fn.body (DN (aq st)):=by repeat' (first | rfl | constructor | decide +kernel)) (s3:aM fn.ns fn.ps (aa st):=by constructor<;>first | rfl | decide +kernel)
 (hb:BdT tn tn st fn:=by intro _ _ _ _ _ _ us hl;first | (obtain ⟨a0,a1,rfl⟩:=AV hl;rfl) | (obtain ⟨a0,a1,a2,rfl⟩:=w5 hl;rfl) | (obtain ⟨a0,a1,a2,a3,rfl⟩:=AW hl;rfl))
 (tg:lX fn.ns=true:=by decide +kernel) (okn:aA n=true:=by decide +kernel) (okC:aA cn=true:=by decide +kernel) :
 ∃ fa fd ps,mg tn=some (.ref fa)/\PK K (.ref fa)=true/\Binds K fd ps []/\∀ base,bS P w K mg base CX0 (2*(k+1)) fa fd ps (spF P w K (jj (BT.runN T G k) (BT.dS T TX G k) (BT.dk T) G fn cn)):=by
 obtain ⟨z1,z2,z3⟩:=qY e hx
 obtain ⟨C,c1,c3,c4⟩:=z1 cn hcn
 simp only[aS,aT,Ov.fn.injEq] at et
 obtain ⟨fd,F,kV,doc,pm,an,cdv,ct,rfl⟩:=o8 et.2
 refine ⟨f,_,fn.ps,P5 X Gh (lY et.1),F.kp,F.binds hb,fun base=>?_⟩
 exact Ac XT YT c1 (P5 X Gh c1) c3 c4 F s3 hB h5 h6 (qV tg) hi hln okn hgD (by decide) (P5 X Gh z3) z2 hgC okC hgI
end
theorem xg {l:PySem.W.OpenLaw}{n k:Nat}{q:Pv}{loose:List Str}{XP:(Str->Option Value)->Heap->Prop}{d:DefRec}{as:List O9}{qs:List Qy}{ts:List O9}{tl:List (Str×O9×O9)}{T:BT.FK->Option BT.Fn}{G:Str->Option BT.W}{fn fm:BT.Fn}{x tn c m:Str}{told:List BT.W->BT.HH->Option (BT.W×BT.HH)}
 (hn:l.most=some n) (hn2:n<=sizeLine) (hdf:d.params.defaults=[]) (hr:bA (2*(k+1)+1+1) Vu) (hps:fn.ps=[x]) (hT:T (.f d.name)=some fn) (hTm:T (.m c m)=some fm) (hm:¬ ("__init__":Str)=m) (hts:ts=tl.map (·.2.2)) (hto:tl.all (fun p=>!as.contains p.2.2)=true)
 (FT:∀ (w:P0) (K:OX),(∀ q∈qs,aS K q=aT w q)->HG K tl)
 (F:∀ (P:Pv) (w:P0) (mg:Str->Option Value) (K:OX) (h:Heap),K.In h->h.Ns Pd mg->(∀ q∈qs,aS K q=aT w q)->Txt P w K mg T G)
 (FX:∀ (P:Pv) (w:P0) (mg:Str->Option Value) (K:OX) (h:Heap),K.In h->h.Ns Pd mg->(∀ q∈qs,aS K q=aT w q)->∃ fa fd ps,mg tn=some (.ref fa)/\PK K (.ref fa)=true/\Binds K fd ps []/\∀ base,bS P w K mg base CX0 (2*(k+1)) fa fd ps (spF P w K told))
 (hrun:∀ ns:List Int,ns.length<=n->∃ h',qA (jW tn told (ji c m (runK (BT.runN T G k) G fm) (BT.runN T G (k+1)))) G fn [.p (.lst (BT.ah ns))] []=some (.p (.bl true),h')) :
 PySem.W.WalkO q loose XP (sees as qs ts).says l.row.toRowW d [] (fun f vs=>Vw f vs):=by
 refine Att.pR hn hdf fun w s₀ s₁ mg mb fa o pm cd doc a vs ns Gr Y ho hd hcd hmg hobj hints hlen hg=>?_
 obtain ⟨K,k0,k1,k2,k3⟩:=Y
 have KX:=DK k1
 have X:=F l.prog w mg K s₁.heap KX Gr.T.g k2
 obtain ⟨fa',fd',ps',t1,t2,t3,t4⟩:=FX l.prog w mg K s₁.heap KX Gr.T.g k2
 obtain ⟨f,fd,st,h1,h2,h3,h4,h5,h6⟩:=(X.defs _ fn hT).ex
 obtain ⟨C,fg,fdg,x',q',st',b1,b2,b3,b4,a2,a3,a4,a5,a6⟩:=(X.meths c m fm hTm).ex
 rw[hmg] at h1
 cases h1
 refine w6 (sp:=spF l.prog w K (qA (jW tn told (ji c m (runK (BT.runN T G k) G fm) (BT.runN T G (k+1)))) G fn)) (x:=x) (k:=2*(k+1)+1+1) (fd:=fd) (tl:=tl) KX Gr.T.g Gr.T.b Gr.T.builtins Gr.T.nolimit hg hobj hints (PD hlen hn2) hr (FT w K k2) (fun p hp=>k3 _ (by rw[hts];exact Vg hp)) (fun p hp=>?_) (fun base=>?_) (fun s u hK=>?_) (fun H tb hS=>AO tb hS (hrun ns hlen))
 ·cases e:K.lookup p.2.2 with
  | none=>rfl
  | some o =>
   have m:=tK e
   rw[k0] at m
   have:=List.all_eq_true.mp hto p hp
   rw[List.contains_iff_mem.mpr m] at this;cases this
 ·have:=wK (base:=base) X (k+1) h2 h3 h5 h6 t1 t2 t3 (t4 base) hm b1 b3 a4 (De X k a2 a3 a5 a6)
  rw[hps] at this
  exact this
 ·have:=h4 s [u] hK (by rw[hps];rfl)
  rw[hps] at this
  exact this
end BG
end
section
namespace BL
open PySem PySem.Spec PyProof.Rows L2 BS BF BG
theorem NV:CkB "is_whole" "is_whole" (top 10) BT.eY:={}
theorem NW:CkB "is_name" "is_name" (top 11) BT.fZ:={}
theorem NX:CkB "inner_sums" "inner_sums" (top 13) BT.bY:={}
theorem NY:CkB "begun" "begun" (top 22) BT.jk:={}
theorem NZ:CkB "worth_in" "worth_in" (top 24) BT.eV:={}
theorem N3:CkB "laid_out" "laid_out" (top 25) BT.eU:={}
theorem N4:CkB "of_two" "of_two" (top 26) BT.ig:={}
theorem N5:CkB "worth_of" "worth_of" (top 27) BT.bM:={}
theorem N6:CkB "reckoned" "reckoned" (top 28) BT.eW:={}
theorem N7:CkB "cell_by" "cell_by" (top 29) BT.f6:={}
theorem N8:CkB "is_over" "is_over" (top 30) BT.dU:={}
theorem N9:CkB "place_behind" "place_behind" (top 31) BT.cj:={}
theorem Oa:CkB "with_worth" "with_worth" (top 32) BT.cX:={}
theorem Ob:CkB "with_name" "with_name" (top 33) BT.dH:={}
theorem Oc:CkB "brought" "brought" (top 34) BT.dW:={}
theorem Od:CkB "stepped" "stepped" (top 35) BT.f7:={}
theorem Oe:CkB "states" "states" (top 36) BT.fK:={}
theorem Of:CkB "_law_cell" "_law_cell" (top 41) BT.dj:={}
theorem Og:CkB "_law_drawn" "_law_drawn" (top 42) BT.dI:={}
theorem Oh:CkB "_law_sum" "_law_sum" (top 43) BT.cz:={}
theorem Oi:CkB "_law_row" "_law_row" (top 44) BT.f9:={}
theorem Oj:CkB "_law_program" "_law_program" (top 45) BT.bN:={}
theorem Ol:CkB "_law_asked" "_law_asked" (top 46) BT.dJ:={}
theorem Om:CkB "_law_marks" "_law_marks" (top 47) BT.cK:={}
theorem On:CkB "law" "law" (top 49) BT.dZ:={}
theorem HJ:CkB "__init__" "Tape.__init__" (bf 39 0) BT.dM:={}
theorem HK:CkB "at" "Tape.at" (bf 39 1) BT.dX:={}
theorem HL:CkB "end" "Tape.end" (bf 39 2) BT.eZ:={}
theorem HM:CkB "moment" "Tape.moment" (bf 39 3) BT.cH:={}
theorem HN:CkB "state" "Tape.state" (bf 39 4) BT.fh:={}
theorem HP:CkB "to" "Tape.to" (bf 39 5) BT.dY:={}
theorem HQ:CkB "go" "Tape.go" (bf 39 6) BT.gf:={}
theorem HR:CkB "back" "Tape.back" (bf 39 7) BT.gi:={}
theorem HS:CkB "marks" "Tape.marks" (bf 39 8) BT.bG:={}
theorem HU:CkB "cost" "Tape.cost" (bf 39 9) BT.aR:={}
theorem DO:CkB "behind" "Tape.behind" (bf 39 10) BT.cI:={}
theorem DP:CkB "is_last" "Tape.is_last" (bf 39 11) BT.bE:={}
theorem DQ:CkB "keep" "Tape.keep" (bf 39 12) BT.cJ:={}
theorem DR:CkB "reach" "Tape.reach" (bf 39 13) BT.cY:={}
theorem DS:CkB "has" "Tape.has" (bf 39 14) BT.bw:={}
theorem DT:CkB "check" "Tape.check" (bf 39 15) BT.bZ:={}
noncomputable def tab:List (BT.FK×BT.Fn):=[(.f "is_whole",BT.eY),(.f "is_name",BT.fZ),(.f "inner_sums",BT.bY),(.f "begun",BT.jk),(.f "worth_in",BT.eV),(.f "laid_out",BT.eU),(.f "of_two",BT.ig),(.f "worth_of",BT.bM),(.f "reckoned",BT.eW),(.f "cell_by",BT.f6),(.f "is_over",BT.dU),(.f "place_behind",BT.cj),(.f "with_worth",BT.cX),(.f "with_name",BT.dH),(.f "brought",BT.dW),(.f "stepped",BT.f7),(.f "states",BT.fK),(.f "_law_cell",BT.dj),(.f "_law_drawn",BT.dI),(.f "_law_sum",BT.cz),(.f "_law_row",BT.f9),(.f "_law_program",BT.bN),(.f "_law_asked",BT.dJ),(.f "_law_marks",BT.cK),(.f "law",BT.dZ),(.m "Tape" "__init__",BT.dM),(.m "Tape" "at",BT.dX),(.m "Tape" "end",BT.eZ),(.m "Tape" "moment",BT.cH),(.m "Tape" "state",BT.fh),(.m "Tape" "to",BT.dY),(.m "Tape" "go",BT.gf),(.m "Tape" "back",BT.gi),(.m "Tape" "marks",BT.bG),(.m "Tape" "cost",BT.aR),(.m "Tape" "behind",BT.cI),(.m "Tape" "is_last",BT.bE),(.m "Tape" "keep",BT.cJ),(.m "Tape" "reach",BT.cY),(.m "Tape" "has",BT.bw),(.m "Tape" "check",BT.bZ)]
noncomputable def glo:List (Str×BT.W):=[("CELL_COUNT",.p (.int 4)),("WORTH_COUNT",.p (.int 10007)),("ROW",.p (.int 0)),("NAMES",.p (.int 1)),("CELLS",.p (.int 2)),("CALLS",.p (.int 3)),("ASKED",.p (.int 4)),("SAID",.p (.int 5)),("MOST_CALLS",.p (.int 6)),("MOST_MARKS",.p (.int 8)),("LETTERS",.p (.tup ((["a","b","c","d","e","f"]:List Str).map BT.D.str))),("INNER_COUNTS",.k (.t (([("num",0),("name",0),("cell",1),("add",2),("sub",2),("mul",2),("less",2)]:List (Str×Int)).map fun q=>(q.1,BT.D.int q.2))))]
noncomputable abbrev T:BT.FK->Option BT.Fn:=look tab
noncomputable abbrev G:Str->Option BT.W:=look glo
noncomputable def AZ:List (BT.FK×BT.Fn):=[(.m "Tape" "check",BT.gQ),(.m "Tape" "at",BT.qP),(.m "Tape" "to",BT.qQ),(.m "Tape" "cost",BT.jr)]
noncomputable abbrev TX:BT.FK->Option BT.Fn:=look AZ
theorem prg:BT.Prg T G:=⟨rfl,rfl,rfl,rfl,rfl,rfl,rfl,rfl,rfl,rfl,rfl,rfl,rfl,rfl,rfl,rfl,rfl,rfl,rfl,rfl,rfl,rfl,rfl,rfl,rfl,rfl⟩
theorem tpp:BT.TpP T G:=⟨prg,rfl,rfl,rfl,rfl,rfl,rfl,rfl,rfl,rfl,rfl⟩
theorem Oo:BT.AK T TX:=⟨⟨rfl,rfl,rfl,rfl,rfl⟩,rfl,rfl,rfl,⟨rfl,rfl,rfl,rfl,rfl,rfl⟩,rfl,⟨⟨rfl,rfl⟩,rfl,rfl⟩⟩
noncomputable abbrev F12:FT:=jW "_law_told" (BT.jN T TX G 29) (ji "Tape" "marks" (runK (BT.runN T G 29) G BT.bG) (BT.runN T G 30))
theorem pm (m:Str) (h:¬ m="marks"):F12 (.m "Tape" m)=BT.runN T G 30 (.m "Tape" m):=lM (fun q=>h q.2)
theorem pq:F12 (.m "Tape" "marks")=runK (BT.runN T G 29) G BT.bG:=by
 show ji "Tape" "marks" (runK (BT.runN T G 29) G BT.bG) (BT.runN T G 30) (.m "Tape" "marks")=_
 exact nA
theorem run (ns:List Int) (h:ns.length<=1000):∃ h',qA F12 G BT.dZ [.p (.lst (BT.ah ns))] []=some (.p (.bl true),h') :=
 BT.wX (T:=T) (TX:=TX) (G:=G) (k:=17) (F:=F12) tpp Oo ⟨pm _ (by decide),pm _ (by decide),fun y hy=>uM hy,qz,pq⟩ ns h
theorem Lj (w:P0) (K:OX) (hq:∀ q∈qys,aS K q=aT w q):HG K tl:=by
 refine ⟨fun z hz=>?_,fun p hp=>?_⟩
 ·simp only[BT.dG,QB,Qf,or_false] at hz
  rcases hz with rfl | rfl | rfl | rfl | rfl | rfl | rfl | rfl | rfl | rfl | rfl | rfl | rfl | rfl | rfl
  ·exact .inr (aP (w:=w) (hn hq 58 rfl))
  ·exact .inr (aP (w:=w) (hn hq 59 rfl))
  ·exact .inr (aP (w:=w) (hn hq 60 rfl))
  ·exact .inr (aP (w:=w) (hn hq 61 rfl))
  ·exact .inr (aP (w:=w) (hn hq 62 rfl))
  ·exact .inr (aP (w:=w) (hn hq 63 rfl))
  ·exact .inr (aP (w:=w) (hn hq 64 rfl))
  ·exact .inr (aP (w:=w) (hn hq 65 rfl))
  ·exact .inr (aP (w:=w) (hn hq 66 rfl))
  ·exact .inr (aP (w:=w) (hn hq 67 rfl))
  ·exact .inr (aP (w:=w) (hn hq 68 rfl))
  ·exact .inr (aP (w:=w) (hn hq 69 rfl))
  ·exact .inr (aP (w:=w) (hn hq 70 rfl))
  ·exact .inr (aP (w:=w) (hn hq 71 rfl))
  ·exact .inr (aP (w:=w) (hn hq 72 rfl))
 ·simp[tl] at hp
theorem txt (P:Pv) (w:P0) (mg:Str->Option Value) (K:OX) (h:Heap) (X:K.In h) (Gh:h.Ns Pd mg) (hq:∀ q∈qys,aS K q=aT w q):Txt P w K mg T G:=by
 have tbf:=Lj w K hq
 have all:∀ p∈tab,qX K mg p:=by
  intro p hp
  simp only[tab,QB,Qf,or_false] at hp
  rcases hp with rfl | rfl | rfl | rfl | rfl | rfl | rfl | rfl | rfl | rfl | rfl | rfl | rfl | rfl | rfl | rfl | rfl | rfl | rfl | rfl | rfl | rfl | rfl | rfl | rfl | rfl | rfl | rfl | rfl | rfl | rfl | rfl | rfl | rfl | rfl | rfl | rfl | rfl | rfl | rfl | rfl
  ·exact dd0 X Gh (hn hq 0 rfl) NV
  ·exact dd0 X Gh (hn hq 1 rfl) NW
  ·exact dd0 X Gh (hn hq 2 rfl) NX
  ·exact dd0 X Gh (hn hq 3 rfl) NY
  ·exact dd0 X Gh (hn hq 4 rfl) NZ
  ·exact dd0 X Gh (hn hq 5 rfl) N3
  ·exact dd0 X Gh (hn hq 6 rfl) N4
  ·exact dd0 X Gh (hn hq 7 rfl) N5
  ·exact dd0 X Gh (hn hq 8 rfl) N6
  ·exact dd0 X Gh (hn hq 9 rfl) N7
  ·exact dd0 X Gh (hn hq 10 rfl) N8
  ·exact dd0 X Gh (hn hq 11 rfl) N9
  ·exact dd0 X Gh (hn hq 12 rfl) Oa
  ·exact dd0 X Gh (hn hq 13 rfl) Ob
  ·exact dd0 X Gh (hn hq 14 rfl) Oc
  ·exact dd0 X Gh (hn hq 15 rfl) Od
  ·exact dd0 X Gh (hn hq 16 rfl) Oe
  ·exact dd0 X Gh (hn hq 17 rfl) Of
  ·exact dd0 X Gh (hn hq 18 rfl) Og
  ·exact dd0 X Gh (hn hq 19 rfl) Oh
  ·exact dd0 X Gh (hn hq 20 rfl) Oi
  ·exact dd0 X Gh (hn hq 21 rfl) Oj
  ·exact dd0 X Gh (hn hq 22 rfl) Ol
  ·exact dd0 X Gh (hn hq 23 rfl) Om
  ·exact dd0 X Gh (hn hq 24 rfl) On
  ·exact dm0 X Gh (hn hq 73 rfl) (hn hq 74 rfl) (hn hq 75 rfl) HJ
  ·exact dm0 X Gh (hn hq 73 rfl) (hn hq 74 rfl) (hn hq 76 rfl) HK
  ·exact dm0 X Gh (hn hq 73 rfl) (hn hq 74 rfl) (hn hq 77 rfl) HL
  ·exact dm0 X Gh (hn hq 73 rfl) (hn hq 74 rfl) (hn hq 78 rfl) HM
  ·exact dm0 X Gh (hn hq 73 rfl) (hn hq 74 rfl) (hn hq 79 rfl) HN
  ·exact dm0 X Gh (hn hq 73 rfl) (hn hq 74 rfl) (hn hq 80 rfl) HP
  ·exact dm0 X Gh (hn hq 73 rfl) (hn hq 74 rfl) (hn hq 81 rfl) HQ
  ·exact dm0 X Gh (hn hq 73 rfl) (hn hq 74 rfl) (hn hq 82 rfl) HR
  ·exact dm0 X Gh (hn hq 73 rfl) (hn hq 74 rfl) (hn hq 83 rfl) HS
  ·exact dm0 X Gh (hn hq 73 rfl) (hn hq 74 rfl) (hn hq 84 rfl) HU
  ·exact dm0 X Gh (hn hq 73 rfl) (hn hq 74 rfl) (hn hq 85 rfl) DO
  ·exact dm0 X Gh (hn hq 73 rfl) (hn hq 74 rfl) (hn hq 86 rfl) DP
  ·exact dm0 X Gh (hn hq 73 rfl) (hn hq 74 rfl) (hn hq 87 rfl) DQ
  ·exact dm0 X Gh (hn hq 73 rfl) (hn hq 74 rfl) (hn hq 88 rfl) DR
  ·exact dm0 X Gh (hn hq 73 rfl) (hn hq 74 rfl) (hn hq 89 rfl) DS
  ·exact dm0 X Gh (hn hq 73 rfl) (hn hq 74 rfl) (hn hq 90 rfl) DT
 refine ⟨fun x fn e=>?_,fun c m fn e=>?_,fun L fn e=>?_,fun x z e=>?_,fun x hx=>?_⟩
 ·exact d7 (Q:=fun k fn=>∀ x,k=.f x->Def K mg x fn) (l:=tab) (fun p hp=>(all p hp).1) e x rfl
 ·exact d7 (Q:=fun k fn=>∀ c m,k=.m c m->zQ K mg c m fn) (l:=tab) (fun p hp=>(all p hp).2.1) e c m rfl
 ·exact d7 (Q:=fun k fn=>∀ L,k=.l L->BT.mD L=some fn/\∃ ns bt,fn=⟨ns,ns,.ret bt⟩/\∀ y,ns.contains (BT.bU y)=false) (l:=tab) (fun p hp=>(all p hp).2.2) e L rfl
 ·refine d7 (Q:=fun x z=>tG P w K mg x z) (l:=glo) (fun p hp=>?_) e
  simp only[glo,QB,Qf,or_false] at hp
  rcases hp with rfl | rfl | rfl | rfl | rfl | rfl | rfl | rfl | rfl | rfl | rfl | rfl
  ·exact b7 X Gh (hn hq 25 rfl)
  ·exact b7 X Gh (hn hq 26 rfl)
  ·exact b7 X Gh (hn hq 27 rfl)
  ·exact b7 X Gh (hn hq 28 rfl)
  ·exact b7 X Gh (hn hq 29 rfl)
  ·exact b7 X Gh (hn hq 30 rfl)
  ·exact b7 X Gh (hn hq 31 rfl)
  ·exact b7 X Gh (hn hq 32 rfl)
  ·exact b7 X Gh (hn hq 33 rfl)
  ·exact b7 X Gh (hn hq 34 rfl)
  ·exact AS X Gh (hn hq 35 rfl) (by decide) (by decide +kernel)
  ·exact AU X Gh (hn hq 36 rfl) (by decide) (by decide +kernel)
 ·simp only[Gd,QB,Qf,or_false] at hx
  rcases hx with rfl | rfl | rfl | rfl | rfl | rfl | rfl | rfl | rfl | rfl | rfl | rfl | rfl | rfl | rfl | rfl | rfl | rfl | rfl | rfl | rfl
  ·exact none_of X Gh (hn hq 37 rfl)
  ·exact none_of X Gh (hn hq 38 rfl)
  ·exact none_of X Gh (hn hq 39 rfl)
  ·exact none_of X Gh (hn hq 40 rfl)
  ·exact none_of X Gh (hn hq 41 rfl)
  ·exact none_of X Gh (hn hq 42 rfl)
  ·exact none_of X Gh (hn hq 43 rfl)
  ·exact none_of X Gh (hn hq 44 rfl)
  ·exact none_of X Gh (hn hq 45 rfl)
  ·exact none_of X Gh (hn hq 46 rfl)
  ·exact none_of X Gh (hn hq 47 rfl)
  ·exact none_of X Gh (hn hq 48 rfl)
  ·exact none_of X Gh (hn hq 49 rfl)
  ·exact none_of X Gh (hn hq 50 rfl)
  ·exact none_of X Gh (hn hq 51 rfl)
  ·exact none_of X Gh (hn hq 52 rfl)
  ·exact none_of X Gh (hn hq 53 rfl)
  ·exact none_of X Gh (hn hq 54 rfl)
  ·exact none_of X Gh (hn hq 55 rfl)
  ·exact none_of X Gh (hn hq 56 rfl)
  ·exact none_of X Gh (hn hq 57 rfl)
theorem cxT:ff (aa (top 48)) BT.fj.ns false BT.fj.body (DN (aq (top 48))):=.cons ce (.ife rfl ce (.one (.ret (.idx (.meth rfl rfl (by decide) ce ce)))) .nil) (.cons ce (.ife rfl ce (.one (.ret (.meth rfl rfl (by decide) ce ce))) .nil) (.cons ce (.ife rfl ce (.one (.ret (.meth rfl rfl (by decide) ce ce))) .nil) (.one (.ret (.ite rfl ce (.meth rfl rfl (by decide) ce ce) (.meth rfl rfl (by decide) ce ce))))))
theorem DU:ff (aa (bf 39 15)) BT.gQ.ns true BT.gQ.body (aq (bf 39 15)):=.one (.ife rfl ce (.one (.rai rfl rfl rfl rfl rfl (by decide +kernel) ce)) .nil)
theorem HV:ff (aa (bf 39 1)) BT.qP.ns true BT.qP.body (aq (bf 39 1)):=.cons ce (.ex rfl (.meth rfl rfl (by decide) ce ce)) .bads
theorem HW:ff (aa (bf 39 5)) BT.qQ.ns true BT.qQ.body (aq (bf 39 5)):=.cons ce (.ex rfl (.meth rfl rfl (by decide) ce ce)) .bads
theorem HX:ff (aa (bf 39 9)) BT.jr.ns true BT.jr.body (aq (bf 39 9)):=.cons ce (.ex rfl (.meth rfl rfl (by decide) ce ce)) .bads
theorem txX (w:P0) (mg:Str->Option Value) (K:OX) (h:Heap) (X:K.In h) (Gh:h.Ns Pd mg) (hq:∀ q∈qys,aS K q=aT w q):wJ K mg TX:=by
 have all:∀ p∈AZ,(∀ x,p.1=.f x->C7 K mg x p.2)/\∀ c m,p.1=.m c m->qy K c m p.2:=by
  intro p hp
  simp only[AZ,QB,Qf,or_false] at hp
  rcases hp with rfl | rfl | rfl | rfl
  ·exact ⟨fun x e=>(by cases e),fun c m e=>by cases e;exact jv (hn hq 73 rfl) (hn hq 90 rfl) DU⟩
  ·exact ⟨fun x e=>(by cases e),fun c m e=>by cases e;exact jv (hn hq 73 rfl) (hn hq 76 rfl) HV⟩
  ·exact ⟨fun x e=>(by cases e),fun c m e=>by cases e;exact jv (hn hq 73 rfl) (hn hq 80 rfl) HW⟩
  ·exact ⟨fun x e=>(by cases e),fun c m e=>by cases e;exact jv (hn hq 73 rfl) (hn hq 84 rfl) HX⟩
 refine AY X Gh (hn hq 92 rfl) rfl (fun x fn e=>?_) fun c m fn e=>?_
 ·exact d7 (Q:=fun k fn=>∀ x,k=.f x->C7 K mg x fn) (l:=AZ) (fun p hp=>(all p hp).1) e x rfl
 ·exact d7 (Q:=fun k fn=>∀ c m,k=.m c m->qy K c m fn) (l:=AZ) (fun p hp=>(all p hp).2) e c m rfl
theorem tld (P:Pv) (w:P0) (mg:Str->Option Value) (K:OX) (h:Heap) (X:K.In h) (Gh:h.Ns Pd mg) (hq:∀ q∈qys,aS K q=aT w q) :
 ∃ fa fd ps,mg "_law_told"=some (.ref fa)/\PK K (.ref fa)=true/\Binds K fd ps []/\∀ base,bS P w K mg base CX0 (2*30) fa fd ps (spF P w K (BT.jN T TX G 29)) :=
 w9 (i:=3) X Gh (txt P w mg K h X Gh hq) (txX w mg K h X Gh hq) (hn hq 92 rfl) rfl (hn hq 91 rfl) rfl rfl cxT rfl rfl rfl rfl rfl
noncomputable abbrev lw:DefRec:=⟨"law",b8 (top 49),aq (top 49),aa (top 49),Mu (top 49)⟩
theorem df:PySem.W.defOf qg "law"=some (lw,[]):=by kernel_rfl
theorem th:pg.theDef "law"=some (lw.params,lw.body,lw.scope):=by kernel_rfl
theorem walk:PySem.W.WalkO qg loo (PySem.W.XL qg []) (sees adr qys tas).says PySem.Challenge.rw_backtape_k12_marks.row.toRowW lw [] (fun f vs=>Vw f vs) :=
 xg (l:=PySem.Challenge.rw_backtape_k12_marks) (n:=63) (k:=29) (x:="_law_script") (d:=lw) (c:="Tape") (m:="marks") (fm:=BT.bG) (tn:="_law_told") (told:=BT.jN T TX G 29) (T:=T) (G:=G) (ts:=tas) (fn:=BT.dZ) rfl (by decide) rfl ⟨rfl,by decide,by decide⟩ rfl rfl rfl (by decide) (tl:=tl) rfl (by decide +kernel) Lj txt tld fun ns hl=>run ns (by lia)
end BL
open PySem PySem.W PyProof.Rows
set_option maxRecDepth 100000 in
set_option maxHeartbeats 0 in
theorem PySem.Challenge.cw_backtape_k12_marks_holds : PySem.Challenge.rw_backtape_k12_marks.Holds := by
 w_on;refine PySem.W.holds_law (by decide +kernel) fun said=>?_
 refine PySem.W.holds_open (q:=BL.qg) (loose:=BL.loo) (XP:=XL BL.qg []) (YP:=(BG.sees BL.adr BL.qys BL.tas).says) (d:=BL.lw) (kwd:=[]) BL.left (BG.sees BL.adr BL.qys BL.tas).of (BG.sees BL.adr BL.qys BL.tas).keeps (fun s e=>xl_of s (Bool.and_eq_true_iff.mp e).1) XL.keeps BL.df BL.th (by kernel_rfl) (fun s e=>recFacts_of (Bool.and_eq_true_iff.mp e).2) rfl (by first | assumption | decide +kernel) (by decide +kernel) ⟨rfl,rfl,rfl,rfl,rfl,by decide +kernel⟩ ?hw BL.walk
 (case hw=>w_witness2)
#print axioms PySem.Challenge.cw_backtape_k12_marks_holds
end
end
